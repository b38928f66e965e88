import Derived.Laws.AppendOwn
import Derived.Laws.Tables
import Derived.Below
import Derived.Test.YtahoileampdnkaaRows
import Derived.Test.YtahoileampdnkaaMEO
import Derived.Test.YtahoileampdnkaaMN
import Derived.Test.YtahoileampdnkaaMU
import Derived.Test.YtahoileampdnkaaMJG
import Derived.Lib.AppendZeros
import Derived.Deep.CutRange
/-
  Own rows of any width: what append, a store and other calls leave of them.
-/
namespace Go.Proofs.Ytahoileampdnkaa.Me
open Go Go.RowKit
set_option maxHeartbeats 1000000
set_option maxRecDepth 100000

/-- All but the blocks of S. -/
structure Keeps (S : Nat → Prop) (w w' : World) : Prop where
  os : w'.os = w.os
  tape : w'.tape = w.tape
  output : w'.output = w.output
  size : w.heap.size ≤ w'.heap.size
  block : ∀ k, k < w.heap.size → ¬ S k → w'.heap[k]? = w.heap[k]?

theorem Keeps.refl (S : Nat → Prop) (w : World) : Keeps S w w := ⟨rfl, rfl, rfl, Nat.le_refl _, fun _ _ _ => rfl⟩
theorem Keeps.trans {S : Nat → Prop} {a b c : World} (h : Keeps S a b) (h' : Keeps S b c) : Keeps S a c := ⟨h'.os.trans h.os, h'.tape.trans h.tape, h'.output.trans h.output, Nat.le_trans h.size h'.size, fun k hk hn => (h'.block k (Nat.lt_of_lt_of_le hk h.size) hn).trans (h.block k hk hn)⟩
theorem Keeps.mono {S S' : Nat → Prop} {a b : World} (h : Keeps S a b) (hs : ∀ k, k < a.heap.size → S k → S' k) : Keeps S' a b := ⟨h.os, h.tape, h.output, h.size, fun k hk hn => h.block k hk fun hk' => hn (hs k hk hk')⟩
theorem Keeps.of {S : Nat → Prop} {a b : World} (h : Below a.heap.size a b) : Keeps S a b := ⟨h.os, h.tape, h.output, h.size, fun k hk _ => h.block k hk⟩
theorem Keeps.grown {S : Nat → Prop} {a b : World} {r : Option Nat} (h : a.grownBy b r) (hr : ∀ k, r = some k → S k) : Keeps S a b := ⟨h.os, h.tape, h.output, h.size, fun k hk hn => h.block k hk fun e => hn (hr k e.symm)⟩
theorem Keeps.set {S : Nat → Prop} {a b : World} (h : Keeps S a b) (p : Addr) (hp : S p.block) (v : Value) : Keeps S a (b.setCell p v) :=
  ⟨h.os, h.tape, h.output, by simpa [World.setCell] using h.size, fun j hj hn => by
    have hne : p.block ≠ j := fun e => hn (e ▸ hp)
    rw [← h.block j hj hn]
    simp [World.setCell, Array.getElem?_modify, hne]⟩
theorem Keeps.below {S : Nat → Prop} {a b : World} (h : Keeps S a b) {B : Nat} (hB : B ≤ a.heap.size) (hs : ∀ k, S k → B ≤ k) : Below B a b := ⟨h.os, h.tape, h.output, h.size, fun k hk => h.block k (by omega) fun hk' => by have := hs k hk'; omega⟩

/-- The block is that of before, or new. -/
def NwB (v v' : Value) (n : Nat) : Prop := ∀ g, v'.ownBlock = some g → v.ownBlock = some g ∨ n ≤ g

theorem row_keeps {S : Nat → Prop} {w w' : World} {B : Nat} {e : TypeId} {sz : Nat} {v : Value} {n : Nat} {xs : List Value} (h : w.ownsRow B e sz v n xs) (hk : Keeps S w w') (hn : ∀ k, v.ownBlock = some k → ¬ S k) : w'.ownsRow B e sz v n xs := by
  refine ⟨h.1, ?_⟩
  rcases h.2 with h0 | ⟨g, cap, cur, rfl, hbb, hg, rest⟩
  · exact .inl h0
  · exact .inr ⟨g, cap, cur, rfl, hbb, (hk.block g (Array.getElem?_eq_some_iff.1 hg).1 (hn g rfl)).trans hg, rest⟩
theorem row_below {w w' : World} {B : Nat} {e : TypeId} {sz : Nat} {v : Value} {n : Nat} {xs : List Value} (h : w.ownsRow B e sz v n xs) (hb : Below w.heap.size w w') : w'.ownsRow B e sz v n xs :=
  row_keeps (S := fun _ => False) h (Keeps.of hb) fun _ _ e => e
theorem row_low {w : World} {B B' : Nat} {e : TypeId} {sz : Nat} {v : Value} {n : Nat} {xs : List Value} (h : w.ownsRow B e sz v n xs) (hb : B' ≤ B) : w.ownsRow B' e sz v n xs := by
  refine ⟨h.1, ?_⟩
  rcases h.2 with h0 | ⟨g, cap, cur, rfl, hbb, rest⟩
  · exact .inl h0
  · exact .inr ⟨g, cap, cur, rfl, Nat.le_trans hb hbb, rest⟩
theorem row_kind {w : World} {B : Nat} {e : TypeId} {sz : Nat} {v : Value} {n : Nat} {xs : List Value} (h : w.ownsRow B e sz v n xs) {k : Nat} (hk : v.ownBlock = some k) : ∃ cs, w.heap[k]? = some (.cells cs e (0, 0)) := by
  rcases h.2 with ⟨rfl, _⟩ | ⟨g', cap', cur', rfl, _, hgg, _⟩
  · cases hk
  · simp [Value.ownBlock] at hk
    subst hk
    exact ⟨_, hgg⟩
theorem row_ne {w : World} {B B' : Nat} {e e' : TypeId} {sz sz' : Nat} {v v' : Value} {n n' : Nat} {xs xs' : List Value} (h : w.ownsRow B e sz v n xs) (h' : w.ownsRow B' e' sz' v' n' xs') (he : e ≠ e') {k : Nat} (hk : v.ownBlock = some k) : v'.ownBlock ≠ some k := fun hk' => by
  obtain ⟨cs, hc⟩ := row_kind h hk
  obtain ⟨cs', hc'⟩ := row_kind h' hk'
  rw [hc] at hc'
  simp only [Option.some.injEq, Obj.cells.injEq] at hc'
  exact he hc'.2.1
theorem row_len {w : World} {B : Nat} {e : TypeId} {sz : Nat} {v : Value} {n : Nat} {xs : List Value} (h : w.ownsRow B e sz v n xs) : ∃ a cap, v = .slice a n cap ∧ n ≤ cap ∧ cap ≤ maxLen ∧ (a = none → n = 0 ∧ cap = 0) ∧ ∀ p, a = some p → ∃ g, p = ⟨g, 0, none⟩ ∧ B ≤ g ∧ g < w.heap.size := by
  rcases h.2 with ⟨rfl, rfl⟩ | ⟨g, cap, cur, rfl, hb, hg, h1, h2, _⟩
  · exact ⟨none, 0, rfl, Nat.le_refl _, by decide, fun _ => ⟨rfl, rfl⟩, fun p e => by cases e⟩
  · exact ⟨_, cap, rfl, h1, h2, (fun e => by cases e), (fun p e => by cases e; exact ⟨g, rfl, hb, (Array.getElem?_eq_some_iff.1 hg).1⟩)⟩
theorem row_cell {w : World} {B g : Nat} {e : TypeId} {sz cap n' : Nat} {n : Nat} {xs : List Value} (h : w.ownsRow B e sz (.slice (some ⟨g, 0, none⟩) n' cap) n xs) {j : Nat} {x : Value} (hj : xs[j]? = some x) : w.cell? ⟨g, j, none⟩ = some x ∧ w.frozen? ⟨g, j, none⟩ = false := by
  rcases h.2 with ⟨h0, _⟩ | ⟨g', cap', cur, h0, hb, hg, h1, h2, h3, h4⟩
  · cases h0
  · simp only [Value.slice.injEq, Option.some.injEq, Addr.mk.injEq, and_true] at h0
    obtain ⟨rfl, -, -⟩ := h0
    refine ⟨?_, frozen_of_row _ _ _ _ _ hg⟩
    rw [cell_of_row _ _ _ _ _ _ hg, ← Array.getElem?_toList]
    rw [← h4, List.getElem?_take] at hj
    split at hj
    · exact hj
    · cases hj
theorem set_cells {w : World} {b i : Nat} {cs : Array Value} {v : Value} {t : TypeId} (h : w.heap[b]? = some (.cells cs t (0, 0))) : (w.setCell ⟨b, i, none⟩ v).heap[b]? = some (.cells (cs.setIfInBounds i v) t (0, 0)) := by
  simp [World.setCell, Array.getElem?_modify, h]
theorem row_put {w : World} {B g : Nat} {e : TypeId} {sz cap n : Nat} {xs : List Value} (h : w.ownsRow B e sz (.slice (some ⟨g, 0, none⟩) n cap) n xs) (i : Nat) (x : Value) : (w.setCell ⟨g, i, none⟩ x).ownsRow B e sz (.slice (some ⟨g, 0, none⟩) n cap) n (xs.set i x) := by
  rcases h.2 with ⟨h0, _⟩ | ⟨g', cap', cur, h0, hb, hg, h1, h2, h3, h4⟩
  · cases h0
  · simp only [Value.slice.injEq, Option.some.injEq, Addr.mk.injEq, and_true] at h0
    obtain ⟨rfl, -, rfl⟩ := h0
    refine ⟨by simpa using h.1, .inr ⟨g, cap, _, rfl, hb, set_cells hg, h1, h2, by simpa using h3, ?_⟩⟩
    rw [Array.toList_setIfInBounds, List.take_set, h4]

/-- append: what it gives, and which views stay. -/
theorem append_gen {P : Program} (w : World) (base : Nat) (t ty e : TypeId) (i : TypeInfo) (z : Value) (sz bytes : Nat) (ht : P.underlying t = some (.slice e)) (hi : P.info? e = some i) (hz : i.zero = some z)
    (hsize : i.size = sz) (hby : i.bytes = bytes) (hzs : z.cells.size = sz) (hsz : 0 < sz) (hby0 : 0 < bytes)
    (v : Value) (n : Nat) (xs : List Value) (hv : w.ownsRow base e sz v n xs)
    (b m c : Nat) (news : List Value) (hl : news.length = m * sz) (hnews0 : ∀ j u, news[j]? = some u → w.cell? ⟨b, j, none⟩ = some u) (h1 : ∀ u ∈ news, u.oneCell' = true) (hm0 : 0 < m)
    (hbytes : (n + m) * bytes ≤ 140737488355328) (hbase : base ≤ w.heap.size) :
    ∃ v' w', (Builtin.append_ #[t, t] ty #[v, .slice (some ⟨b, 0, none⟩) m c]).run P w = .ok v' w' ∧ w'.ownsRow base e sz v' (n + m) (xs ++ news) ∧ w.grownBy w' v.ownBlock ∧ NwB v v' w.heap.size ∧
      (∀ B' u k ys, w.ownsRow B' e sz u k ys → (∀ g, v.ownBlock = some g → u.ownBlock = some g → k ≤ n) → w'.ownsRow B' e sz u k ys) ∧
      ∀ g cap, v = .slice (some ⟨g, 0, none⟩) n cap → n + m ≤ cap → v' = .slice (some ⟨g, 0, none⟩) (n + m) cap := by
  have hsmall : n + m ≤ 140737488355328 := Nat.le_trans (Nat.le_mul_of_pos_right _ hby0) hbytes
  have hnews : ∀ j u, news[j]? = some u → w.cell? ((⟨b, 0, none⟩ : Addr).add j) = some u := fun j u hj => by
    rw [Addr.add_lit, Nat.zero_add]; exact hnews0 j u hj
  obtain ⟨v', w', hr, h5, hg, -⟩ := run_append_own (P := P) w base t ty e i z sz bytes ht hi hz hsize hby hzs hsz v n xs hv ⟨b, 0, none⟩ m c news hl hnews h1 (by unfold maxLen; omega) hbytes hbase
  refine ⟨v', w', hr, h5, hg, ?_⟩
  subst hsize
  subst hby
  rcases hv.2 with ⟨rfl, rfl⟩ | ⟨g, cap, cur0, rfl, hb0, hg0, hn0, hc0, hs0, ht0⟩
  · have hr2 := run_append_nil (P := P) w t ty e i z ht hi hz ⟨b, 0, none⟩ m c news hl hnews hm0 (by omega) (by
      rw [Nat.zero_add] at hbytes; omega)
    rw [hr2] at hr
    simp only [Result.ok.injEq] at hr
    obtain ⟨rfl, rfl⟩ := hr
    refine ⟨fun g0 hg0 => .inr (by simp [Value.ownBlock] at hg0; omega), fun B' u k ys hu _ => ?_, fun g cap e => by cases e⟩
    exact World.ownsRow.kept (row := none) hu hg (by cases hv : u.ownBlock <;> simp)
  · by_cases hroom : n + m ≤ cap
    · have hmul : (n + m) * i.size ≤ cap * i.size := Nat.mul_le_mul_right _ hroom
      rw [Nat.add_mul] at hmul
      have hr2 := run_append_room (P := P) w t ty e i ht hi g n cap cur0 hg0 ⟨b, 0, none⟩ m c news hl hnews h1 hroom (by rw [hs0, hl]; omega)
      rw [hr2] at hr
      simp only [Result.ok.injEq] at hr
      obtain ⟨rfl, rfl⟩ := hr
      have hrow := setRow_heap w g cur0 (cur0.toList.take (n * i.size) ++ news ++ cur0.toList.drop (n * i.size + news.length)).toArray e (0, 0) hg0
      refine ⟨fun g0 hg0 => .inl hg0, fun B' u k ys hu hk => ?_, fun g' cap' e _ => ?_⟩
      · rcases hu.2 with ⟨rfl, hu0⟩ | ⟨gu, capu, curu, rfl, kb, kg, kn, kc, ks, kt⟩
        · exact ⟨hu.1, .inl ⟨rfl, hu0⟩⟩
        · by_cases e1 : gu = g
          · subst e1
            rw [hg0] at kg
            simp only [Option.some.injEq, Obj.cells.injEq, and_true] at kg
            subst kg
            have hkn := hk gu rfl rfl
            have hkm : k * i.size ≤ n * i.size := Nat.mul_le_mul_right _ hkn
            refine ⟨hu.1, .inr ⟨gu, capu, _, rfl, kb, hrow, kn, kc, ?_, ?_⟩⟩
            · simp only [List.size_toArray, List.length_append, List.length_take, List.length_drop, Array.length_toList, hl]
              rw [ks] at hs0
              rw [ks]
              omega
            · have hl2 : (cur0.toList.take (n * i.size)).length = n * i.size := by rw [List.length_take, Array.length_toList, hs0]; omega
              rw [List.append_assoc, List.take_append_of_le_length (by rw [hl2]; exact hkm), List.take_take, Nat.min_eq_left hkm]
              exact kt
          · exact World.ownsRow.kept (row := some g) hu hg (by simp [Value.ownBlock, e1])
      · simp only [Value.slice.injEq, Option.some.injEq, Addr.mk.injEq, and_true] at e
        obtain ⟨rfl, -, rfl⟩ := e
        rfl
    · have hr2 := run_append_grow (P := P) w t ty e i z ht hi hz ⟨g, 0, none⟩ n cap xs hv.1 (World.ownsRow.cells hv (g := g) rfl) ⟨b, 0, none⟩ m c news hl hnews (by omega) (by omega) (growslice_fits (by omega) hbytes)
      rw [hr2] at hr
      simp only [Result.ok.injEq] at hr
      obtain ⟨rfl, rfl⟩ := hr
      refine ⟨fun g0 hg0 => .inr (by simp [Value.ownBlock] at hg0; omega), fun B' u k ys hu _ => ?_, fun g' cap' e hr => ?_⟩
      · refine ⟨hu.1, ?_⟩
        rcases hu.2 with ⟨rfl, hu0⟩ | ⟨gu, capu, curu, rfl, kb, kg, rest⟩
        · exact .inl ⟨rfl, hu0⟩
        · exact .inr ⟨gu, capu, curu, rfl, kb, (Below.heap_alloc _ _ _ (by simpa using (Array.getElem?_eq_some_iff.1 kg).1)).trans kg, rest⟩
      · simp only [Value.slice.injEq, Option.some.injEq, Addr.mk.injEq, and_true] at e
        omega

/-- append to nil of what is no list at all. -/
theorem append_nil_nil {P : Program} (w : World) (t ty e : TypeId) (i : TypeInfo) (ht : P.underlying t = some (.slice e)) (hi : P.info? e = some i) : (Builtin.append_ #[t, t] ty #[.slice none 0 0, .slice none 0 0]).run P w = .ok (.slice none 0 0) w := by
  simp [Builtin.append_, run_underlying ht, sizeOf, typeInfo, hi, Builtin.lenOf, run_firstCells_none]
end Go.Proofs.Ytahoileampdnkaa.Me

/-
  Lists of prefixes, lists of lists: what append, a store and a copy leave; lists that are marked, grown in their places, and looked at.
-/
namespace Go.Proofs.Ytahoileampdnkaa.Me
open Go Go.RowKit
set_option maxHeartbeats 1000000
set_option maxRecDepth 100000

theorem uQ : Try.prog.underlying 26 = some (.slice 25) := by kernel_rfl
theorem uQQ : Try.prog.underlying 81 = some (.slice 26) := by kernel_rfl
theorem info_at {z : Value} {s b t : Nat} (h : (Try.prog.info? t).map (fun i => (i.zero, i.size, i.bytes)) = some (some z, s, b)) : ∃ i, Try.prog.info? t = some i ∧ i.zero = some z ∧ i.size = s ∧ i.bytes = b := by
  cases hq : Try.prog.info? t with
  | none => rw [hq] at h; cases h
  | some i =>
    rw [hq] at h
    simp at h
    exact ⟨i, rfl, h.1, h.2.1, h.2.2⟩
theorem infoQ : (Try.prog.info? 25).map (fun i => (i.zero, i.size, i.bytes)) = some (some (.agg #[.int .u32 0, .int .i64 0]), 2, 16) := by kernel_rfl
theorem infoQQ : (Try.prog.info? 26).map (fun i => (i.zero, i.size, i.bytes)) = some (some (.slice none 0 0), 1, 24) := by kernel_rfl

/-- Prefixes as cells. -/
def pp (L : List (Nat × Int)) : List Value := L.flatMap fun p => [.int .u32 (p.1 : Int), .int .i64 p.2]
theorem pp_cons (p : Nat × Int) (L : List (Nat × Int)) : pp (p :: L) = .int .u32 (p.1 : Int) :: .int .i64 p.2 :: pp L := rfl
theorem pp_len : ∀ L : List (Nat × Int), (pp L).length = L.length * 2
  | [] => rfl
  | p :: L => by rw [pp_cons]; simp [pp_len L]; omega
theorem pp_app (L M : List (Nat × Int)) : pp (L ++ M) = pp L ++ pp M := by simp [pp]
theorem pp_one : ∀ L : List (Nat × Int), ∀ u ∈ pp L, u.oneCell' = true
  | [], u, h => by cases h
  | p :: L, u, h => by
    rw [pp_cons] at h
    simp only [List.mem_cons] at h
    rcases h with rfl | rfl | h
    · rfl
    · rfl
    · exact pp_one L u h
theorem pp_at : ∀ (L : List (Nat × Int)) (i : Nat) (r : Nat × Int), L[i]? = some r → (pp L)[i * 2]? = some (.int .u32 (r.1 : Int)) ∧ (pp L)[i * 2 + 1]? = some (.int .i64 r.2)
  | [], i, r, h => by simp at h
  | p :: L, 0, r, h => by simp at h; subst h; exact ⟨rfl, rfl⟩
  | p :: L, i + 1, r, h => by
    have h' := pp_at L i r (by simpa using h)
    rw [pp_cons, show (i + 1) * 2 = i * 2 + 1 + 1 by omega]
    exact h'
theorem pp_set : ∀ (L : List (Nat × Int)) (k : Nat) (p : Nat × Int), k < L.length → pp (L.set k p) = ((pp L).set (k * 2) (.int .u32 (p.1 : Int))).set (k * 2 + 1) (.int .i64 p.2)
  | q :: L, 0, p, _ => by simp [pp_cons]
  | q :: L, k + 1, p, h => by
    rw [List.set_cons_succ, pp_cons, pp_cons, pp_set L k p (by simpa using h), show (k + 1) * 2 = k * 2 + 1 + 1 by omega]
    simp

/-- A list of prefixes of the call's own. -/
def OwnQ (w : World) (B : Nat) (v : Value) (L : List (Nat × Int)) : Prop := w.ownsRow B 25 2 v L.length (pp L)
theorem ownQ_nil (w : World) (B : Nat) : OwnQ w B (.slice none 0 0) [] := World.ownsRow_nil _ _ _ _
theorem ownQ_len {w : World} {B : Nat} {v : Value} {L : List (Nat × Int)} (h : OwnQ w B v L) : ∃ a cap, v = .slice a L.length cap ∧ L.length ≤ cap ∧ cap ≤ maxLen ∧ (a = none → L.length = 0 ∧ cap = 0) ∧ ∀ p, a = some p → ∃ g, p = ⟨g, 0, none⟩ ∧ B ≤ g ∧ g < w.heap.size := row_len h

theorem append_q (w : World) (B : Nat) (v : Value) (L M : List (Nat × Int)) (b m c : Nat) (hv : OwnQ w B v L) (hm : M.length = m) (hm0 : 0 < m) (hsrc : ∀ j u, (pp M)[j]? = some u → w.cell? ⟨b, j, none⟩ = some u) (hB : B ≤ w.heap.size) (hbig : L.length + m ≤ 8796093022208) :
    ∃ v' w', (Builtin.append_ #[26, 26] 26 #[v, .slice (some ⟨b, 0, none⟩) m c]).run Try.prog w = .ok v' w' ∧ OwnQ w' B v' (L ++ M) ∧ w.grownBy w' v.ownBlock ∧ NwB v v' w.heap.size ∧
      (∀ B' u K, OwnQ w B' u K → (∀ g, v.ownBlock = some g → u.ownBlock = some g → K.length ≤ L.length) → OwnQ w' B' u K) ∧
      ∀ g cap, v = .slice (some ⟨g, 0, none⟩) L.length cap → L.length + m ≤ cap → v' = .slice (some ⟨g, 0, none⟩) (L.length + m) cap := by
  obtain ⟨i0, hi0, hz0, hz1, hz2⟩ := info_at infoQ
  obtain ⟨v', w', h1, h2, h3, h4, h5, h6⟩ := append_gen (P := Try.prog) w B 26 26 25 i0 _ 2 16 uQ hi0 hz0 hz1 hz2 rfl (by decide) (by decide) v L.length (pp L) hv b m c (pp M) (by rw [pp_len, hm]) hsrc (pp_one M) hm0 (by omega) hB
  refine ⟨v', w', h1, ?_, h3, h4, fun B' u K hu hk => h5 B' u _ _ hu hk, h6⟩
  unfold OwnQ
  rw [List.length_append, pp_app, hm]
  exact h2

theorem copy_q (w : World) (B : Nat) (u : Value) (K : List (Nat × Int)) (hu : OwnQ w B u K) (hbig : K.length ≤ 8796093022208) :
    ∃ v' w', (Builtin.append_ #[26, 26] 26 #[.slice none 0 0, u]).run Try.prog w = .ok v' w' ∧ OwnQ w' w.heap.size v' K ∧ w.grownBy w' none := by
  obtain ⟨i0, hi0, hz0, hz1, hz2⟩ := info_at infoQ
  rcases hu.2 with ⟨rfl, h0⟩ | ⟨g, cap, cur, rfl, hb, hg, h1, h2, h3, h4⟩
  · have : K = [] := List.eq_nil_of_length_eq_zero h0
    subst this
    exact ⟨_, _, append_nil_nil (P := Try.prog) w _ _ 25 i0 uQ hi0, ownQ_nil _ _, ⟨rfl, rfl, rfl, Nat.le_refl _, fun _ _ _ => rfl⟩⟩
  · obtain ⟨v', w', hr, h5, h6, -⟩ := run_append_own (P := Try.prog) w w.heap.size 26 26 25 i0 _ 2 16 uQ hi0 hz0 hz1 hz2 rfl (by decide) (.slice none 0 0) 0 [] (World.ownsRow_nil _ _ _ _) ⟨g, 0, none⟩ K.length cap (pp K) (by rw [pp_len]) (World.ownsRow.cells hu (g := g) rfl) (pp_one K) (by unfold maxLen; omega) (by omega) (Nat.le_refl _)
    refine ⟨v', w', hr, ?_, h6⟩
    rw [List.nil_append, Nat.zero_add] at h5
    exact h5

/-! ### lists of lists -/
def OwnS (w : World) (B : Nat) (v : Value) (Vs : List Value) : Prop := w.ownsRow B 26 1 v Vs.length Vs
def AllS (Vs : List Value) : Prop := ∀ u ∈ Vs, ∃ a n c, u = .slice a n c
theorem AllS.one {Vs : List Value} (h : AllS Vs) : ∀ u ∈ Vs, u.oneCell' = true := fun u hu => by
  obtain ⟨a, n, c, rfl⟩ := h u hu
  rfl
theorem append_s (w : World) (B : Nat) (v : Value) (Vs Us : List Value) (b m c : Nat) (hv : OwnS w B v Vs) (hm : Us.length = m) (hm0 : 0 < m) (hsrc : ∀ j x, Us[j]? = some x → w.cell? ⟨b, j, none⟩ = some x) (hU : AllS Us) (hB : B ≤ w.heap.size) (hbig : Vs.length + m ≤ 4294967296) :
    ∃ v' w', (Builtin.append_ #[81, 81] 81 #[v, .slice (some ⟨b, 0, none⟩) m c]).run Try.prog w = .ok v' w' ∧ OwnS w' B v' (Vs ++ Us) ∧ w.grownBy w' v.ownBlock ∧ NwB v v' w.heap.size := by
  obtain ⟨i0, hi0, hz0, hz1, hz2⟩ := info_at infoQQ
  obtain ⟨v', w', h1, h2, h3, h4, -, -⟩ := append_gen (P := Try.prog) w B 81 81 26 i0 _ 1 24 uQQ hi0 hz0 hz1 hz2 rfl (by decide) (by decide) v Vs.length Vs hv b m c Us (by rw [hm]; omega) hsrc hU.one hm0 (by omega) hB
  refine ⟨v', w', h1, ?_, h3, h4⟩
  unfold OwnS
  rw [List.length_append, hm]
  exact h2
theorem kind_ne {w : World} {B B' : Nat} {v u : Value} {Vs : List Value} {K : List (Nat × Int)} (h : OwnS w B v Vs) (h' : OwnQ w B' u K) : ∀ k, u.ownBlock = some k → v.ownBlock ≠ some k := fun _ hk => row_ne h' h (by decide) hk

theorem below_grown {w0 w w' : World} {B : Nat} {row : Option Nat} (h : Below B w0 w) (hg : w.grownBy w' row) (hr : ∀ k, row = some k → B ≤ k) (hB : B ≤ w.heap.size) : Below B w0 w' :=
  h.trans ⟨hg.os, hg.tape, hg.output, hg.size, fun k hk => hg.block k (by omega) fun e => by have := hr k e.symm; omega⟩
theorem row_grown {w w' : World} {B : Nat} {e : TypeId} {sz : Nat} {v : Value} {n : Nat} {xs : List Value} {row : Option Nat} (h : w.ownsRow B e sz v n xs) (hg : w.grownBy w' row) (hne : ∀ k, v.ownBlock = some k → row ≠ some k) : w'.ownsRow B e sz v n xs :=
  World.ownsRow.kept h hg (by
    cases hv : v.ownBlock with
    | none => exact .inl rfl
    | some k => exact .inr fun e => hne k hv e.symm)
theorem grown_set (w : World) (g i : Nat) (x : Value) : w.grownBy (w.setCell ⟨g, i, none⟩ x) (some g) :=
  ⟨rfl, rfl, rfl, by simp [World.setCell], fun k _ hn => by
    have hne : g ≠ k := fun e => hn (by rw [e])
    simp [World.setCell, Array.getElem?_modify, hne]⟩
theorem grown_two (w : World) (g i j : Nat) (x y : Value) : w.grownBy ((w.setCell ⟨g, i, none⟩ x).setCell ⟨g, j, none⟩ y) (some g) := by
  have h1 := grown_set w g i x
  have h2 := grown_set (w.setCell ⟨g, i, none⟩ x) g j y
  exact ⟨h2.os.trans h1.os, h2.tape.trans h1.tape, h2.output.trans h1.output, Nat.le_trans h1.size h2.size, fun k hk hn => (h2.block k (Nat.lt_of_lt_of_le hk h1.size) hn).trans (h1.block k hk hn)⟩

theorem own_cell {w : World} {B g n cap : Nat} {L : List (Nat × Int)} (h : OwnQ w B (.slice (some ⟨g, 0, none⟩) n cap) L) {k : Nat} {x : Nat × Int} (hk : L[k]? = some x) : w.cell? ⟨g, k * 2, none⟩ = some (.int .u32 (x.1 : Int)) ∧ w.cell? ⟨g, k * 2 + 1, none⟩ = some (.int .i64 x.2) ∧ w.frozen? ⟨g, k * 2, none⟩ = false ∧ w.frozen? ⟨g, k * 2 + 1, none⟩ = false := by
  obtain ⟨e1, e2⟩ := pp_at L k x hk
  obtain ⟨h1, h2⟩ := row_cell (xs := pp L) h e1
  obtain ⟨h3, h4⟩ := row_cell (xs := pp L) h e2
  exact ⟨h1, h3, h2, h4⟩
theorem own_set {w : World} {B g cap : Nat} {L : List (Nat × Int)} (h : OwnQ w B (.slice (some ⟨g, 0, none⟩) L.length cap) L) {k : Nat} (hk : k < L.length) (p : Nat × Int) : OwnQ ((w.setCell ⟨g, k * 2, none⟩ (.int .u32 (p.1 : Int))).setCell ⟨g, k * 2 + 1, none⟩ (.int .i64 p.2)) B (.slice (some ⟨g, 0, none⟩) L.length cap) (L.set k p) := by
  unfold OwnQ
  rw [List.length_set, pp_set L k p hk]
  exact row_put (row_put h _ _) _ _
/-- The second cell behind the first store. -/
theorem own_next {w : World} {B g n cap : Nat} {L : List (Nat × Int)} (h : OwnQ w B (.slice (some ⟨g, 0, none⟩) n cap) L) {k : Nat} {x : Nat × Int} (hk : L[k]? = some x) (y : Value) : (w.setCell ⟨g, k * 2, none⟩ y).cell? ⟨g, k * 2 + 1, none⟩ = some (.int .i64 x.2) ∧ (w.setCell ⟨g, k * 2, none⟩ y).frozen? ⟨g, k * 2 + 1, none⟩ = false := by
  obtain ⟨e1, e2⟩ := pp_at L k x hk
  obtain ⟨a, c, e, -⟩ := row_len h
  simp only [Value.slice.injEq] at e
  obtain ⟨-, rfl, -⟩ := e
  exact row_cell (xs := (pp L).set (k * 2) y) (row_put h (k * 2) y) (by rw [List.getElem?_set_ne (by omega)]; exact e2)

def Apt (Vs : List Value) : Prop := Vs.Pairwise fun a b => ∀ k, a.ownBlock = some k → b.ownBlock ≠ some k
theorem Apt.ne {Vs : List Value} (h : Apt Vs) {i j : Nat} {a b : Value} (ha : Vs[i]? = some a) (hb : Vs[j]? = some b) (hij : i ≠ j) {k : Nat} (hk : a.ownBlock = some k) : b.ownBlock ≠ some k := by
  obtain ⟨hi, rfl⟩ := List.getElem?_eq_some_iff.1 ha
  obtain ⟨hj, rfl⟩ := List.getElem?_eq_some_iff.1 hb
  have hp := List.pairwise_iff_getElem.1 h
  rcases Nat.lt_or_gt_of_ne hij with e | e
  · exact hp i j hi hj e k hk
  · exact fun hk' => hp j i hj hi e k hk' hk

/-- Lists and what they hold. -/
structure Ls (w0 w : World) (vl : Value) (Vs : List Value) (f : Nat → List (Nat × Int)) : Prop where
  be : Below w0.heap.size w0 w
  ls : OwnS w w0.heap.size vl Vs
  own : ∀ (i : Nat) v, Vs[i]? = some v → OwnQ w w0.heap.size v (f i)
  two : Apt Vs
/-- The mark of a list. -/
def mq (j : Nat) : Nat × Int := (j, 77)

section
variable {w0 w w' : World} {vl vm : Value} {Vs Us : List Value} {f : Nat → List (Nat × Int)}
theorem Ls.below (h : Ls w0 w vl Vs f) (hb : Below w.heap.size w w') : Ls w0 w' vl Vs f := ⟨h.be.trans (hb.mono h.be.size), row_below h.ls hb, fun i v hv => row_below (h.own i v hv) hb, h.two⟩
theorem Ls.at (h : Ls w0 w vl Vs f) {i : Nat} (hi : i < Vs.length) : ∃ a g cl cap, vl = .slice (some ⟨g, 0, none⟩) Vs.length cl ∧ Vs[i]? = some (.slice a (f i).length cap) ∧ (f i).length ≤ cap ∧ cap ≤ maxLen ∧ (∀ u : World, u.heap[g]? = w.heap[g]? → u.cell? ⟨g, i, none⟩ = some (.slice a (f i).length cap)) ∧ (a = none → (f i).length = 0 ∧ cap = 0) ∧ ∀ p, a = some p → ∃ q, p = ⟨q, 0, none⟩ := by
  have hv := List.getElem?_eq_getElem hi
  have ho := h.own i _ hv
  obtain ⟨a, cap, e, h1, h2, h3, h4⟩ := ownQ_len ho
  obtain ⟨al, cl, el, -, -, n0, n1⟩ := row_len h.ls
  cases al with
  | none => have := (n0 rfl).1; omega
  | some p =>
    obtain ⟨g, rfl, -⟩ := n1 p rfl
    rw [e] at hv
    have hls := h.ls
    subst el
    refine ⟨a, g, cl, cap, rfl, hv, h1, h2, fun u hu => ?_, h3, fun p hp => ?_⟩
    · rw [World.cell?_of_block (w := w) (by exact hu)]
      exact (row_cell (xs := Vs) hls hv).1
    · obtain ⟨q, h5, -⟩ := h4 p hp
      exact ⟨q, h5⟩
theorem Ls.put (h : Ls w0 w vl Vs f) {i k q n cap : Nat} (m : Nat × Int) (hv : Vs[i]? = some (.slice (some ⟨q, 0, none⟩) n cap)) (hk : k < (f i).length) :
    (∃ x : Nat × Int, w.cell? ⟨q, k * 2, none⟩ = some (.int .u32 (x.1 : Int)) ∧ w.frozen? ⟨q, k * 2, none⟩ = false ∧ (w.setCell ⟨q, k * 2, none⟩ (.int .u32 (m.1 : Int))).cell? ⟨q, k * 2 + 1, none⟩ = some (.int .i64 x.2) ∧ (w.setCell ⟨q, k * 2, none⟩ (.int .u32 (m.1 : Int))).frozen? ⟨q, k * 2 + 1, none⟩ = false) ∧
      Ls w0 ((w.setCell ⟨q, k * 2, none⟩ (.int .u32 (m.1 : Int))).setCell ⟨q, k * 2 + 1, none⟩ (.int .i64 m.2)) vl Vs fun j => if j = i then (f i).set k m else f j := by
  have ho := h.own i _ hv
  obtain ⟨h1, -, h2, -⟩ := own_cell ho (List.getElem?_eq_getElem hk)
  obtain ⟨h3, h4⟩ := own_next ho (List.getElem?_eq_getElem hk) (.int .u32 (m.1 : Int))
  obtain ⟨a, c, e, -⟩ := ownQ_len ho
  simp only [Value.slice.injEq] at e
  obtain ⟨-, rfl, -⟩ := e
  have hg := grown_two w q (k * 2) (k * 2 + 1) (.int .u32 (m.1 : Int)) (.int .i64 m.2)
  have hB := (World.ownsRow.lt ho q rfl).1
  refine ⟨⟨_, h1, h2, h3, h4⟩, below_grown h.be hg (fun k e => by cases e; exact hB) h.be.size, row_grown h.ls hg fun k hk' e => ?_, fun j v hj => ?_, h.two⟩
  · cases e
    exact kind_ne h.ls ho q rfl hk'
  · by_cases e : j = i
    · subst e
      rw [hv] at hj
      cases hj
      rw [if_pos rfl]
      exact own_set ho hk m
    · rw [if_neg e]
      exact row_grown (h.own j v hj) hg fun k hk' e' => by
        cases e'
        exact h.two.ne hv hj (fun e' => e e'.symm) rfl hk'
theorem Ls.eq {f' : Nat → List (Nat × Int)} (h : Ls w0 w vl Vs f) (he : ∀ i, i < Vs.length → f i = f' i) : Ls w0 w vl Vs f' := ⟨h.be, h.ls, fun i v hv => by
    rw [← he i (List.getElem?_eq_some_iff.1 hv).1]; exact h.own i v hv, h.two⟩

/-- The lists' contents while they are marked. -/
def mkd (K : Nat → List (Nat × Int)) (i k j : Nat) : List (Nat × Int) := if j < i then List.replicate (K j).length (mq j) else if j = i then List.replicate k (mq j) ++ (K j).drop k else K j
theorem mk_len (K : Nat → List (Nat × Int)) (i k j : Nat) (hk : k ≤ (K i).length) : (mkd K i k j).length = (K j).length := by
  unfold mkd
  split
  · simp
  · split
    · rename_i h1 h2
      subst h2
      simp
      omega
    · rfl
theorem mk_step (K : Nat → List (Nat × Int)) (i k : Nat) (hk : k < (K i).length) (j : Nat) : (if j = i then (mkd K i k i).set k (mq i) else mkd K i k j) = mkd K i (k + 1) j := by
  by_cases e : j = i
  · subst e
    rw [if_pos rfl]
    unfold mkd
    rw [if_neg (by omega), if_pos rfl, if_neg (by omega), if_pos rfl, List.set_append_right _ _ (by simp), List.length_replicate, Nat.sub_self, List.drop_eq_getElem_cons hk, List.set_cons_zero, List.replicate_succ']
    simp
  · rw [if_neg e]
    unfold mkd
    rw [if_neg e, if_neg e]
theorem mk_next (K : Nat → List (Nat × Int)) (i j : Nat) : mkd K i (K i).length j = mkd K (i + 1) 0 j := by
  unfold mkd
  by_cases h : j < i
  · rw [if_pos h, if_pos (by omega)]
  · rw [if_neg h]
    by_cases e : j = i
    · subst e
      rw [if_pos rfl, if_pos (by omega), List.drop_length, List.append_nil]
    · rw [if_neg e, if_neg (by omega)]
      split
      · simp
      · rfl
theorem mk_zero (K : Nat → List (Nat × Int)) (j : Nat) : mkd K 0 0 j = K j := by
  unfold mkd
  rw [if_neg (by omega)]
  split
  · simp
  · rfl

/-- The lists are full of their marks; some are grown. -/
structure Gs (w0 w : World) (vl vm : Value) (Vs Us : List Value) (n : Nat → Nat) : Prop where
  ls : Ls w0 w vl Vs fun j => List.replicate (n j) (mq j)
  ms : OwnS w w0.heap.size vm Us
  ne : ∀ k, vl.ownBlock = some k → vm.ownBlock ≠ some k
  mor : ∀ (j : Nat) u, Us[j]? = some u → ∃ v m, Vs[j]? = some v ∧ OwnQ w w0.heap.size u (List.replicate m (mq j)) ∧ n j ≤ m ∧ u.ownBlock = v.ownBlock

variable {n : Nat → Nat}
theorem Gs.below (h : Gs w0 w vl vm Vs Us n) (hb : Below w.heap.size w w') : Gs w0 w' vl vm Vs Us n := ⟨h.ls.below hb, row_below h.ms hb, h.ne, fun j u hu => by
  obtain ⟨v, m, h1, h2, h3⟩ := h.mor j u hu
  exact ⟨v, m, h1, row_below h2 hb, h3⟩⟩
/-- One of them while it is grown. -/
structure Gi (w0 w : World) (vl vm : Value) (Vs Us : List Value) (n : Nat → Nat) (i ln : Nat) (a : Option Addr) (cap : Nat) : Prop where
  gs : Gs w0 w vl vm Vs Us n
  at' : Vs[i]? = some (.slice a (n i) cap)
  own : OwnQ w w0.heap.size (.slice a ln cap) (List.replicate ln (mq i))
  le : n i ≤ ln
  len : Us.length = i

theorem Gi.grow {i ln cap : Nat} {a : Option Addr} (h : Gi w0 w vl vm Vs Us n i ln a cap) (hc : ln < cap) (hq : ln + 1 ≤ 8796093022208) :
    ∃ w', (Builtin.append_ #[26, 26] 26 #[.slice a ln cap, .slice (some ⟨w.heap.size, 0, none⟩) 1 1]).run Try.prog (w.alloc (.cells #[.int .u32 (i : Int), .int .i64 77] 25)) = .ok (.slice a (ln + 1) cap) w' ∧ Gi w0 w' vl vm Vs Us n i (ln + 1) a cap := by
  have hB1 : Below w.heap.size w (w.alloc (.cells #[.int .u32 (i : Int), .int .i64 77] 25)) := (Below.refl _ _).alloc (Nat.le_refl _) _
  have hz1 := hB1.size
  have hB := h.gs.ls.be.size
  have r1 := heap_alloc_new w (.cells #[.int .u32 (i : Int), .int .i64 77] 25 (0, 0))
  have hG := h.gs.below hB1
  have ho := row_below h.own hB1
  obtain ⟨a', c', e, -, -, h0, h1⟩ := ownQ_len ho
  simp only [Value.slice.injEq, List.length_replicate] at e
  obtain ⟨rfl, -, rfl⟩ := e
  cases a with
  | none => have := (h0 rfl).2; omega
  | some p =>
    obtain ⟨g, rfl, hgB, hgz⟩ := h1 p rfl
    obtain ⟨v', w', hr, hoo, hg, -, hkp, hrm⟩ := append_q _ w0.heap.size _ _ [mq i] w.heap.size 1 1 ho rfl (by decide) (fun j x hj => by
      rw [cell_of_row _ _ _ _ _ _ r1, ← Array.getElem?_toList]; exact hj) (by omega) (by rw [List.length_replicate]; exact hq)
    have hv := hrm g cap (by rw [List.length_replicate]) (by rw [List.length_replicate]; omega)
    rw [List.length_replicate] at hv
    subst hv
    have hrep : List.replicate ln (mq i) ++ [mq i] = List.replicate (ln + 1) (mq i) := by rw [List.replicate_succ']
    rw [hrep] at hoo
    have hle := h.le
    refine ⟨w', hr, ⟨⟨below_grown hG.ls.be hg (fun k e => by cases e; exact hgB) (by omega), row_grown hG.ls.ls hg (fun k hk e => by cases e; exact kind_ne hG.ls.ls ho g rfl hk), fun j v hj => hkp _ _ _ (hG.ls.own j v hj) fun k hk hk' => ?_, h.gs.ls.two⟩, row_grown hG.ms hg (fun k hk e => by cases e; exact kind_ne hG.ms ho g rfl hk), h.gs.ne, fun j u hj => ?_⟩, h.at', hoo, by omega, h.len⟩
    · by_cases e : j = i
      · subst e
        simp [hle]
      · exact absurd hk' (h.gs.ls.two.ne h.at' hj (fun e' => e e'.symm) hk)
    · obtain ⟨v, m, h1', h2', h3', h4'⟩ := hG.mor j u hj
      refine ⟨v, m, h1', hkp _ _ _ h2' fun k hk hk' => ?_, h3', h4'⟩
      have hji := (List.getElem?_eq_some_iff.1 hj).1
      rw [h.len] at hji
      rw [h4'] at hk'
      exact absurd hk' (h.gs.ls.two.ne h.at' h1' (by omega) hk)
theorem Gi.done {i ln cap : Nat} {a : Option Addr} (h : Gi w0 w vl vm Vs Us n i ln a cap) (hz : i + 1 ≤ 4294967296) :
    ∃ a' n' c' w', (Builtin.append_ #[81, 81] 81 #[vm, .slice (some ⟨w.heap.size, 0, none⟩) 1 1]).run Try.prog (w.alloc (.cells #[.slice a ln cap] 26)) = .ok (.slice a' n' c') w' ∧ Gs w0 w' vl (.slice a' n' c') Vs (Us ++ [.slice a ln cap]) n ∧ (Us ++ [Value.slice a ln cap]).length = i + 1 := by
  have hB1 : Below w.heap.size w (w.alloc (.cells #[.slice a ln cap] 26)) := (Below.refl _ _).alloc (Nat.le_refl _) _
  have hz1 := hB1.size
  have hB := h.gs.ls.be.size
  have r1 := heap_alloc_new w (.cells #[.slice a ln cap] 26 (0, 0))
  have hG := h.gs.below hB1
  have ho := row_below h.own hB1
  obtain ⟨vm', w', hr, hoo, hg, hn⟩ := append_s _ w0.heap.size vm Us [.slice a ln cap] w.heap.size 1 1 hG.ms rfl (by decide) (fun j x hj => by
    rw [cell_of_row _ _ _ _ _ _ r1, ← Array.getElem?_toList]; exact hj) (fun x hx => by
    simp only [List.mem_cons, List.not_mem_nil, or_false] at hx
    subst hx
    exact ⟨_, _, _, rfl⟩) (by omega) (by rw [h.len]; exact hz)
  obtain ⟨am, cm, em, -⟩ := row_len hoo
  subst em
  have kp : ∀ (B : Nat) (u : Value) (K : List (Nat × Int)), OwnQ (w.alloc (.cells #[.slice a ln cap] 26)) B u K → OwnQ w' B u K := fun B u K hu => row_grown hu hg (kind_ne hG.ms hu)
  refine ⟨_, _, _, w', hr, ⟨⟨below_grown hG.ls.be hg (fun k e => (World.ownsRow.lt hG.ms k e).1) (by omega), row_grown hG.ls.ls hg (fun k hk e => h.gs.ne k hk e), fun j v hj => kp _ _ _ (hG.ls.own j v hj), h.gs.ls.two⟩, hoo, fun k hk hk' => ?_, fun j u hj => ?_⟩, by simp [h.len]⟩
  · rcases hn k hk' with e | e
    · exact h.gs.ne k hk e
    · have := (World.ownsRow.lt h.gs.ls.ls k hk).2
      omega
  · by_cases hj' : j < Us.length
    · rw [List.getElem?_append_left hj'] at hj
      obtain ⟨v, m, h1', h2', h3'⟩ := hG.mor j u hj
      exact ⟨v, m, h1', kp _ _ _ h2', h3'⟩
    · rw [List.getElem?_append_right (by omega)] at hj
      obtain ⟨p, hp⟩ : ∃ p, p = j - Us.length := ⟨_, rfl⟩
      rw [← hp] at hj
      match p with
      | 0 =>
        simp at hj
        subst hj
        have hji : j = i := by have := h.len; omega
        subst hji
        exact ⟨_, _, h.at', kp _ _ _ ho, h.le, by cases a <;> rfl⟩
      | p + 1 => simp at hj

theorem Ls.mkAt {al : Option Addr} {nl cl i k : Nat} {K : Nat → List (Nat × Int)} (h : Ls w0 w (.slice al nl cl) Vs (mkd K i k)) (hi : i < Vs.length) (hk : k ≤ (K i).length) :
    ∃ g a cap, al = some ⟨g, 0, none⟩ ∧ (K i).length ≤ cap ∧ cap ≤ 9223372036854775807 ∧ w.cell? ⟨g, i, none⟩ = some (.slice a (K i).length cap) ∧
      (k < (K i).length → ∃ (q : Nat) (x : Nat × Int), a = some ⟨q, 0, none⟩ ∧ w.cell? ⟨q, k * 2, none⟩ = some (.int .u32 (x.1 : Int)) ∧ w.frozen? ⟨q, k * 2, none⟩ = false ∧ (w.setCell ⟨q, k * 2, none⟩ (.int .u32 (i : Int))).cell? ⟨q, k * 2 + 1, none⟩ = some (.int .i64 x.2) ∧ (w.setCell ⟨q, k * 2, none⟩ (.int .u32 (i : Int))).frozen? ⟨q, k * 2 + 1, none⟩ = false ∧
        Hid (Ls w0 ((w.setCell ⟨q, k * 2, none⟩ (.int .u32 (i : Int))).setCell ⟨q, k * 2 + 1, none⟩ (.int .i64 77)) (.slice al nl cl) Vs (mkd K i (k + 1)))) := by
  obtain ⟨a, g, cl', cap, e, hv, h1, h2, h3, h4, h5⟩ := h.at hi
  simp only [Value.slice.injEq] at e
  obtain ⟨rfl, rfl, rfl⟩ := e
  rw [mk_len K i k i hk] at hv h1 h3 h4
  unfold maxLen at h2
  refine ⟨g, a, cap, rfl, h1, by omega, h3 w rfl, fun hlt => ?_⟩
  cases a with
  | none => have := (h4 rfl).1; omega
  | some p =>
    obtain ⟨q, rfl⟩ := h5 p rfl
    obtain ⟨⟨x, hx, hf, hx2, hf2⟩, hL⟩ := h.put (mq i) hv (by rw [mk_len K i k i hk]; exact hlt)
    exact ⟨q, x, rfl, hx, hf, hx2, hf2, hL.eq fun j _ => mk_step K i k hlt j⟩
theorem Ls.mkNext {i : Nat} {K : Nat → List (Nat × Int)} (h : Ls w0 w vl Vs (mkd K i (K i).length)) : Ls w0 w vl Vs (mkd K (i + 1) 0) := h.eq fun j _ => mk_next K i j
theorem Ls.mkStart {K : Nat → List (Nat × Int)} (h : Ls w0 w vl Vs K) : Ls w0 w vl Vs (mkd K 0 0) := h.eq fun j _ => (mk_zero K j).symm
theorem Ls.mkEnd {K : Nat → List (Nat × Int)} (h : Ls w0 w vl Vs (mkd K Vs.length 0)) : Gs w0 w vl (.slice none 0 0) Vs [] fun j => (K j).length :=
  ⟨h.eq fun j hj => by unfold mkd; rw [if_pos hj], World.ownsRow_nil _ _ _ _, (fun k _ e => by cases e), fun j u hu => by simp at hu⟩
theorem Gs.begin {al : Option Addr} {nl cl i : Nat} (h : Gs w0 w (.slice al nl cl) vm Vs Us n) (hi : i < Vs.length) (hl : Us.length = i) :
    ∃ g a cap, al = some ⟨g, 0, none⟩ ∧ n i ≤ cap ∧ cap ≤ 9223372036854775807 ∧ w.cell? ⟨g, i, none⟩ = some (.slice a (n i) cap) ∧ Gi w0 w (.slice al nl cl) vm Vs Us n i (n i) a cap := by
  obtain ⟨a, g, cl', cap, e, hv, h1, h2, h3, h4, h5⟩ := h.ls.at hi
  simp only [Value.slice.injEq] at e
  obtain ⟨rfl, rfl, rfl⟩ := e
  rw [List.length_replicate] at hv h1 h3 h4
  unfold maxLen at h2
  exact ⟨g, a, cap, rfl, h1, by omega, h3 w rfl, h, hv, h.ls.own i _ hv, Nat.le_refl _, hl⟩
theorem Gi.here {g nl cl i ln cap : Nat} {a : Option Addr} (h : Gi w0 w (.slice (some ⟨g, 0, none⟩) nl cl) vm Vs Us n i ln a cap) : w.cell? ⟨g, i, none⟩ = some (.slice a (n i) cap) :=
  (row_cell (xs := Vs) h.gs.ls.ls h.at').1
theorem Gs.look {al am : Option Addr} {nl cl nm cm i : Nat} (h : Gs w0 w (.slice al nl cl) (.slice am nm cm) Vs Us n) (hi : i < Us.length) :
    ∃ gl gm a m c a' c', al = some ⟨gl, 0, none⟩ ∧ am = some ⟨gm, 0, none⟩ ∧ w.cell? ⟨gm, i, none⟩ = some (.slice a m c) ∧ w.cell? ⟨gl, i, none⟩ = some (.slice a' (n i) c') ∧ m ≤ 9223372036854775807 ∧ n i ≤ 9223372036854775807 ∧ n i ≤ m ∧
      (∀ k, k < m → ∃ q, a = some ⟨q, 0, none⟩ ∧ w.cell? ⟨q, k * 2, none⟩ = some (.int .u32 (i : Int)) ∧ w.cell? ⟨q, k * 2 + 1, none⟩ = some (.int .i64 77)) ∧ ∀ k, k < n i → ∃ q, a' = some ⟨q, 0, none⟩ ∧ w.cell? ⟨q, k * 2, none⟩ = some (.int .u32 (i : Int)) ∧ w.cell? ⟨q, k * 2 + 1, none⟩ = some (.int .i64 77) := by
  obtain ⟨v, m, h1, h2, h3, h4⟩ := h.mor i Us[i] (List.getElem?_eq_getElem hi)
  have hiV := (List.getElem?_eq_some_iff.1 h1).1
  obtain ⟨a', gl, cl', c', e, hv, k1, k2, k3, k4, k5⟩ := h.ls.at hiV
  simp only [Value.slice.injEq] at e
  obtain ⟨rfl, rfl, rfl⟩ := e
  rw [List.length_replicate] at hv k1 k3 k4
  unfold maxLen at k2
  obtain ⟨am', cm', em, -, -, m0, m1⟩ := row_len h.ms
  simp only [Value.slice.injEq] at em
  obtain ⟨rfl, -, rfl⟩ := em
  cases am with
  | none => have := (m0 rfl).1; omega
  | some p =>
    obtain ⟨gm, rfl, -⟩ := m1 p rfl
    have cu := (row_cell (xs := Us) h.ms (List.getElem?_eq_getElem hi)).1
    generalize Us[i] = u at *
    obtain ⟨a, c, eu, u1, u2, u3, u4⟩ := ownQ_len h2
    rw [List.length_replicate] at eu u1 u3
    subst eu
    unfold maxLen at u2
    have hov := h.ls.own i _ hv
    refine ⟨gl, gm, a, m, c, a', c', rfl, rfl, cu, k3 w rfl, by omega, by omega, h3, fun k hk => ?_, fun k hk => ?_⟩
    · cases a with
      | none => have := (u3 rfl).1; omega
      | some p =>
        obtain ⟨q, rfl, -⟩ := u4 p rfl
        obtain ⟨e1, e2, -⟩ := own_cell h2 (k := k) (x := mq i) (by rw [List.getElem?_replicate, if_pos hk])
        exact ⟨q, rfl, e1, e2⟩
    · cases a' with
      | none => have := (k4 rfl).1; omega
      | some p =>
        obtain ⟨q, rfl⟩ := k5 p rfl
        obtain ⟨e1, e2, -⟩ := own_cell hov (k := k) (x := mq i) (by rw [List.getElem?_replicate, if_pos hk])
        exact ⟨q, rfl, e1, e2⟩
end
end Go.Proofs.Ytahoileampdnkaa.Me

/-
  PoolMemory: a pool beside lists, and the law's untouched.
-/
namespace Go.Proofs.Ytahoileampdnkaa
open Go.ChangeShapes Go.WideShapes Go.ChangeAt Go.RowKit Ru N Tri
set_option maxHeartbeats 1000000
set_option maxRecDepth 100000

/-- A pool of the law's own. -/
def PB (w0 w : World) (pb sub lo hi : Nat) (ks ts : List R) : Prop := ∃ vk vt, Rm w0 pb sub lo hi ks w vk vt ts
/-- All rows but the pool's stay. -/
structure Kx (w w' : World) : Prop where
  size : w.heap.size ≤ w'.heap.size
  block : ∀ (k : Nat) (cs : Array Value) (e : TypeId), w.heap[k]? = some (Obj.cells cs e (0, 0)) → e ≠ 68 → e ≠ 64 → w'.heap[k]? = w.heap[k]?

section
variable {w0 w w' : World} {pb sub lo hi : Nat} {ks ts : List R}
theorem Kx.of (h : Below w.heap.size w w') : Kx w w' := ⟨h.size, fun k _ _ hk _ _ => h.block k (Array.getElem?_eq_some_iff.1 hk).1⟩
theorem Kx.row {B : Nat} {e : TypeId} {sz n : Nat} {v : Value} {xs : List Value} (h : Kx w w') (hv : w.ownsRow B e sz v n xs) (he : e ≠ 68 ∧ e ≠ 64) : w'.ownsRow B e sz v n xs := by
  refine ⟨hv.1, ?_⟩
  rcases hv.2 with h0 | ⟨g, cap, cur, rfl, hbb, hg, rest⟩
  · exact .inl h0
  · exact .inr ⟨g, cap, cur, rfl, hbb, (h.block g _ _ hg he.1 he.2).trans hg, rest⟩
theorem Kx.turned {vk vt vt' : Value} {ts' : List R} (h1 : Rm w0 pb sub lo hi ks w vk vt ts) (ht : Turned pb vk vt sub lo hi ks w w' vt' ts') : Kx w w' := ⟨ht.keeps.size, fun k cs e hk he1 he2 => by
  refine ht.keeps.block k (Array.getElem?_eq_some_iff.1 hk).1 ?_
  rintro (e1 | e1)
  · subst e1
    rw [h1.pool.row] at hk
    simp only [Option.some.injEq, Obj.cells.injEq] at hk
    exact he1 hk.2.1.symm
  · obtain ⟨cs', hc⟩ := Me.row_kind (w := w) h1.pool.ot e1
    rw [hc] at hk
    simp only [Option.some.injEq, Obj.cells.injEq] at hk
    exact he2 hk.2.1.symm⟩
theorem PB.be (h : PB w0 w pb sub lo hi ks ts) : Below w0.heap.size w0 w := by
  obtain ⟨vk, vt, h⟩ := h
  exact h.be
theorem PB.below (h : PB w0 w pb sub lo hi ks ts) (hb : Below w.heap.size w w') : PB w0 w' pb sub lo hi ks ts := by
  obtain ⟨vk, vt, h⟩ := h
  exact ⟨vk, vt, h.below hb⟩
theorem PB.grownR {B : Nat} {e : TypeId} {sz n : Nat} {v : Value} {xs : List Value} (h : PB w0 w pb sub lo hi ks ts) (hr : w.ownsRow B e sz v n xs) (hB : w0.heap.size ≤ B) (hg : w.grownBy w' v.ownBlock) (he : e ≠ 68 ∧ e ≠ 64) : PB w0 w' pb sub lo hi ks ts := by
  obtain ⟨vk, vt, h⟩ := h
  refine ⟨vk, vt, h.pool.keeps (Keeps.grown (S := fun k => v.ownBlock = some k) hg fun k hk => hk) (fun e1 => ?_) (fun k hk e1 => ?_) (fun k hk e1 => ?_), h.new, h.kn, h.tn, Me.below_grown h.be hg (fun k hk => Nat.le_trans hB (World.ownsRow.lt hr k hk).1) h.be.size⟩
  · obtain ⟨cs, hc⟩ := Me.row_kind hr e1
    rw [h.pool.row] at hc
    simp only [Option.some.injEq, Obj.cells.injEq] at hc
    exact he.1 hc.2.1.symm
  · exact Me.row_ne (w := w) hr h.pool.ok he.2 e1 hk
  · exact Me.row_ne (w := w) hr h.pool.ot he.2 e1 hk
theorem PB.grownN (h : PB w0 w pb sub lo hi ks ts) (hg : w.grownBy w' none) : PB w0 w' pb sub lo hi ks ts := h.below ⟨hg.os, hg.tape, hg.output, hg.size, fun k hk => hg.block k hk (by simp)⟩
theorem PB.take (h : PB w0 w pb sub lo hi ks ts) : Calls Try.prog 14 #[.pointer (some ⟨pb, 0, none⟩)] w fun e w' => (∃ v, e = .returned v) ∧ Hid (Kx w w' ∧ ∃ ts', PB w0 w' pb sub lo hi ks ts') := by
  obtain ⟨vk, vt, h1⟩ := h
  refine (take_any pb sub lo hi vk vt ks ts w h1.pool).mono ?_
  rintro e u' (⟨a, vt', ts', he, k1, k2, k3, k4, k5, ht, k6⟩ | ⟨he, k1, hb⟩)
  · exact ⟨⟨_, he⟩, Kx.turned h1 ht, ts', vk, vt', h1.turned ht⟩
  · exact ⟨⟨_, he⟩, Kx.of hb, ts, vk, vt, h1.below hb⟩
theorem PB.claim (h : PB w0 w pb sub lo hi ks ts) (x : Nat) (y : Int) (hx : x < 4294967296) : Calls Try.prog 12 #[.pointer (some ⟨pb, 0, none⟩), .agg #[.int .u32 (x : Int), .int .i64 y]] w fun e w' => (∃ v, e = .returned v) ∧ Hid (Kx w w' ∧ ∃ ts', PB w0 w' pb sub lo hi ks ts') := by
  obtain ⟨vk, vt, h1⟩ := h
  refine (claim_any pb sub lo hi x y vk vt ks ts w h1.pool hx).mono ?_
  rintro e u' (⟨k1, he, hb⟩ | ⟨k1, k2, k3, he, hb⟩ | ⟨k1, k2, k3, he, hb⟩ | ⟨k1, k2, k3, he, vt', ts', ht, k4⟩)
  · exact ⟨⟨_, he⟩, Kx.of hb, ts, vk, vt, h1.below hb⟩
  · exact ⟨⟨_, he⟩, Kx.of hb, ts, vk, vt, h1.below hb⟩
  · exact ⟨⟨_, he⟩, Kx.of hb, ts, vk, vt, h1.below hb⟩
  · exact ⟨⟨_, he⟩, Kx.turned h1 ht, ts', vk, vt', h1.turned ht⟩
theorem PB.free (h : PB w0 w pb sub lo hi ks ts) (x : Nat) (y : Int) (hx : x < 4294967296) : Calls Try.prog 15 #[.pointer (some ⟨pb, 0, none⟩), .agg #[.int .u32 (x : Int), .int .i64 y]] w fun e w' => (∃ v, e = .returned v) ∧ Hid (Kx w w' ∧ ∃ ts', PB w0 w' pb sub lo hi ks ts') := by
  obtain ⟨vk, vt, h1⟩ := h
  refine (free_any pb sub lo hi x y vk vt ks ts w h1.pool hx).mono ?_
  rintro e u' (⟨k1, he, hb⟩ | ⟨k1, k2, he, vt', ts', ht, k4⟩)
  · exact ⟨⟨_, he⟩, Kx.of hb, ts, vk, vt, h1.below hb⟩
  · exact ⟨⟨_, he⟩, Kx.turned h1 ht, ts', vk, vt', h1.turned ht⟩
theorem PB.taken (h : PB w0 w pb sub lo hi ks ts) : Calls Try.prog 17 #[.pointer (some ⟨pb, 0, none⟩)] w fun e w' => ∃ v, e = .returned v ∧ Me.OwnQ w' w.heap.size v (tks sub (els ts)) ∧ Below w.heap.size w w' ∧ (tks sub (els ts)).length ≤ 4294967296 := by
  obtain ⟨vk, vt, h1⟩ := h
  refine (taken_any pb sub lo hi vk vt ks ts w h1.pool).mono ?_
  rintro e w' ⟨v, he, ho, hb⟩
  refine ⟨v, he, ho, hb, ?_⟩
  unfold tks
  rw [List.length_map]
  exact els_len h1.pool.rt
end

/-- What the script has so far. -/
structure Un (w0 w : World) (pb sub lo hi : Nat) (ks ts : List R) (vl vw : Value) (Vs Ws : List Value) : Prop where
  tb : PB w0 w pb sub lo hi ks ts
  ls : Me.OwnS w w0.heap.size vl Vs
  ws : Me.OwnS w w0.heap.size vw Ws
  ne : ∀ k, vl.ownBlock = some k → vw.ownBlock ≠ some k
  len : Vs.length = Ws.length
  pr : ∀ (i : Nat) v u, Vs[i]? = some v → Ws[i]? = some u → ∃ K, Me.OwnQ w w0.heap.size v K ∧ Me.OwnQ w w0.heap.size u K ∧ K.length ≤ 4294967296
  two : Me.Apt Vs

section
variable {w0 w w' : World} {pb sub lo hi : Nat} {ks ts : List R} {vl vw : Value} {Vs Ws : List Value}
theorem Un.fr {ts' : List R} (h : Un w0 w pb sub lo hi ks ts vl vw Vs Ws) (hf : Kx w w') (ht : PB w0 w' pb sub lo hi ks ts') : Un w0 w' pb sub lo hi ks ts' vl vw Vs Ws :=
  ⟨ht, hf.row h.ls (by decide), hf.row h.ws (by decide), h.ne, h.len, fun i v u hv hu => by
    obtain ⟨K, h1, h2, h3⟩ := h.pr i v u hv hu
    exact ⟨K, hf.row h1 (by decide), hf.row h2 (by decide), h3⟩, h.two⟩
theorem Un.below (h : Un w0 w pb sub lo hi ks ts vl vw Vs Ws) (hb : Below w.heap.size w w') : Un w0 w' pb sub lo hi ks ts vl vw Vs Ws := h.fr (Kx.of hb) (h.tb.below hb)
theorem Un.start (h : PB w0 w pb sub lo hi ks ts) : Un w0 w pb sub lo hi ks ts (.slice none 0 0) (.slice none 0 0) [] [] :=
  ⟨h, World.ownsRow_nil _ _ _ _, World.ownsRow_nil _ _ _ _, (fun k e => by cases e), rfl, (fun i v u hv => by simp at hv), List.Pairwise.nil⟩

/-- Two lists more, and two copies. -/
theorem Un.more (h : Un w0 w pb sub lo hi ks ts vl vw Vs Ws) (v1 v2 : Value) (K1 K2 : List (Nat × Int)) (B1 B2 : Nat) (h1 : Me.OwnQ w B1 v1 K1) (h2 : Me.OwnQ w B2 v2 K2) (l1 : K1.length ≤ 4294967296) (l2 : K2.length ≤ 4294967296) (b1 : w0.heap.size ≤ B1) (b2 : w0.heap.size ≤ B2) (hz : Vs.length + 2 ≤ 4294967296)
    (n1 : ∀ v ∈ Vs, ∀ k, v.ownBlock = some k → v1.ownBlock ≠ some k) (n2 : ∀ v ∈ Vs, ∀ k, v.ownBlock = some k → v2.ownBlock ≠ some k) (n3 : ∀ k, v1.ownBlock = some k → v2.ownBlock ≠ some k) :
    ∃ vl' w3, (Builtin.append_ #[81, 81] 81 #[vl, .slice (some ⟨w.heap.size, 0, none⟩) 2 2]).run Try.prog (w.alloc (.cells #[v1, v2] 26)) = .ok vl' w3 ∧
      ∃ k1 w4, (Builtin.append_ #[26, 26] 26 #[.slice none 0 0, v1]).run Try.prog w3 = .ok k1 w4 ∧ ∃ k2 w5, (Builtin.append_ #[26, 26] 26 #[.slice none 0 0, v2]).run Try.prog w4 = .ok k2 w5 ∧
      ∃ vw' w6, (Builtin.append_ #[81, 81] 81 #[vw, .slice (some ⟨w5.heap.size, 0, none⟩) 2 2]).run Try.prog (w5.alloc (.cells #[k1, k2] 26)) = .ok vw' w6 ∧ (∃ a n c, vl' = .slice a n c) ∧ (∃ a n c, k1 = .slice a n c) ∧ (∃ a n c, k2 = .slice a n c) ∧ (∃ a n c, vw' = .slice a n c) ∧
      Un w0 w6 pb sub lo hi ks ts vl' vw' (Vs ++ [v1, v2]) (Ws ++ [k1, k2]) := by
  have hB := h.tb.be.size
  have hB1 : Below w.heap.size w (w.alloc (.cells #[v1, v2] 26)) := (Below.refl _ _).alloc (Nat.le_refl _) _
  have hz1 := hB1.size
  have hA := h.below hB1
  have r1 := heap_alloc_new w (.cells #[v1, v2] 26 (0, 0))
  obtain ⟨a1, c1, e1, -⟩ := Me.ownQ_len h1
  obtain ⟨a2, c2, e2, -⟩ := Me.ownQ_len h2
  obtain ⟨vl', w3, hr3, ho3, hg3, hn3⟩ := Me.append_s _ w0.heap.size vl Vs [v1, v2] w.heap.size 2 2 hA.ls rfl (by decide) (fun j x hj => by
    rw [cell_of_row _ _ _ _ _ _ r1, ← Array.getElem?_toList]; exact hj) (fun x hx => by
    simp only [List.mem_cons, List.not_mem_nil, or_false] at hx
    rcases hx with rfl | rfl
    · exact ⟨_, _, _, e1⟩
    · exact ⟨_, _, _, e2⟩) (by omega) hz
  have hz3 := hg3.size
  have q1 : Me.OwnQ w3 B1 v1 K1 := Me.row_grown (Me.row_below h1 hB1) hg3 (Me.kind_ne hA.ls (Me.row_below h1 hB1))
  have q2 : Me.OwnQ w3 B2 v2 K2 := Me.row_grown (Me.row_below h2 hB1) hg3 (Me.kind_ne hA.ls (Me.row_below h2 hB1))
  obtain ⟨k1, w4, hr4, ho4, hg4⟩ := Me.copy_q w3 B1 v1 K1 q1 (by omega)
  have hz4 := hg4.size
  have q2' : Me.OwnQ w4 B2 v2 K2 := Me.row_grown q2 hg4 (fun _ _ e => by cases e)
  obtain ⟨k2, w5, hr5, ho5, hg5⟩ := Me.copy_q w4 B2 v2 K2 q2' (by omega)
  have hz5 := hg5.size
  obtain ⟨a4, c4, e4, -⟩ := Me.ownQ_len ho4
  obtain ⟨a5, c5, e5, -⟩ := Me.ownQ_len ho5
  have hB6 : Below w5.heap.size w5 (w5.alloc (.cells #[k1, k2] 26)) := (Below.refl _ _).alloc (Nat.le_refl _) _
  have hz6 := hB6.size
  have r6 := heap_alloc_new w5 (.cells #[k1, k2] 26 (0, 0))
  have up : ∀ (e : TypeId) (sz : Nat) (B : Nat) (v : Value) (n : Nat) (xs : List Value), (w.alloc (.cells #[v1, v2] 26)).ownsRow B e sz v n xs → (∀ k, v.ownBlock = some k → vl.ownBlock ≠ some k) → (w5.alloc (.cells #[k1, k2] 26)).ownsRow B e sz v n xs := fun e sz B v n xs hv hne =>
    World.ownsRow.alloc (Me.row_grown (Me.row_grown (Me.row_grown hv hg3 hne) hg4 (fun _ _ e => by cases e)) hg5 (fun _ _ e => by cases e)) _
  obtain ⟨vw', w6, hr7, ho7, hg7, hn7⟩ := Me.append_s _ w0.heap.size vw Ws [k1, k2] w5.heap.size 2 2 (up _ _ _ _ _ _ hA.ws fun k hk hk' => h.ne k hk' hk) rfl (by decide) (fun j x hj => by
    rw [cell_of_row _ _ _ _ _ _ r6, ← Array.getElem?_toList]; exact hj) (fun x hx => by
    simp only [List.mem_cons, List.not_mem_nil, or_false] at hx
    rcases hx with rfl | rfl
    · exact ⟨_, _, _, e4⟩
    · exact ⟨_, _, _, e5⟩) (by omega) (by rw [← h.len]; exact hz)
  have hws := up _ _ _ _ _ _ hA.ws fun k hk hk' => h.ne k hk' hk
  have last : ∀ (B : Nat) (v : Value) (K : List (Nat × Int)), Me.OwnQ (w5.alloc (.cells #[k1, k2] 26)) B v K → Me.OwnQ w6 B v K := fun B v K hv => Me.row_grown hv hg7 (Me.kind_ne (Vs := Ws) hws hv)
  have f4 : Me.OwnQ w6 w3.heap.size k1 K1 := last _ _ _ (World.ownsRow.alloc (Me.row_grown ho4 hg5 (fun _ _ e => by cases e)) _)
  have f5 : Me.OwnQ w6 w4.heap.size k2 K2 := last _ _ _ (World.ownsRow.alloc ho5 _)
  have f1 : Me.OwnQ w6 B1 v1 K1 := last _ _ _ (up _ _ _ _ _ _ (Me.row_below h1 hB1) (Me.kind_ne hA.ls (Me.row_below h1 hB1)))
  have f2 : Me.OwnQ w6 B2 v2 K2 := last _ _ _ (up _ _ _ _ _ _ (Me.row_below h2 hB1) (Me.kind_ne hA.ls (Me.row_below h2 hB1)))
  have hz7 := hg7.size
  obtain ⟨al, cl, el, -⟩ := Me.row_len ho3
  obtain ⟨aw, cw, ew, -⟩ := Me.row_len ho7
  have hls6 : Me.OwnS w6 w0.heap.size vl' (Vs ++ [v1, v2]) := by
    refine Me.row_grown (World.ownsRow.alloc (Me.row_grown (Me.row_grown ho3 hg4 (fun _ _ e => by cases e)) hg5 (fun _ _ e => by cases e)) _) hg7 fun k hk hk' => ?_
    rcases hn3 k hk with e | e
    · exact h.ne k e hk'
    · have := (World.ownsRow.lt h.ws k hk').2
      omega
  refine ⟨vl', w3, hr3, k1, w4, hr4, k2, w5, hr5, vw', w6, hr7, ⟨_, _, _, el⟩, ⟨_, _, _, e4⟩, ⟨_, _, _, e5⟩, ⟨_, _, _, ew⟩, ?_, hls6, ho7, fun k hk hk' => ?_, by simp [h.len], fun i v u hv hu => ?_, ?_⟩
  · have t3 := hA.tb.grownR hA.ls (Nat.le_refl _) hg3 (by decide)
    exact (((t3.grownN hg4).grownN hg5).below hB6).grownR hws (Nat.le_refl _) hg7 (by decide)
  · rcases hn3 k hk with e | e
    · rcases hn7 k hk' with e' | e'
      · exact h.ne k e e'
      · have := (World.ownsRow.lt h.ls k e).2
        omega
    · rcases hn7 k hk' with e' | e'
      · have := (World.ownsRow.lt h.ws k e').2
        omega
      · have := (World.ownsRow.lt ho3 k hk).2
        omega
  · by_cases hi : i < Vs.length
    · rw [List.getElem?_append_left hi] at hv
      rw [List.getElem?_append_left (by rw [← h.len]; exact hi)] at hu
      obtain ⟨K, p1, p2, p3⟩ := hA.pr i v u hv hu
      exact ⟨K, last _ _ _ (up _ _ _ _ _ _ p1 (Me.kind_ne hA.ls p1)), last _ _ _ (up _ _ _ _ _ _ p2 (Me.kind_ne hA.ls p2)), p3⟩
    · rw [List.getElem?_append_right (by omega)] at hv
      rw [List.getElem?_append_right (by rw [← h.len]; omega), ← h.len] at hu
      generalize i - Vs.length = q at *
      match q with
      | 0 =>
        simp at hv hu
        subst hv hu
        exact ⟨K1, Me.row_low f1 b1, Me.row_low f4 (by omega), l1⟩
      | 1 =>
        simp at hv hu
        subst hv hu
        exact ⟨K2, Me.row_low f2 b2, Me.row_low f5 (by omega), l2⟩
      | q + 2 => simp at hv
  · refine List.pairwise_append.2 ⟨h.two, List.pairwise_pair.2 n3, fun a ha x hx => ?_⟩
    simp only [List.mem_cons, List.not_mem_nil, or_false] at hx
    rcases hx with rfl | rfl
    · exact n1 a ha
    · exact n2 a ha
theorem Un.lists (h : Un w0 w pb sub lo hi ks ts vl vw Vs Ws) : ∃ f, Me.Ls w0 w vl Vs f ∧ ∀ i, (f i).length ≤ 4294967296 := by
  have : ∀ i : Nat, ∃ K : List (Nat × Int), (∀ v, Vs[i]? = some v → Me.OwnQ w w0.heap.size v K) ∧ K.length ≤ 4294967296 := fun i => by
    cases hv : Vs[i]? with
    | none => exact ⟨[], (fun v e => by cases e), by simp⟩
    | some v =>
      have hi := (List.getElem?_eq_some_iff.1 hv).1
      obtain ⟨K, h1, -, h2⟩ := h.pr i v (Ws[i]'(by rw [← h.len]; exact hi)) hv (List.getElem?_eq_getElem _)
      exact ⟨K, (fun v' e => by cases e; exact h1), h2⟩
  exact ⟨fun i => (this i).choose, ⟨h.tb.be, h.ls, fun i v hv => (this i).choose_spec.1 v hv, h.two⟩, fun i => (this i).choose_spec.2⟩
end

def UnE (w0 wr : World) (pb sub lo hi : Nat) (ks : List R) (vl vw : Value) (m : Nat) : Prop := ∃ ts Vs Ws, Un w0 wr pb sub lo hi ks ts vl vw Vs Ws ∧ Vs.length = m
section
variable {w0 wr wr' : World} {pb sub lo hi m : Nat} {ks : List R} {vl vw : Value}
theorem UnE.be (h : UnE w0 wr pb sub lo hi ks vl vw m) : Below w0.heap.size w0 wr := by
  obtain ⟨ts, Vs, Ws, h, -⟩ := h
  exact h.tb.be
theorem UnE.below (h : UnE w0 wr pb sub lo hi ks vl vw m) (hb : Below wr.heap.size wr wr') : UnE w0 wr' pb sub lo hi ks vl vw m := by
  obtain ⟨ts, Vs, Ws, h, e⟩ := h
  exact ⟨ts, Vs, Ws, h.below hb, e⟩
theorem UnE.take (h : UnE w0 wr pb sub lo hi ks vl vw m) : Calls Try.prog 14 #[.pointer (some ⟨pb, 0, none⟩)] wr fun e w' => (∃ v, e = .returned v) ∧ UnE w0 w' pb sub lo hi ks vl vw m := by
  obtain ⟨ts, Vs, Ws, h, e⟩ := h
  refine h.tb.take.mono ?_
  rintro e' w' ⟨he, hk, ts', hp⟩
  exact ⟨he, ts', Vs, Ws, h.fr hk hp, e⟩
theorem UnE.claim (h : UnE w0 wr pb sub lo hi ks vl vw m) (x : Nat) (y : Int) (hx : x < 4294967296) : Calls Try.prog 12 #[.pointer (some ⟨pb, 0, none⟩), .agg #[.int .u32 (x : Int), .int .i64 y]] wr fun e w' => (∃ v, e = .returned v) ∧ UnE w0 w' pb sub lo hi ks vl vw m := by
  obtain ⟨ts, Vs, Ws, h, e⟩ := h
  refine (h.tb.claim x y hx).mono ?_
  rintro e' w' ⟨he, hk, ts', hp⟩
  exact ⟨he, ts', Vs, Ws, h.fr hk hp, e⟩
theorem UnE.free (h : UnE w0 wr pb sub lo hi ks vl vw m) (x : Nat) (y : Int) (hx : x < 4294967296) : Calls Try.prog 15 #[.pointer (some ⟨pb, 0, none⟩), .agg #[.int .u32 (x : Int), .int .i64 y]] wr fun e w' => (∃ v, e = .returned v) ∧ UnE w0 w' pb sub lo hi ks vl vw m := by
  obtain ⟨ts, Vs, Ws, h, e⟩ := h
  refine (h.tb.free x y hx).mono ?_
  rintro e' w' ⟨he, hk, ts', hp⟩
  exact ⟨he, ts', Vs, Ws, h.fr hk hp, e⟩
/-- Two Takens that are the same, laid beside, and copies. -/
theorem UnE.round (h : UnE w0 wr pb sub lo hi ks vl vw m) (hm : m + 2 ≤ 4294967296) :
    Calls Try.prog 17 #[.pointer (some ⟨pb, 0, none⟩)] wr fun e W1 => ∃ a1 n1 c1, e = .returned (.slice a1 n1 c1) ∧ n1 ≤ 4294967296 ∧ Hid (Calls Try.prog 17 #[.pointer (some ⟨pb, 0, none⟩)] W1 fun e W2 => ∃ a2 n2 c2, e = .returned (.slice a2 n2 c2) ∧
      Hid (Calls Try.prog 18 #[.slice a1 n1 c1, .slice a2 n2 c2] W2 fun e W3 => e = .returned (.bool true) ∧
      Hid (∃ a3 n3 c3 w3 a4 n4 c4 w4 a5 n5 c5 w5 a6 n6 c6 w6, Hid ((Builtin.append_ #[81, 81] 81 #[vl, .slice (some ⟨W3.heap.size, 0, none⟩) 2 2]).run Try.prog (W3.alloc (.cells #[.slice a1 n1 c1, .slice a2 n2 c2] 26)) = .ok (.slice a3 n3 c3) w3) ∧
        Hid ((Builtin.append_ #[26, 26] 26 #[.slice none 0 0, .slice a1 n1 c1]).run Try.prog w3 = .ok (.slice a4 n4 c4) w4) ∧ Hid ((Builtin.append_ #[26, 26] 26 #[.slice none 0 0, .slice a2 n2 c2]).run Try.prog w4 = .ok (.slice a5 n5 c5) w5) ∧
        Hid ((Builtin.append_ #[81, 81] 81 #[vw, .slice (some ⟨w5.heap.size, 0, none⟩) 2 2]).run Try.prog (w5.alloc (.cells #[.slice a4 n4 c4, .slice a5 n5 c5] 26)) = .ok (.slice a6 n6 c6) w6) ∧ Hid (UnE w0 w6 pb sub lo hi ks (.slice a3 n3 c3) (.slice a6 n6 c6) (m + 2))))) := by
  obtain ⟨ts, Vs, Ws, h, hlen⟩ := h
  refine h.tb.taken.mono ?_
  rintro e W1 ⟨v1, rfl, ho1, hb1, hl1⟩
  have hU1 := h.below hb1
  obtain ⟨a1, c1, e1, -⟩ := Me.ownQ_len ho1
  subst e1
  refine ⟨a1, _, c1, rfl, hl1, ?_⟩
  refine hU1.tb.taken.mono ?_
  rintro e W2 ⟨v2, rfl, ho2, hb2, hl2⟩
  have hU2 := hU1.below hb2
  have ho1' := Me.row_below ho1 hb2
  obtain ⟨a2, c2, e2, -⟩ := Me.ownQ_len ho2
  subst e2
  refine ⟨a2, _, c2, rfl, ?_⟩
  refine (same_self _ _ (tks sub (els ts)) W2 (OwnP.sees ho1') (OwnP.sees ho2)).mono ?_
  rintro e W3 ⟨rfl, hb3⟩
  refine ⟨rfl, ?_⟩
  have hU3 := hU2.below hb3
  have s0 := h.tb.be.size
  have s1 := hb1.size
  have old : ∀ v ∈ Vs, ∀ k, v.ownBlock = some k → k < wr.heap.size := fun v hv k hk => by
    obtain ⟨i, hi, rfl⟩ := List.getElem_of_mem hv
    obtain ⟨K, p1, -⟩ := h.pr i Vs[i] (Ws[i]'(by rw [← h.len]; exact hi)) (List.getElem?_eq_getElem _) (List.getElem?_eq_getElem _)
    exact (World.ownsRow.lt p1 k hk).2
  obtain ⟨vl', w3, r3, k1, w4, r4, k2, w5, r5, vw', w6, r6, ⟨a3, n3, c3, rfl⟩, ⟨a4, n4, c4, rfl⟩, ⟨a5, n5, c5, rfl⟩, ⟨a6, n6, c6, rfl⟩, hU⟩ := hU3.more _ _ _ _ _ _ (Me.row_below ho1' hb3) (Me.row_below ho2 hb3) hl1 hl2 s0 (by omega) (by omega)
    (fun v hv k hk hk' => by have := old v hv k hk; have := (World.ownsRow.lt ho1 k hk').1; omega)
    (fun v hv k hk hk' => by have := old v hv k hk; have := (World.ownsRow.lt ho2 k hk').1; omega)
    (fun k hk hk' => by have := (World.ownsRow.lt ho1 k hk).2; have := (World.ownsRow.lt ho2 k hk').1; omega)
  exact ⟨a3, n3, c3, w3, a4, n4, c4, w4, a5, n5, c5, w5, a6, n6, c6, w6, r3, r4, r5, r6, _, _, _, hU, by simp [hlen]⟩
/-- What is compared. -/
theorem UnE.pair {al aw : Option Addr} {nl cl nw cw : Nat} (h : UnE w0 wr pb sub lo hi ks (.slice al nl cl) (.slice aw nw cw) m) :
    nl = m ∧ nw = m ∧ ∀ i, i < m → ∃ gl gw a n c a' n' c', al = some ⟨gl, 0, none⟩ ∧ aw = some ⟨gw, 0, none⟩ ∧ (∀ t : Beh wr, t.wd.cell? ⟨gl, i, none⟩ = some (.slice a n c)) ∧ (∀ t : Beh wr, t.wd.cell? ⟨gw, i, none⟩ = some (.slice a' n' c')) ∧
      ∀ t : Beh wr, Hid (Calls Try.prog 18 #[.slice a n c, .slice a' n' c'] t.wd fun e w' => e = .returned (.bool true) ∧ ∃ t' : Beh wr, w' = t'.wd) := by
  obtain ⟨ts, Vs, Ws, h, rfl⟩ := h
  obtain ⟨al', cl', el, -, -, l0, l1⟩ := Me.row_len h.ls
  obtain ⟨aw', cw', ew, -, -, m0, m1⟩ := Me.row_len h.ws
  have hlen := h.len
  simp only [Value.slice.injEq] at el ew
  obtain ⟨rfl, rfl, rfl⟩ := el
  obtain ⟨rfl, rfl, rfl⟩ := ew
  refine ⟨rfl, hlen.symm, fun i hi => ?_⟩
  cases al with
  | none => have := (l0 rfl).1; omega
  | some p =>
  cases aw with
  | none => have := (m0 rfl).1; omega
  | some p' =>
  obtain ⟨gl, rfl, -, hgl⟩ := l1 p rfl
  obtain ⟨gw, rfl, -, hgw⟩ := m1 p' rfl
  obtain ⟨K, p1, p2, -⟩ := h.pr i Vs[i] (Ws[i]'(by omega)) (List.getElem?_eq_getElem _) (List.getElem?_eq_getElem _)
  have cv := (Me.row_cell (xs := Vs) h.ls (List.getElem?_eq_getElem hi)).1
  have cw := (Me.row_cell (xs := Ws) h.ws (List.getElem?_eq_getElem (by omega : i < Ws.length))).1
  generalize Vs[i] = v at *
  generalize Ws[i]'(by omega) = u at *
  obtain ⟨a, c, e1, -⟩ := Me.ownQ_len p1
  obtain ⟨a', c', e2, -⟩ := Me.ownQ_len p2
  subst e1 e2
  refine ⟨gl, gw, a, _, c, a', _, c', rfl, rfl, fun t => (t.ok.cell (p := ⟨gl, i, none⟩) hgl).trans cv, fun t => (t.ok.cell (p := ⟨gw, i, none⟩) hgw).trans cw, fun t => ?_⟩
  exact Calls.beh (same_self _ _ K t.wd (OwnP.sees (Me.row_below p1 t.ok)) (OwnP.sees (Me.row_below p2 t.ok)))
end
end Go.Proofs.Ytahoileampdnkaa

/-
  PoolMemory: the law's untouched: the walk.
-/
namespace Go.Proofs.Ytahoileampdnkaa
open Go.ChangeShapes Go.WideShapes Go.ChangeAt Go.RowKit Ru N Tri
set_option maxHeartbeats 20000000
set_option maxRecDepth 100000

theorem SeesO.shape {w : World} {v : Value} {S : List Stp} (h : SeesO w v S) : ∃ ao n cap, v = .slice ao n cap ∧ Hid (n = S.length) ∧ n ≤ cap ∧ cap ≤ maxLen := by
  obtain ⟨ao, cap, hv, h1, h2, _⟩ := h
  exact ⟨ao, S.length, cap, hv, rfl, h1, h2⟩
theorem SeesO.at {w : World} {ao : Option Addr} {n cap : Nat} {S : List Stp} (h : SeesO w (.slice ao n cap) S) (j : Nat) (hj : j < n) : ∃ (g off : Nat) (o : Stp), ao = some ⟨g, off, none⟩ ∧ Hid (S[j]? = some o) ∧ ∀ u : World, Below w.heap.size w u → u.cell? ⟨g, off + j * 4, none⟩ = some (.int .i64 o.k) ∧ u.cell? ⟨g, off + j * 4 + 1, none⟩ = some (.int .i64 o.o) ∧ u.cell? ⟨g, off + j * 4 + 2, none⟩ = some (.int .u32 (o.a : Int)) ∧ u.cell? ⟨g, off + j * 4 + 3, none⟩ = some (.int .i64 o.l) := by
  obtain ⟨ao', cap', hv, h1, h2, h3⟩ := h
  simp only [Value.slice.injEq] at hv
  obtain ⟨rfl, rfl, rfl⟩ := hv
  obtain ⟨g, off, e, hg, c0, c1, c2, c3⟩ := h3 j hj
  exact ⟨g, off, S[j], e, List.getElem?_eq_getElem hj, fun u hu => ⟨(hu.cell (p := ⟨g, _, none⟩) hg).trans c0, (hu.cell (p := ⟨g, _, none⟩) hg).trans c1, (hu.cell (p := ⟨g, _, none⟩) hg).trans c2, (hu.cell (p := ⟨g, _, none⟩) hg).trans c3⟩⟩

theorem untouched_any (q : Sp) (v : Value) (S : List Stp) (w : World) (hq : q.Ok w) (hv : SeesO w v S) (hC : ∀ p ∈ S, p.a < 4294967296) (hs : newE q.x q.y q.s q.lo q.hi q.L = 0) :
    Calls Try.prog 23 #[.agg q.cells, v] w fun e w' => e = .returned (.bool true) ∧ Below w.heap.size w w' := by
  obtain ⟨x, y, s, lo0, hi0, kv, L⟩ := q
  obtain ⟨ak, nk, ck0, hkv, HNK, hk1, hk2⟩ := hq.kv.shape
  simp only at hkv
  subst hkv
  obtain ⟨ac, n, cc0, rfl, HNC, hc1, hc2⟩ := hv.shape
  obtain ⟨w2, HW2⟩ : ∃ w2, Hid (w2 = w.alloc (.cells #[.int .u32 (x : Int), .int .i64 y, .int .i64 s, .int .u32 (lo0 : Int), .int .u32 (hi0 : Int), .slice ak nk ck0] 28)) := ⟨_, rfl⟩
  have hb2 : Below w.heap.size w w2 := by rw [HW2.out]; exact (Below.refl _ _).alloc (Nat.le_refl _) _
  have r2 : w2.heap[w.heap.size]? = some (.cells #[.int .u32 (x : Int), .int .i64 y, .int .i64 s, .int .u32 (lo0 : Int), .int .u32 (hi0 : Int), .slice ak nk ck0] 28 (0, 0)) := by rw [HW2.out]; exact heap_alloc_new w _
  obtain ⟨sb, HSB⟩ : ∃ sb, Hid (sb = w.heap.size) := ⟨_, rfl⟩
  rw [← HSB.out] at r2
  obtain ⟨c0, c1, c2, c3, c4, c5⟩ : w2.cell? ⟨sb, 0, none⟩ = some (.int .u32 (x : Int)) ∧ w2.cell? ⟨sb, 1, none⟩ = some (.int .i64 y) ∧ w2.cell? ⟨sb, 2, none⟩ = some (.int .i64 s) ∧ w2.cell? ⟨sb, 3, none⟩ = some (.int .u32 (lo0 : Int)) ∧ w2.cell? ⟨sb, 4, none⟩ = some (.int .u32 (hi0 : Int)) ∧ w2.cell? ⟨sb, 5, none⟩ = some (.slice ak nk ck0) := by
    refine ⟨?_, ?_, ?_, ?_, ?_, ?_⟩ <;> (rw [cell_of_row _ _ _ _ _ _ r2]; rfl)
  have HB2 := hid hb2
  have HAT : ∀ j, j < n → ∃ (g off : Nat) (o : Stp), ac = some ⟨g, off, none⟩ ∧ Hid (S[j]? = some o) ∧ Hid (∀ u : World, Below w.heap.size w u → u.cell? ⟨g, off + j * 4, none⟩ = some (.int .i64 o.k) ∧ u.cell? ⟨g, off + j * 4 + 1, none⟩ = some (.int .i64 o.o) ∧ u.cell? ⟨g, off + j * 4 + 2, none⟩ = some (.int .u32 (o.a : Int)) ∧ u.cell? ⟨g, off + j * 4 + 3, none⟩ = some (.int .i64 o.l)) := fun j hj => hv.at j hj
  have HCC := hid hC
  have hmd := made_any ⟨x, y, s, lo0, hi0, .slice ak nk ck0, L⟩ w2 (hq.below HB2.out)
  unfold News at hmd
  simp only at hs hmd
  have HS := hid hs
  have HMD := hid hmd
  unfold Sp.cells at HMD ⊢
  simp only at HMD ⊢
  unfold maxLen at hc2
  have HBW : Hid (∀ u : World, Below w2.heap.size w2 u → Below w.heap.size w u) := fun u hu => HB2.out.trans (hu.mono HB2.out.size)
  clear hq hv hC hb2 r2 hk1 hk2 hmd hs
  go_enter Try.func23, Try.ntmps23
  go_upto_region 1 with fail
  rw [← HW2.out, ← HSB.out]
  go_wp2_with fail
  refine HMD.out.mono ?_
  rintro e w4 (⟨h1, rfl, h3⟩ | ⟨h1, pb, sub, vk, ks, h2, rfl, h3, h4⟩)
  · exact absurd HS.out h1
  have HU : Hid (UnE w2 w4 pb sub (num sub lo0) (num sub hi0) ks (.slice none 0 0) (.slice none 0 0) (2 * 0)) := ⟨[], [], [], Un.start ⟨vk, _, h3.pool, h3.new, h3.vnew, (fun g hg => by cases hg), h3.be⟩, rfl⟩
  clear c0 c1 c2 c3 c4 c5 h1 h2 h3 h4 HMD HS
  generalize num sub lo0 = lo at *
  generalize num sub hi0 = hi at *
  go_upto_region 8 with fail
  go_loopw [7, 8, 9, 10] (fun vl vw t i wv => ∃ (k tt : Nat) (al aw : Option Addr) (nl cl nw cw : Nat) (wr : World), wr = wv ∧ vl = .slice al nl cl ∧ vw = .slice aw nw cw ∧ t = .int .i64 (tt : Int) ∧ i = .int .i64 (k : Int) ∧ k ≤ n ∧ Hid (50 * k ≤ tt) ∧ tt ≤ 8590458930 ∧ Hid (UnE w2 wr pb sub lo hi ks (.slice al nl cl) (.slice aw nw cw) (2 * k))) (fun _ _ _ i _ => n - (intOf i).toNat)
  case atStart => exact ⟨0, 0, none, none, 0, 0, 0, 0, _, rfl, rfl, rfl, rfl, rfl, Nat.zero_le _, hid (Nat.zero_le _), by decide, HU⟩
  case round =>
    clear HU
    obtain ⟨k, tt, al, aw, nl, cl, nw, cw, u, rfl, rfl, rfl, rfl, rfl, hk, HKT, htt, HU⟩ := hrel
    by_cases hc : k < n ∧ tt < 524288
    · obtain ⟨hlt, htl⟩ := hc
      have b1 : (k : Int) < (n : Int) := int_lt hlt
      have b2 : (tt : Int) < 524288 := by omega
      obtain ⟨g, off, o, rfl, HO, HCL⟩ := HAT k hlt
      obtain ⟨d0, d1, d2, d3⟩ := HCL.out u (HBW.out u HU.out.be)
      have hoa := HCC.out o (List.mem_of_getElem? HO.out)
      have HTK := hid HU.out.take
      have HCM := hid (HU.out.claim o.a o.l hoa)
      have HFR := hid (HU.out.free o.a o.l hoa)
      have hk2 : k ≤ 10486 := by have := HKT.out; omega
      clear HO hoa
      by_cases k1 : o.k = 1
      · have q1 : (o.k == 1) = true := by simp [k1]
        go_wp2_with fail
        refine HTK.out.mono ?_
        rintro _ y2 ⟨⟨rv, rfl⟩, hu⟩
        have HU2 := hid hu
        clear d0 d1 d2 d3 HTK HCM HFR HU HCL hu
        have HRD := hid (HU2.out.round (by omega))
        go_wp2_with fail
        refine HRD.out.mono ?_
        rintro _ w5 ⟨a1, n1, c1, rfl, hn1, HR2⟩
        clear HRD
        go_wp2_with fail
        refine HR2.out.mono ?_
        rintro _ w6 ⟨a2, n2, c2, rfl, HR3⟩
        clear HR2
        go_wp2_with fail
        refine HR3.out.mono ?_
        rintro _ w7 ⟨rfl, HR4⟩
        obtain ⟨a3, n3, c3, w3', a4, n4, c4, w4', a5, n5, c5, w5', a6, n6, c6, w6', HA3, HA4, HA5, HA6, HU6⟩ := HR4.out
        clear HR3 HR4 HU2
        obtain ⟨t2, HT2⟩ : ∃ t2 : Nat, Hid ((tt : Int) + 2 * (n1 : Int) + 50 = (t2 : Int) ∧ t2 = tt + 2 * n1 + 50) := ⟨tt + 2 * n1 + 50, by unfold Hid; omega⟩
        have ht2 : t2 ≤ 8590458930 := by have := HT2.out.2; omega
        have HKT2 : Hid (50 * (k + 1) ≤ t2) := by have := HT2.out.2; have := HKT.out; unfold Hid; omega
        have e1 : (-9223372036854775808 : Int) ≤ 2 * (n1 : Int) := by omega
        have e2 : 2 * (n1 : Int) ≤ 9223372036854775807 := by omega
        have e3 : (-9223372036854775808 : Int) ≤ (tt : Int) + 2 * (n1 : Int) := by omega
        have e4 : (tt : Int) + 2 * (n1 : Int) ≤ 9223372036854775807 := by omega
        have e5 : (-9223372036854775808 : Int) ≤ (tt : Int) + 2 * (n1 : Int) + 50 := by omega
        have e6 : (tt : Int) + 2 * (n1 : Int) + 50 ≤ 9223372036854775807 := by omega
        clear HKT
        go_upto_region 22 with fail
        rw [HT2.out.1]
        clear HT2 e1 e2 e3 e4 e5 e6
        go_wp2_with (first | (at_builtin; refine Go.Lib.wpList_append_run _ rfl (.tmp 84) (.tmp 87) 81 81 rfl _ _ rfl rfl _ _ HA3.out ?_) | (at_builtin; refine Go.Lib.wpList_append_run _ rfl (.const (.slice none 0 0)) (.tmp 90) 26 26 rfl _ _ rfl rfl _ _ HA4.out ?_) | (at_builtin; refine Go.Lib.wpList_append_run _ rfl (.const (.slice none 0 0)) (.tmp 92) 26 26 rfl _ _ rfl rfl _ _ HA5.out ?_) | (at_builtin; refine Go.Lib.wpList_append_run _ rfl (.tmp 89) (.tmp 94) 81 81 rfl _ _ rfl rfl _ _ HA6.out ?_) | fail)
        go_roundw
        case rel => exact ⟨k + 1, t2, a3, a6, n3, c3, n6, c6, _, rfl, rfl, rfl, rfl, by go_num, hlt, HKT2, ht2, HU6⟩
        case measure => simp [intOf]; omega
      · have q1 : (o.k == 1) = false := by simp [k1]
        by_cases k2 : o.k = 2
        · have q2 : (o.k == 2) = true := by simp [k2]
          go_wp2_with fail
          refine HCM.out.mono ?_
          rintro _ y2 ⟨⟨rv, rfl⟩, hu⟩
          have HU2 := hid hu
          clear d0 d1 d2 d3 HTK HCM HFR HU HCL hu
          have HRD := hid (HU2.out.round (by omega))
          go_wp2_with fail
          refine HRD.out.mono ?_
          rintro _ w5 ⟨a1, n1, c1, rfl, hn1, HR2⟩
          clear HRD
          go_wp2_with fail
          refine HR2.out.mono ?_
          rintro _ w6 ⟨a2, n2, c2, rfl, HR3⟩
          clear HR2
          go_wp2_with fail
          refine HR3.out.mono ?_
          rintro _ w7 ⟨rfl, HR4⟩
          obtain ⟨a3, n3, c3, w3', a4, n4, c4, w4', a5, n5, c5, w5', a6, n6, c6, w6', HA3, HA4, HA5, HA6, HU6⟩ := HR4.out
          clear HR3 HR4 HU2
          obtain ⟨t2, HT2⟩ : ∃ t2 : Nat, Hid ((tt : Int) + 2 * (n1 : Int) + 50 = (t2 : Int) ∧ t2 = tt + 2 * n1 + 50) := ⟨tt + 2 * n1 + 50, by unfold Hid; omega⟩
          have ht2 : t2 ≤ 8590458930 := by have := HT2.out.2; omega
          have HKT2 : Hid (50 * (k + 1) ≤ t2) := by have := HT2.out.2; have := HKT.out; unfold Hid; omega
          have e1 : (-9223372036854775808 : Int) ≤ 2 * (n1 : Int) := by omega
          have e2 : 2 * (n1 : Int) ≤ 9223372036854775807 := by omega
          have e3 : (-9223372036854775808 : Int) ≤ (tt : Int) + 2 * (n1 : Int) := by omega
          have e4 : (tt : Int) + 2 * (n1 : Int) ≤ 9223372036854775807 := by omega
          have e5 : (-9223372036854775808 : Int) ≤ (tt : Int) + 2 * (n1 : Int) + 50 := by omega
          have e6 : (tt : Int) + 2 * (n1 : Int) + 50 ≤ 9223372036854775807 := by omega
          clear HKT
          go_upto_region 22 with fail
          rw [HT2.out.1]
          clear HT2 e1 e2 e3 e4 e5 e6
          go_wp2_with (first | (at_builtin; refine Go.Lib.wpList_append_run _ rfl (.tmp 84) (.tmp 87) 81 81 rfl _ _ rfl rfl _ _ HA3.out ?_) | (at_builtin; refine Go.Lib.wpList_append_run _ rfl (.const (.slice none 0 0)) (.tmp 90) 26 26 rfl _ _ rfl rfl _ _ HA4.out ?_) | (at_builtin; refine Go.Lib.wpList_append_run _ rfl (.const (.slice none 0 0)) (.tmp 92) 26 26 rfl _ _ rfl rfl _ _ HA5.out ?_) | (at_builtin; refine Go.Lib.wpList_append_run _ rfl (.tmp 89) (.tmp 94) 81 81 rfl _ _ rfl rfl _ _ HA6.out ?_) | fail)
          go_roundw
          case rel => exact ⟨k + 1, t2, a3, a6, n3, c3, n6, c6, _, rfl, rfl, rfl, rfl, by go_num, hlt, HKT2, ht2, HU6⟩
          case measure => simp [intOf]; omega
        · have q2 : (o.k == 2) = false := by simp [k2]
          by_cases k3 : o.k = 3
          · have q3 : (o.k == 3) = true := by simp [k3]
            go_wp2_with fail
            refine HFR.out.mono ?_
            rintro _ y2 ⟨⟨rv, rfl⟩, hu⟩
            have HU2 := hid hu
            clear d0 d1 d2 d3 HTK HCM HFR HU HCL hu
            have HRD := hid (HU2.out.round (by omega))
            go_wp2_with fail
            refine HRD.out.mono ?_
            rintro _ w5 ⟨a1, n1, c1, rfl, hn1, HR2⟩
            clear HRD
            go_wp2_with fail
            refine HR2.out.mono ?_
            rintro _ w6 ⟨a2, n2, c2, rfl, HR3⟩
            clear HR2
            go_wp2_with fail
            refine HR3.out.mono ?_
            rintro _ w7 ⟨rfl, HR4⟩
            obtain ⟨a3, n3, c3, w3', a4, n4, c4, w4', a5, n5, c5, w5', a6, n6, c6, w6', HA3, HA4, HA5, HA6, HU6⟩ := HR4.out
            clear HR3 HR4 HU2
            obtain ⟨t2, HT2⟩ : ∃ t2 : Nat, Hid ((tt : Int) + 2 * (n1 : Int) + 50 = (t2 : Int) ∧ t2 = tt + 2 * n1 + 50) := ⟨tt + 2 * n1 + 50, by unfold Hid; omega⟩
            have ht2 : t2 ≤ 8590458930 := by have := HT2.out.2; omega
            have HKT2 : Hid (50 * (k + 1) ≤ t2) := by have := HT2.out.2; have := HKT.out; unfold Hid; omega
            have e1 : (-9223372036854775808 : Int) ≤ 2 * (n1 : Int) := by omega
            have e2 : 2 * (n1 : Int) ≤ 9223372036854775807 := by omega
            have e3 : (-9223372036854775808 : Int) ≤ (tt : Int) + 2 * (n1 : Int) := by omega
            have e4 : (tt : Int) + 2 * (n1 : Int) ≤ 9223372036854775807 := by omega
            have e5 : (-9223372036854775808 : Int) ≤ (tt : Int) + 2 * (n1 : Int) + 50 := by omega
            have e6 : (tt : Int) + 2 * (n1 : Int) + 50 ≤ 9223372036854775807 := by omega
            clear HKT
            go_upto_region 22 with fail
            rw [HT2.out.1]
            clear HT2 e1 e2 e3 e4 e5 e6
            go_wp2_with (first | (at_builtin; refine Go.Lib.wpList_append_run _ rfl (.tmp 84) (.tmp 87) 81 81 rfl _ _ rfl rfl _ _ HA3.out ?_) | (at_builtin; refine Go.Lib.wpList_append_run _ rfl (.const (.slice none 0 0)) (.tmp 90) 26 26 rfl _ _ rfl rfl _ _ HA4.out ?_) | (at_builtin; refine Go.Lib.wpList_append_run _ rfl (.const (.slice none 0 0)) (.tmp 92) 26 26 rfl _ _ rfl rfl _ _ HA5.out ?_) | (at_builtin; refine Go.Lib.wpList_append_run _ rfl (.tmp 89) (.tmp 94) 81 81 rfl _ _ rfl rfl _ _ HA6.out ?_) | fail)
            go_roundw
            case rel => exact ⟨k + 1, t2, a3, a6, n3, c3, n6, c6, _, rfl, rfl, rfl, rfl, by go_num, hlt, HKT2, ht2, HU6⟩
            case measure => simp [intOf]; omega
          · have q3 : (o.k == 3) = false := by simp [k3]
            have HU2 := HU
            clear HTK HCM HFR HU HCL
            have HRD := hid (HU2.out.round (by omega))
            go_wp2_with fail
            refine HRD.out.mono ?_
            rintro _ w5 ⟨a1, n1, c1, rfl, hn1, HR2⟩
            clear HRD
            go_wp2_with fail
            refine HR2.out.mono ?_
            rintro _ w6 ⟨a2, n2, c2, rfl, HR3⟩
            clear HR2
            go_wp2_with fail
            refine HR3.out.mono ?_
            rintro _ w7 ⟨rfl, HR4⟩
            obtain ⟨a3, n3, c3, w3', a4, n4, c4, w4', a5, n5, c5, w5', a6, n6, c6, w6', HA3, HA4, HA5, HA6, HU6⟩ := HR4.out
            clear HR3 HR4 HU2
            obtain ⟨t2, HT2⟩ : ∃ t2 : Nat, Hid ((tt : Int) + 2 * (n1 : Int) + 50 = (t2 : Int) ∧ t2 = tt + 2 * n1 + 50) := ⟨tt + 2 * n1 + 50, by unfold Hid; omega⟩
            have ht2 : t2 ≤ 8590458930 := by have := HT2.out.2; omega
            have HKT2 : Hid (50 * (k + 1) ≤ t2) := by have := HT2.out.2; have := HKT.out; unfold Hid; omega
            have e1 : (-9223372036854775808 : Int) ≤ 2 * (n1 : Int) := by omega
            have e2 : 2 * (n1 : Int) ≤ 9223372036854775807 := by omega
            have e3 : (-9223372036854775808 : Int) ≤ (tt : Int) + 2 * (n1 : Int) := by omega
            have e4 : (tt : Int) + 2 * (n1 : Int) ≤ 9223372036854775807 := by omega
            have e5 : (-9223372036854775808 : Int) ≤ (tt : Int) + 2 * (n1 : Int) + 50 := by omega
            have e6 : (tt : Int) + 2 * (n1 : Int) + 50 ≤ 9223372036854775807 := by omega
            clear HKT
            go_upto_region 22 with fail
            rw [HT2.out.1]
            clear HT2 e1 e2 e3 e4 e5 e6
            go_wp2_with (first | (at_builtin; refine Go.Lib.wpList_append_run _ rfl (.tmp 84) (.tmp 87) 81 81 rfl _ _ rfl rfl _ _ HA3.out ?_) | (at_builtin; refine Go.Lib.wpList_append_run _ rfl (.const (.slice none 0 0)) (.tmp 90) 26 26 rfl _ _ rfl rfl _ _ HA4.out ?_) | (at_builtin; refine Go.Lib.wpList_append_run _ rfl (.const (.slice none 0 0)) (.tmp 92) 26 26 rfl _ _ rfl rfl _ _ HA5.out ?_) | (at_builtin; refine Go.Lib.wpList_append_run _ rfl (.tmp 89) (.tmp 94) 81 81 rfl _ _ rfl rfl _ _ HA6.out ?_) | fail)
            go_roundw
            case rel => exact ⟨k + 1, t2, a3, a6, n3, c3, n6, c6, _, rfl, rfl, rfl, rfl, by go_num, hlt, HKT2, ht2, HU6⟩
            case measure => simp [intOf]; omega
    · have hk2 : 50 * k ≤ 8590458930 := by have := HKT.out; omega
      obtain ⟨mm, HMM⟩ : ∃ mm, Hid (mm = 2 * k) := ⟨_, rfl⟩
      have hmm : mm ≤ 343618358 := by have := HMM.out; omega
      rw [← HMM.out] at HU
      obtain ⟨e1, e2, -⟩ := HU.out.pair
      subst e1
      obtain rfl : nl = nw := e2.symm
      go_upto_region 8 with fail
      go_cut [40] from 33 to 95 (fun e wx => e = .bool false ∧ wx = u)
      case first =>
        rcases Nat.lt_or_ge k n with hqn | hqn
        · have b2 : ¬ (tt : Int) < 524288 := by omega
          have b3 : (k : Int) < (n : Int) := int_lt hqn
          go_wp2_with fail
          go_meet
          case rel => exact ⟨rfl, rfl⟩
        · have b2 : ¬ (k : Int) < (n : Int) := by omega
          go_wp2_with fail
          go_meet
          case rel => exact ⟨rfl, rfl⟩
      case rest =>
      obtain ⟨rfl, rfl⟩ := hcut
      clear HMM hc HKT hk2
      go_upto_region 25 with fail
      go_loopw [13] (fun i wv => ∃ (q : Nat) (wr : World), wr = wv ∧ i = .int .i64 (q : Int) ∧ q ≤ nl ∧ Hid (UnE w2 wr pb sub lo hi ks (.slice al nl cl) (.slice aw nl cw) nl)) (fun i _ => nl - (intOf i).toNat)
      case atStart => exact ⟨0, _, rfl, rfl, Nat.zero_le _, HU⟩
      case round =>
        clear HU
        obtain ⟨q, x1, rfl, rfl, hq, HU⟩ := hrel
        by_cases hqn : q < nl
        · obtain ⟨-, -, hp⟩ := HU.out.pair
          obtain ⟨gl, gw, a, n1, c, a', n2, c', rfl, rfl, y0, y1, HSM⟩ := hp q hqn
          have b1 : (q : Int) < (nl : Int) := by omega
          have b2 : (0 : Int) ≤ (q : Int) := by omega
          have b3 : decide ((q : Int) < 0) = false := by simp
          clear hp
          go_upto_region 27 with fail
          refine wp_region_beh (by kernel_rfl) (by kernel_rfl) ?_
          repeat (go_big_quiet_step (first | (go_at_call 18; exact (HSM _).out)))
          refine wpQuiet_nil ?_
          rintro _ ⟨t, rfl⟩
          have HU2 := hid (HU.out.below t.ok)
          clear y0 y1 HSM HU
          go_wp2_with fail
          go_roundw
          case rel => exact ⟨q + 1, _, rfl, by go_num, hqn, HU2⟩
          case measure => simp [intOf]; omega
        · have b1 : ¬ (q : Int) < (nl : Int) := by omega
          obtain ⟨ts, Vs, Ws, hU, hV⟩ := HU.out
          obtain ⟨K, hL, hK⟩ := hU.lists
          have HV := hid hV
          have HK := hid hK
          have HL : Hid (Me.Ls w2 x1 (.slice al nl cl) Vs (Me.mkd K 0 0)) := hL.mkStart
          clear hU hL hV hK HU
          go_upto_region 30 with fail
          go_loopw [14] (fun i wv => ∃ (j : Nat) (wr : World), wr = wv ∧ i = .int .i64 (j : Int) ∧ j ≤ nl ∧ Hid (Me.Ls w2 wr (.slice al nl cl) Vs (Me.mkd K j 0))) (fun i _ => nl - (intOf i).toNat)
          case atStart => exact ⟨0, _, rfl, rfl, Nat.zero_le _, HL⟩
          case round =>
            clear HL
            obtain ⟨j, y, rfl, rfl, hj, HL⟩ := hrel
            by_cases hjn : j < nl
            · have b4 : (j : Int) < (nl : Int) := by omega
              have hw32 : IntKind.u32.wrap (j : Int) = (j : Int) := by rw [IntKind.wrap_u32]; omega
              obtain ⟨lj, HLJ⟩ : ∃ lj, Hid (lj = (K j).length) := ⟨_, rfl⟩
              have hlj : lj ≤ 4294967296 := by have := HK.out j; have := HLJ.out; omega
              go_upto_region 33 with fail
              go_loopw [15] (fun i wv => ∃ (p : Nat) (wr : World), wr = wv ∧ i = .int .i64 (p : Int) ∧ p ≤ lj ∧ Hid (Me.Ls w2 wr (.slice al nl cl) Vs (Me.mkd K j p))) (fun i _ => lj - (intOf i).toNat)
              case atStart => exact ⟨0, _, rfl, rfl, Nat.zero_le _, HL⟩
              case round =>
                clear HL
                obtain ⟨p, z, rfl, rfl, hp, HL⟩ := hrel
                obtain ⟨g, a, cp, rfl, k1, k2, k3, k4⟩ := HL.out.mkAt (by rw [HV.out]; exact hjn) (by rw [← HLJ.out]; exact hp)
                rw [← HLJ.out] at k1 k3 k4
                by_cases hpl : p < lj
                · obtain ⟨q1, x2, rfl, k5, k6, k7, k8, HL2⟩ := k4 hpl
                  have b5 : (p : Int) < (lj : Int) := by omega
                  clear k4
                  go_wp2_with fail
                  go_roundw
                  case rel => exact ⟨p + 1, _, rfl, by go_num, hpl, HL2⟩
                  case measure => simp [intOf]; omega
                · have b5 : ¬ (p : Int) < (lj : Int) := by omega
                  obtain rfl : p = lj := by omega
                  have HL2 : Hid (Me.Ls w2 z (.slice (some ⟨g, 0, none⟩) nl cl) Vs (Me.mkd K (j + 1) 0)) := by
                    have := HL.out
                    rw [HLJ.out] at this
                    exact this.mkNext
                  clear k4
                  go_wp2_with fail
                  go_roundw
                  case rel => exact ⟨j + 1, _, rfl, by go_num, hjn, HL2⟩
                  case measure => simp [intOf]; omega
            · have b4 : ¬ (j : Int) < (nl : Int) := by omega
              obtain rfl : j = nl := by omega
              have HGX : Hid (∃ Us, Me.Gs w2 y (.slice al j cl) (.slice none 0 0) Vs Us (fun j => (K j).length) ∧ Us.length = 0) := by
                have := HL.out
                rw [← HV.out] at this ⊢
                exact ⟨[], this.mkEnd, rfl⟩
              clear HL
              go_upto_region 38 with fail
              go_loopw [16, 17] (fun vm i wv => ∃ (i' nm cm : Nat) (am : Option Addr) (wr : World), wr = wv ∧ vm = .slice am nm cm ∧ i = .int .i64 (i' : Int) ∧ i' ≤ j ∧ Hid (∃ Us, Me.Gs w2 wr (.slice al j cl) (.slice am nm cm) Vs Us (fun j => (K j).length) ∧ Us.length = i')) (fun _ i _ => j - (intOf i).toNat)
              case atStart => exact ⟨0, 0, 0, none, _, rfl, rfl, rfl, Nat.zero_le _, HGX⟩
              case round =>
                clear HGX
                obtain ⟨i', nm, cm, am, z, rfl, rfl, rfl, hi', HG⟩ := hrel
                by_cases hin : i' < j
                · have b5 : (i' : Int) < (j : Int) := by omega
                  have hw32 : IntKind.u32.wrap (i' : Int) = (i' : Int) := by rw [IntKind.wrap_u32]; omega
                  obtain ⟨Us, hG, hU⟩ := HG.out
                  obtain ⟨g, a, cp, rfl, k1, k2, k3, hGi⟩ := hG.begin (i := i') (by rw [HV.out]; exact hin) hU
                  obtain ⟨li, HLI⟩ : ∃ li, Hid (li = (K i').length) := ⟨_, rfl⟩
                  have hli : li ≤ 4294967296 := by have := HK.out i'; have := HLI.out; omega
                  rw [← HLI.out] at k1 k3 hGi
                  have HGI := hid hGi
                  clear hG hU hGi HG
                  go_upto_region 42 with fail
                  go_loopw [18, 19] (fun gv i wv => ∃ (q ln : Nat) (wr : World), wr = wv ∧ gv = .slice a ln cp ∧ i = .int .i64 (q : Int) ∧ q ≤ 70000 ∧ ln ≤ 4294967296 + q ∧ Hid (Me.Gi w2 wr (.slice (some ⟨g, 0, none⟩) j cl) (.slice am nm cm) Vs Us (fun j => (K j).length) i' ln a cp)) (fun _ i _ => 70000 - (intOf i).toNat)
                  case atStart => exact ⟨0, li, _, rfl, rfl, rfl, Nat.zero_le _, by omega, HGI⟩
                  case round =>
                    clear HGI k3
                    obtain ⟨q, ln, x2, rfl, rfl, rfl, hq7, hln, HGI⟩ := hrel
                    have k3 := HGI.out.here
                    rw [← HLI.out] at k3
                    by_cases hc : ln < cp ∧ q < 70000
                    · obtain ⟨hc1, hc2⟩ := hc
                      obtain ⟨w', hr, hG2⟩ := HGI.out.grow hc1 (by omega)
                      have HR := hid hr
                      have HG2 := hid hG2
                      have b6 : (ln : Int) < (cp : Int) := by omega
                      have b7 : (q : Int) < 70000 := by omega
                      clear hr hG2
                      go_wp2_with (first | (at_builtin; refine Go.Lib.wpList_append_run _ rfl (.tmp 160) (.tmp 164) 26 26 rfl _ _ rfl rfl _ _ HR.out ?_) | fail)
                      go_roundw
                      case rel => exact ⟨q + 1, ln + 1, _, rfl, rfl, by go_num, hc2, by omega, HG2⟩
                      case measure => simp [intOf]; omega
                    · obtain ⟨a', n', c', w', hr, hG2, hU2⟩ := HGI.out.done (by omega)
                      have HR := hid hr
                      have HG2 : Hid (∃ Us, Me.Gs w2 w' (.slice (some ⟨g, 0, none⟩) j cl) (.slice a' n' c') Vs Us (fun j => (K j).length) ∧ Us.length = i' + 1) := ⟨_, hG2, hU2⟩
                      clear hr hG2 hU2
                      rcases Nat.lt_or_ge ln cp with hqn | hqn
                      · have b6 : (ln : Int) < (cp : Int) := by omega
                        have b7 : ¬ (q : Int) < 70000 := by omega
                        clear hc
                        go_wp2_with (first | (at_builtin; refine Go.Lib.wpList_append_run _ rfl (.tmp 166) (.tmp 168) 81 81 rfl _ _ rfl rfl _ _ HR.out ?_) | fail)
                        go_roundw
                        case rel => exact ⟨i' + 1, n', c', a', _, rfl, rfl, by go_num, hin, HG2⟩
                        case measure => simp [intOf]; omega
                      · have b6 : ¬ (ln : Int) < (cp : Int) := by omega
                        clear hc
                        go_wp2_with (first | (at_builtin; refine Go.Lib.wpList_append_run _ rfl (.tmp 166) (.tmp 168) 81 81 rfl _ _ rfl rfl _ _ HR.out ?_) | fail)
                        go_roundw
                        case rel => exact ⟨i' + 1, n', c', a', _, rfl, rfl, by go_num, hin, HG2⟩
                        case measure => simp [intOf]; omega
                · have b5 : ¬ (i' : Int) < (j : Int) := by omega
                  obtain rfl : i' = j := by omega
                  obtain ⟨Us, hG, hU⟩ := HG.out
                  have HU := hid hU
                  have hnm : nm = i' := by
                    obtain ⟨am', cm', e, -⟩ := Me.row_len hG.ms
                    simp only [Value.slice.injEq] at e
                    rw [e.2.1, hU]
                  subst hnm
                  have HG1 := hid hG
                  clear hG hU HG
                  go_upto_region 47 with fail
                  go_loopw [20] (fun i wv => ∃ (p : Nat) (wr : World), wr = wv ∧ i = .int .i64 (p : Int) ∧ p ≤ nm ∧ Hid (Me.Gs w2 wr (.slice al nm cl) (.slice am nm cm) Vs Us (fun j => (K j).length))) (fun i _ => nm - (intOf i).toNat)
                  case atStart => exact ⟨0, _, rfl, rfl, Nat.zero_le _, HG1⟩
                  case round =>
                    clear HG1
                    obtain ⟨p, x2, rfl, rfl, hp, HG⟩ := hrel
                    by_cases hpn : p < nm
                    · have b6 : (p : Int) < (nm : Int) := by omega
                      have b60 : (0 : Int) ≤ (p : Int) := by omega
                      have b61 : decide ((p : Int) < 0) = false := by simp
                      have hw32 : IntKind.u32.wrap (p : Int) = (p : Int) := by rw [IntKind.wrap_u32]; omega
                      obtain ⟨lp, HLP⟩ : ∃ lp, Hid (lp = (K p).length) := ⟨_, rfl⟩
                      obtain ⟨gl, gm, a, m, c, a', c', rfl, rfl, k1, k2, k3, k4, k45, k5, k6⟩ := HG.out.look (i := p) (by rw [HU.out]; exact hpn)
                      rw [← HLP.out] at k2 k4 k45 k6
                      have K5 := hid k5
                      have K6 := hid k6
                      clear k5 k6
                      go_upto_region 50 with fail
                      go_loopw [21] (fun i wv => ∃ (q : Nat) (wr : World), wr = wv ∧ i = .int .i64 (q : Int) ∧ q ≤ m ∧ Hid (Below x2.heap.size x2 wr)) (fun i _ => m - (intOf i).toNat)
                      case atStart => exact ⟨0, _, rfl, rfl, Nat.zero_le _, hid (Below.refl _ _)⟩
                      case round =>
                        obtain ⟨q, x3, rfl, rfl, hq, HBX⟩ := hrel
                        have hgm : gm < x2.heap.size := World.block_lt_of_cell? x2 _ k1
                        have hgl : gl < x2.heap.size := World.block_lt_of_cell? x2 _ k2
                        have m1 : ∀ t : Beh x3, t.wd.cell? ⟨gm, p, none⟩ = some (.slice a m c) := fun t => ((HBX.out.trans (t.ok.mono HBX.out.size)).cell (p := ⟨gm, p, none⟩) hgm).trans k1
                        have m2 : ∀ t : Beh x3, t.wd.cell? ⟨gl, p, none⟩ = some (.slice a' lp c') := fun t => ((HBX.out.trans (t.ok.mono HBX.out.size)).cell (p := ⟨gl, p, none⟩) hgl).trans k2
                        have m3 := m1 ⟨x3, Below.refl _ _⟩
                        simp only at m3
                        by_cases hqm : q < m
                        · have b7 : (q : Int) < (m : Int) := by omega
                          have b70 : (0 : Int) ≤ (q : Int) := by omega
                          have b71 : decide ((q : Int) < 0) = false := by simp
                          obtain ⟨q1, e1, f1, f2⟩ := K5.out q hqm
                          subst e1
                          have hg1 : q1 < x2.heap.size := World.block_lt_of_cell? x2 _ f1
                          have g1 : ∀ t : Beh x3, t.wd.cell? ⟨q1, q * 2, none⟩ = some (.int .u32 (p : Int)) := fun t => ((HBX.out.trans (t.ok.mono HBX.out.size)).cell (p := ⟨q1, _, none⟩) hg1).trans f1
                          have g2 : ∀ t : Beh x3, t.wd.cell? ⟨q1, q * 2 + 1, none⟩ = some (.int .i64 77) := fun t => ((HBX.out.trans (t.ok.mono HBX.out.size)).cell (p := ⟨q1, _, none⟩) hg1).trans f2
                          by_cases hql : q < lp
                          · have b8 : (q : Int) < (lp : Int) := by omega
                            obtain ⟨q2, e2, f3, f4⟩ := K6.out q hql
                            subst e2
                            have hg2 : q2 < x2.heap.size := World.block_lt_of_cell? x2 _ f3
                            have g3 : ∀ t : Beh x3, t.wd.cell? ⟨q2, q * 2, none⟩ = some (.int .u32 (p : Int)) := fun t => ((HBX.out.trans (t.ok.mono HBX.out.size)).cell (p := ⟨q2, _, none⟩) hg2).trans f3
                            have g4 : ∀ t : Beh x3, t.wd.cell? ⟨q2, q * 2 + 1, none⟩ = some (.int .i64 77) := fun t => ((HBX.out.trans (t.ok.mono HBX.out.size)).cell (p := ⟨q2, _, none⟩) hg2).trans f4
                            go_upto_region 52 with fail
                            refine wp_region_beh (by kernel_rfl) (by kernel_rfl) ?_
                            repeat (go_big_quiet_step (fail))
                            refine wpQuiet_nil ?_
                            rintro _ ⟨t, rfl⟩
                            have HBT : Hid (Below x2.heap.size x2 t.wd) := HBX.out.trans (t.ok.mono HBX.out.size)
                            go_wp2_with fail
                            go_roundw
                            case rel => exact ⟨q + 1, _, rfl, by go_num, hqm, HBT⟩
                            case measure => simp [intOf]; omega
                          · have b8 : ¬ (q : Int) < (lp : Int) := by omega
                            go_upto_region 52 with fail
                            refine wp_region_beh (by kernel_rfl) (by kernel_rfl) ?_
                            repeat (go_big_quiet_step (fail))
                            refine wpQuiet_nil ?_
                            rintro _ ⟨t, rfl⟩
                            have HBT : Hid (Below x2.heap.size x2 t.wd) := HBX.out.trans (t.ok.mono HBX.out.size)
                            go_wp2_with fail
                            go_roundw
                            case rel => exact ⟨q + 1, _, rfl, by go_num, hqm, HBT⟩
                            case measure => simp [intOf]; omega
                        · have b7 : ¬ (q : Int) < (m : Int) := by omega
                          have HG2 := hid (HG.out.below HBX.out)
                          go_wp2_with fail
                          go_roundw
                          case rel => exact ⟨p + 1, _, rfl, by go_num, hpn, HG2⟩
                          case measure => simp [intOf]; omega
                    · have b6 : ¬ (p : Int) < (nm : Int) := by omega
                      have HB := hid (HBW.out _ HG.out.ls.be)
                      clear HG
                      go_wp2_with fail
                      go_ret
                      exact ⟨rfl, HB.out⟩
end Go.Proofs.Ytahoileampdnkaa

/-
  PoolMemory: views of lists, and a book of them.
-/
namespace Go.Proofs.Ytahoileampdnkaa
open Go.ChangeShapes Go.WideShapes Go.ChangeAt Go.RowKit Ru N Tri
set_option maxHeartbeats 1000000
set_option maxRecDepth 100000

theorem uHs : Try.prog.underlying 56 = some (.slice 83) := by kernel_rfl
theorem infoHs : (Try.prog.info? 83).map (fun i => (i.zero, i.size, i.bytes)) = some (some (.agg #[.slice none 0 0, .slice none 0 0]), 2, 48) := by kernel_rfl
def hs (Rs : List (Value × Value)) : List Value := Rs.flatMap fun r => [r.1, r.2]
theorem hs_at : ∀ (Rs : List (Value × Value)) (j : Nat) (r : Value × Value), Rs[j]? = some r → (hs Rs)[j * 2]? = some r.1 ∧ (hs Rs)[j * 2 + 1]? = some r.2
  | [], j, r, h => by simp at h
  | q :: Rs, 0, r, h => by simp at h; subst h; exact ⟨rfl, rfl⟩
  | q :: Rs, j + 1, r, h => by
    have h' := hs_at Rs j r (by simpa using h)
    have e : hs (q :: Rs) = q.1 :: q.2 :: hs Rs := rfl
    rw [e, show (j + 1) * 2 = j * 2 + 1 + 1 by omega]
    exact h'
def OwnH (w : World) (B : Nat) (v : Value) (Rs : List (Value × Value)) : Prop := w.ownsRow B 83 2 v Rs.length (hs Rs)
/-- A pair of slices. -/
structure Slp where
  a : Option Addr
  n : Nat
  c : Nat
def Slp.v (s : Slp) : Value := .slice s.a s.n s.c
theorem append_h (w : World) (B : Nat) (v : Value) (Rs : List (Value × Value)) (b c : Nat) (s1 s2 s3 s4 s5 s6 s7 s8 : Slp) (hv : OwnH w B v Rs) (hsrc : w.heap[b]? = some (.cells #[s1.v, s2.v, s3.v, s4.v, s5.v, s6.v, s7.v, s8.v] 83 (0, 0))) (hB : B ≤ w.heap.size) (hbig : Rs.length ≤ 4294967290) :
    ∃ v' w', (Builtin.append_ #[56, 56] 56 #[v, .slice (some ⟨b, 0, none⟩) 4 c]).run Try.prog w = .ok v' w' ∧ OwnH w' B v' (Rs ++ [(s1.v, s2.v), (s3.v, s4.v), (s5.v, s6.v), (s7.v, s8.v)]) ∧ w.grownBy w' v.ownBlock := by
  obtain ⟨i0, hi0, hz0, hz1, hz2⟩ := Me.info_at infoHs
  obtain ⟨v', w', h1, h2, h3, -, -, -⟩ := Me.append_gen (P := Try.prog) w B 56 56 83 i0 _ 2 48 uHs hi0 hz0 hz1 hz2 rfl (by decide) (by decide) v Rs.length (hs Rs) hv b 4 c [s1.v, s2.v, s3.v, s4.v, s5.v, s6.v, s7.v, s8.v] rfl (fun j u hj => by
    rw [cell_of_row _ _ _ _ _ _ hsrc, ← Array.getElem?_toList]; exact hj) (fun u hu => by
    simp only [List.mem_cons, List.not_mem_nil, or_false] at hu
    rcases hu with rfl | rfl | rfl | rfl | rfl | rfl | rfl | rfl <;> rfl) (by decide) (by omega) hB
  refine ⟨v', w', h1, ?_, h3⟩
  unfold OwnH hs
  rw [List.length_append, List.flatMap_append]
  exact h2

/-- A pool, a book, and all lists in view; a step in a block of its own. -/
structure Wk (w0 w : World) (pb sub lo hi : Nat) (ks ts : List R) (Z : Option (Nat × Array Value)) (vb : Value) (Rs : List (Value × Value)) (Xs : List (Value × List (Nat × Int))) : Prop where
  tb : PB w0 w pb sub lo hi ks ts
  op : ∀ k cs, Z = some (k, cs) → w.heap[k]? = some (.cells cs 46 (0, 0))
  ow : OwnH w w0.heap.size vb Rs
  vs : ∀ e ∈ Xs, Me.OwnQ w w0.heap.size e.1 e.2
  rs : ∀ r ∈ Rs, ∃ K, (r.1, K) ∈ Xs ∧ (r.2, K) ∈ Xs
/-- Nothing in its block is longer. -/
def Top (v : Value) (n : Nat) (Xs : List (Value × List (Nat × Int))) : Prop := ∀ e ∈ Xs, ∀ k, v.ownBlock = some k → e.1.ownBlock = some k → e.2.length ≤ n
def Dis (v u : Value) : Prop := ∀ k, v.ownBlock = some k → u.ownBlock ≠ some k
/-- Nothing is in its block. -/
def Aln (v : Value) (Xs : List (Value × List (Nat × Int))) : Prop := ∀ e ∈ Xs, Dis v e.1

section
variable {w0 w w' : World} {pb sub lo hi : Nat} {ks ts : List R} {Z : Option (Nat × Array Value)} {vb : Value} {Rs : List (Value × Value)} {Xs : List (Value × List (Nat × Int))}
theorem Dis.symm {v u : Value} (h : Dis v u) : Dis u v := fun k hk hk' => h k hk' hk
theorem Aln.top {v : Value} (h : Aln v Xs) (n : Nat) : Top v n Xs := fun e he k hk hk' => absurd hk' (h e he k hk)
theorem op_grown {B : Nat} {e : TypeId} {sz n : Nat} {v : Value} {xs : List Value} (hr : w.ownsRow B e sz v n xs) (he : e ≠ 46) (hg : w.grownBy w' v.ownBlock) {k : Nat} {cs : Array Value} (hk : w.heap[k]? = some (.cells cs 46 (0, 0))) : w'.heap[k]? = some (.cells cs 46 (0, 0)) := by
  refine (hg.block k (Array.getElem?_eq_some_iff.1 hk).1 fun e1 => ?_).trans hk
  obtain ⟨cs', hc⟩ := Me.row_kind hr e1.symm
  rw [hc] at hk
  simp only [Option.some.injEq, Obj.cells.injEq] at hk
  exact he hk.2.1
theorem Wk.fr {ts' : List R} (h : Wk w0 w pb sub lo hi ks ts Z vb Rs Xs) (hf : Kx w w') (ht : PB w0 w' pb sub lo hi ks ts') : Wk w0 w' pb sub lo hi ks ts' Z vb Rs Xs :=
  ⟨ht, fun k cs hz => (hf.block k cs _ (h.op k cs hz) (by decide) (by decide)).trans (h.op k cs hz), hf.row h.ow (by decide), fun e he => hf.row (h.vs e he) (by decide), h.rs⟩
theorem Wk.below (h : Wk w0 w pb sub lo hi ks ts Z vb Rs Xs) (hb : Below w.heap.size w w') : Wk w0 w' pb sub lo hi ks ts Z vb Rs Xs := h.fr (Kx.of hb) (h.tb.below hb)
theorem Wk.more (h : Wk w0 w pb sub lo hi ks ts Z vb Rs Xs) {v : Value} {A : List (Nat × Int)} (hv : Me.OwnQ w w0.heap.size v A) : Wk w0 w pb sub lo hi ks ts Z vb Rs ((v, A) :: Xs) :=
  ⟨h.tb, h.op, h.ow, fun e he => by
    rcases List.mem_cons.1 he with rfl | he
    · exact hv
    · exact h.vs e he, fun r hr => by
    obtain ⟨K, h1, h2⟩ := h.rs r hr
    exact ⟨K, List.mem_cons_of_mem _ h1, List.mem_cons_of_mem _ h2⟩⟩
theorem Wk.lt (h : Wk w0 w pb sub lo hi ks ts Z vb Rs Xs) {e : Value × List (Nat × Int)} (he : e ∈ Xs) {k : Nat} (hk : e.1.ownBlock = some k) : k < w.heap.size := (World.ownsRow.lt (h.vs e he) k hk).2
theorem kindH_ne {B B' : Nat} {v u : Value} {K : List (Nat × Int)} (h : OwnH w B v Rs) (h' : Me.OwnQ w B' u K) : ∀ k, u.ownBlock = some k → v.ownBlock ≠ some k := fun _ hk => Me.row_ne h' h (by decide) hk

/-- append to one that is in view. -/
theorem Wk.app (h : Wk w0 w pb sub lo hi ks ts Z vb Rs Xs) {v : Value} {A M : List (Nat × Int)} {m : Nat} (hv : (v, A) ∈ Xs) (ht : Top v A.length Xs) (hm : M.length = m) (hm0 : 0 < m) (hbig : A.length + m ≤ 8796093022208) (cs : Array Value) (hcs : cs = (Me.pp M).toArray) :
    ∃ a' c' w', (Builtin.append_ #[26, 26] 26 #[v, .slice (some ⟨w.heap.size, 0, none⟩) m m]).run Try.prog (w.alloc (.cells cs 25)) = .ok (.slice a' (A.length + m) c') w' ∧ Wk w0 w' pb sub lo hi ks ts Z vb Rs ((.slice a' (A.length + m) c', A ++ M) :: Xs) ∧ Top (.slice a' (A.length + m) c') (A.length + m) ((.slice a' (A.length + m) c', A ++ M) :: Xs) ∧
      (∀ u n, (∀ k, u.ownBlock = some k → k < w.heap.size) → Dis v u → Top u n Xs → Dis (.slice a' (A.length + m) c') u ∧ Top u n ((.slice a' (A.length + m) c', A ++ M) :: Xs)) := by
  have hB1 : Below w.heap.size w (w.alloc (.cells cs 25)) := (Below.refl _ _).alloc (Nat.le_refl _) _
  have hz1 := hB1.size
  have hB := h.tb.be.size
  have r1 := heap_alloc_new w (.cells cs 25 (0, 0))
  have hA := h.below hB1
  have hvo := hA.vs _ hv
  obtain ⟨v', w', hr, ho, hg, hn, hkp, -⟩ := Me.append_q _ w0.heap.size v A M w.heap.size m m hvo hm hm0 (fun j x hj => by
    rw [cell_of_row _ _ _ _ _ _ r1, hcs, ← Array.getElem?_toList, hj]) (by omega) hbig
  obtain ⟨a', c', e, -⟩ := Me.ownQ_len ho
  rw [List.length_append, hm] at e
  subst e
  refine ⟨a', c', w', hr, ⟨hA.tb.grownR hvo (Nat.le_refl _) hg (by decide), fun k cs hz => op_grown hvo (by decide) hg (hA.op k cs hz), Me.row_grown hA.ow hg (fun k hk e => kindH_ne hA.ow hvo k e hk), fun e he => ?_, fun r hr => ?_⟩, fun e he k hk hk' => ?_, fun u n hu hd ht' => ⟨fun k hk hk' => ?_, fun e he k hk hk' => ?_⟩⟩
  · rcases List.mem_cons.1 he with rfl | he
    · exact ho
    · exact hkp _ _ _ (hA.vs e he) fun k hk hk' => ht e he k hk hk'
  · obtain ⟨K, h1, h2⟩ := h.rs r hr
    exact ⟨K, List.mem_cons_of_mem _ h1, List.mem_cons_of_mem _ h2⟩
  · rcases List.mem_cons.1 he with rfl | he
    · show (A ++ M).length ≤ _
      rw [List.length_append, hm]
      exact Nat.le_refl _
    · rcases hn k hk with e1 | e1
      · have := ht e he k e1 hk'
        omega
      · have := h.lt he hk'
        omega
  · rcases hn k hk with e1 | e1
    · exact hd k e1 hk'
    · have := hu k hk'
      omega
  · rcases List.mem_cons.1 he with rfl | he
    · rcases hn k hk' with e1 | e1
      · exact absurd hk (hd k e1)
      · have := hu k hk
        omega
    · exact ht' e he k hk hk'

/-- A copy of one that is in view. -/
theorem Wk.copy (h : Wk w0 w pb sub lo hi ks ts Z vb Rs Xs) {v : Value} {A : List (Nat × Int)} (hv : (v, A) ∈ Xs) (hbig : A.length ≤ 8796093022208) :
    ∃ a' c' w', (Builtin.append_ #[26, 26] 26 #[.slice none 0 0, v]).run Try.prog w = .ok (.slice a' A.length c') w' ∧ Wk w0 w' pb sub lo hi ks ts Z vb Rs ((.slice a' A.length c', A) :: Xs) ∧ Top (.slice a' A.length c') A.length ((.slice a' A.length c', A) :: Xs) ∧ w.heap.size ≤ w'.heap.size ∧
      (∀ u n, (∀ k, u.ownBlock = some k → k < w.heap.size) → Dis u (.slice a' A.length c') ∧ (Top u n Xs → Top u n ((.slice a' A.length c', A) :: Xs))) := by
  have hB := h.tb.be.size
  obtain ⟨v', w', hr, ho, hg⟩ := Me.copy_q w w0.heap.size v A (h.vs _ hv) hbig
  obtain ⟨a', c', e, -⟩ := Me.ownQ_len ho
  subst e
  have hbw : Below w.heap.size w w' := ⟨hg.os, hg.tape, hg.output, hg.size, fun k hk => hg.block k hk (by simp)⟩
  have new : ∀ k, (Value.slice a' A.length c').ownBlock = some k → w.heap.size ≤ k := fun k hk => (World.ownsRow.lt ho k hk).1
  refine ⟨a', c', w', hr, Wk.more (h.below hbw) (Me.row_low ho hB), fun e he k hk hk' => ?_, hg.size, fun u n hu => ⟨fun k hk hk' => ?_, fun ht e he k hk hk' => ?_⟩⟩
  · rcases List.mem_cons.1 he with rfl | he
    · exact Nat.le_refl _
    · have := new k hk
      have := h.lt he hk'
      omega
  · have := new k hk'
    have := hu k hk
    omega
  · rcases List.mem_cons.1 he with rfl | he
    · have := new k hk'
      have := hu k hk
      omega
    · exact ht e he k hk hk'

/-- The marks of a list. -/
def mks (m : Int) (k : Nat) : List (Nat × Int) := (List.range k).map fun t => (t, m)
theorem mks_len (m : Int) (k : Nat) : (mks m k).length = k := by simp [mks]
theorem mks_succ (m : Int) (k : Nat) : mks m (k + 1) = mks m k ++ [(k, m)] := by simp [mks, List.range_succ]

/-- While a list is marked: those ahead of i hold their marks. -/
structure P4 (w0 w : World) (pb sub lo hi : Nat) (ks ts : List R) (Z : Option (Nat × Array Value)) (vb : Value) (Rs : List (Value × Value)) (v : Value) (D : List (Nat × Int)) (m : Int) (u : Value) (i : Nat) (Xs : List (Value × List (Nat × Int))) : Prop where
  wk : Wk w0 w pb sub lo hi ks ts Z vb Rs Xs
  ov : Me.OwnQ w w0.heap.size v (mks m i ++ D.drop i)
  al : Aln v Xs
  mu : (u, mks m i) ∈ Xs
  tu : Top u i Xs
  le : i ≤ D.length
theorem P4.start {v : Value} {D : List (Nat × Int)} {m : Int} (h : Wk w0 w pb sub lo hi ks ts Z vb Rs Xs) (ho : Me.OwnQ w w0.heap.size v D) (hal : Aln v Xs) : P4 w0 w pb sub lo hi ks ts Z vb Rs v D m (.slice none 0 0) 0 ((.slice none 0 0, []) :: Xs) :=
  ⟨h.more (Me.ownQ_nil _ _), ho, (fun e he k hk hk' => by
    rcases List.mem_cons.1 he with rfl | he
    · cases hk'
    · exact hal e he k hk hk'), List.mem_cons_self, (fun e _ k hk => by cases hk), Nat.zero_le _⟩
theorem P4.step {D : List (Nat × Int)} {m : Int} {u : Value} {i n c : Nat} {a : Option Addr} (h : P4 w0 w pb sub lo hi ks ts Z vb Rs (.slice a n c) D m u i Xs) (hi' : i < D.length) (hz : D.length ≤ 4294967296) :
    ∃ (q : Nat) (x : Nat × Int), a = some ⟨q, 0, none⟩ ∧ w.cell? ⟨q, i * 2, none⟩ = some (.int .u32 (x.1 : Int)) ∧ w.frozen? ⟨q, i * 2, none⟩ = false ∧ (w.setCell ⟨q, i * 2, none⟩ (.int .u32 (i : Int))).cell? ⟨q, i * 2 + 1, none⟩ = some (.int .i64 x.2) ∧ (w.setCell ⟨q, i * 2, none⟩ (.int .u32 (i : Int))).frozen? ⟨q, i * 2 + 1, none⟩ = false ∧
      ((w.setCell ⟨q, i * 2, none⟩ (.int .u32 (i : Int))).setCell ⟨q, i * 2 + 1, none⟩ (.int .i64 m)).cell? ⟨q, i * 2, none⟩ = some (.int .u32 (i : Int)) ∧ ((w.setCell ⟨q, i * 2, none⟩ (.int .u32 (i : Int))).setCell ⟨q, i * 2 + 1, none⟩ (.int .i64 m)).cell? ⟨q, i * 2 + 1, none⟩ = some (.int .i64 m) ∧
      Hid (∃ a' n' c' w', Hid ((Builtin.append_ #[26, 26] 26 #[u, .slice (some ⟨w.heap.size, 0, none⟩) 1 1]).run Try.prog (((w.setCell ⟨q, i * 2, none⟩ (.int .u32 (i : Int))).setCell ⟨q, i * 2 + 1, none⟩ (.int .i64 m)).alloc (.cells #[.int .u32 (i : Int), .int .i64 m] 25)) = .ok (.slice a' n' c') w') ∧ Hid (∃ Xs', P4 w0 w' pb sub lo hi ks ts Z vb Rs (.slice (some ⟨q, 0, none⟩) n c) D m (.slice a' n' c') (i + 1) Xs')) := by
  have hlen : (mks m i ++ D.drop i).length = D.length := by
    have := h.le
    rw [List.length_append, mks_len, List.length_drop]
    omega
  obtain ⟨a1, c1, e1, -, -, k0, k1⟩ := Me.ownQ_len h.ov
  rw [hlen] at e1 k0
  simp only [Value.slice.injEq] at e1
  obtain ⟨rfl, rfl, rfl⟩ := e1
  cases a with
  | none => have := (k0 rfl).1; omega
  | some p =>
    obtain ⟨q, rfl, hqB, hqz⟩ := k1 p rfl
    have hx : (mks m i ++ D.drop i)[i]? = some D[i] := by
      rw [List.getElem?_append_right (by rw [mks_len]; exact Nat.le_refl _), mks_len, Nat.sub_self, List.getElem?_drop, Nat.add_zero, List.getElem?_eq_getElem hi']
    obtain ⟨hc, -, hf, -⟩ := Me.own_cell h.ov hx
    obtain ⟨hc2, hf2⟩ := Me.own_next h.ov hx (.int .u32 (i : Int))
    obtain ⟨wx, hwx⟩ : ∃ wx, wx = (w.setCell ⟨q, i * 2, none⟩ (.int .u32 (i : Int))).setCell ⟨q, i * 2 + 1, none⟩ (.int .i64 m) := ⟨_, rfl⟩
    have hg : w.grownBy wx (some q) := by rw [hwx]; exact Me.grown_two w q _ _ _ _
    have hov := h.ov
    rw [← hlen] at hov
    have ho2 := Me.own_set hov (k := i) (by rw [hlen]; exact hi') (i, m)
    rw [hlen] at ho2
    have hset : (mks m i ++ D.drop i).set i (i, m) = mks m (i + 1) ++ D.drop (i + 1) := by
      rw [List.set_append_right _ _ (by rw [mks_len]; exact Nat.le_refl _), mks_len, Nat.sub_self, List.drop_eq_getElem_cons hi', List.set_cons_zero, mks_succ]
      simp
    rw [hset] at ho2
    simp only at ho2
    rw [← hwx] at ho2
    obtain ⟨hc3, hc4, -⟩ := Me.own_cell ho2 (k := i) (x := (i, m)) (by rw [mks_succ, List.append_assoc, List.getElem?_append_right (by rw [mks_len]; exact Nat.le_refl _), mks_len, Nat.sub_self]; rfl)
    have hwk : Wk w0 wx pb sub lo hi ks ts Z vb Rs Xs :=
      ⟨h.wk.tb.grownR (v := .slice (some ⟨q, 0, none⟩) D.length c) h.ov (Nat.le_refl _) hg (by decide), fun k cs hz' => op_grown (v := .slice (some ⟨q, 0, none⟩) D.length c) h.ov (by decide) hg (h.wk.op k cs hz'), Me.row_grown h.wk.ow hg (fun k hk e => by cases e; exact kindH_ne h.wk.ow h.ov q rfl hk), fun e he => Me.row_grown (h.wk.vs e he) hg (fun k hk e' => by cases e'; exact h.al e he q rfl hk), h.wk.rs⟩
    have hsz : wx.heap.size = w.heap.size := by rw [hwx]; simp [World.setCell]
    have hB1 : Below wx.heap.size wx (wx.alloc (.cells #[.int .u32 (i : Int), .int .i64 m] 25)) := (Below.refl _ _).alloc (Nat.le_refl _) _
    have hqz2 : q < wx.heap.size := by rw [hsz]; exact hqz
    obtain ⟨a', c', w', hr, hw, ht, hoth⟩ := hwk.app (M := [(i, m)]) (m := 1) h.mu (by rw [mks_len]; exact h.tu) rfl (by decide) (by rw [mks_len]; omega) #[.int .u32 (i : Int), .int .i64 m] rfl
    rw [mks_len] at hr hw ht hoth
    rw [← mks_succ] at hw ht hoth
    have hdis : Dis u (.slice (some ⟨q, 0, none⟩) D.length c) := (h.al _ h.mu).symm
    have hn := (hoth (.slice (some ⟨q, 0, none⟩) D.length c) 0 (fun k hk => by cases hk; exact hqz2) hdis (fun e he k hk hk' => absurd hk' (h.al e he k hk)))
    obtain ⟨v2, w2, hr2, -, -, -, hkp, -⟩ := Me.append_q (wx.alloc (.cells #[.int .u32 (i : Int), .int .i64 m] 25)) w0.heap.size u (mks m i) [(i, m)] wx.heap.size 1 1 ((hwk.below hB1).vs _ h.mu) rfl (by decide) (fun j x hj => by
      rw [cell_of_row _ _ _ _ _ _ (heap_alloc_new _ _), ← Array.getElem?_toList]; exact hj) (Nat.le_trans hwk.tb.be.size hB1.size) (by rw [mks_len]; omega)
    rw [hr] at hr2
    simp only [Result.ok.injEq] at hr2
    obtain ⟨-, rfl⟩ := hr2
    rw [hsz] at hr
    subst hwx
    refine ⟨q, D[i], rfl, hc, hf, hc2, hf2, hc3, hc4, a', i + 1, c', w', hr, _, hw, ?_, fun e he k hk hk' => ?_, List.mem_cons_self, ht, hi'⟩
    · exact hkp _ _ _ (Me.row_below ho2 hB1) fun k hk hk' => absurd hk' (hdis k hk)
    · rcases List.mem_cons.1 he with rfl | he
      · exact hn.1 k hk' hk
      · exact h.al e he k hk hk'

/-- Two lists that are the same and grow, beside three pairs. -/
def P7 (w0 w : World) (pb sub lo hi : Nat) (ks ts : List R) (Z : Option (Nat × Array Value)) (vb : Value) (Rs : List (Value × Value)) (v1 u1 v2 u2 v3 u3 g u : Value) (N : Nat) : Prop :=
  ∃ Xs A, Wk w0 w pb sub lo hi ks ts Z vb Rs Xs ∧ (g, A) ∈ Xs ∧ (u, A) ∈ Xs ∧ Top g A.length Xs ∧ Top u A.length Xs ∧ Dis g u ∧ A.length ≤ N ∧ (∃ a c, g = .slice a A.length c) ∧ (∃ K, (v1, K) ∈ Xs ∧ (u1, K) ∈ Xs) ∧ (∃ K, (v2, K) ∈ Xs ∧ (u2, K) ∈ Xs) ∧ ∃ K, (v3, K) ∈ Xs ∧ (u3, K) ∈ Xs

theorem P4.chain {D : List (Nat × Int)} {m m1 m2 m3 : Int} {n c nu cu p : Nat} {a au : Option Addr} (h : P4 w0 w pb sub lo hi ks ts Z vb Rs (.slice a n c) D m (.slice au nu cu) p Xs) (hp : p = D.length) (hz : p ≤ 4294967296) :
    ∃ a1 n1 c1 wA a2 n2 c2 wB a3 n3 c3 wC a4 n4 c4 wD a5 n5 c5 wE a6 n6 c6 wF a7 n7 c7 wG,
      Hid ((Builtin.append_ #[26, 26] 26 #[.slice a n c, .slice (some ⟨w.heap.size, 0, none⟩) 1 1]).run Try.prog (w.alloc (.cells #[.int .u32 1, .int .i64 m1] 25)) = .ok (.slice a1 n1 c1) wA) ∧
      Hid ((Builtin.append_ #[26, 26] 26 #[.slice none 0 0, .slice au nu cu]).run Try.prog wA = .ok (.slice a2 n2 c2) wB) ∧
      Hid ((Builtin.append_ #[26, 26] 26 #[.slice a2 n2 c2, .slice (some ⟨wB.heap.size, 0, none⟩) 1 1]).run Try.prog (wB.alloc (.cells #[.int .u32 1, .int .i64 m1] 25)) = .ok (.slice a3 n3 c3) wC) ∧
      Hid ((Builtin.append_ #[26, 26] 26 #[.slice a1 n1 c1, .slice (some ⟨wC.heap.size, 0, none⟩) 2 2]).run Try.prog (wC.alloc (.cells #[.int .u32 2, .int .i64 m2, .int .u32 3, .int .i64 m3] 25)) = .ok (.slice a4 n4 c4) wD) ∧
      Hid ((Builtin.append_ #[26, 26] 26 #[.slice none 0 0, .slice a3 n3 c3]).run Try.prog wD = .ok (.slice a5 n5 c5) wE) ∧
      Hid ((Builtin.append_ #[26, 26] 26 #[.slice a5 n5 c5, .slice (some ⟨wE.heap.size, 0, none⟩) 2 2]).run Try.prog (wE.alloc (.cells #[.int .u32 2, .int .i64 m2, .int .u32 3, .int .i64 m3] 25)) = .ok (.slice a6 n6 c6) wF) ∧
      Hid ((Builtin.append_ #[26, 26] 26 #[.slice none 0 0, .slice a6 n6 c6]).run Try.prog wF = .ok (.slice a7 n7 c7) wG) ∧
      Hid (P7 w0 wG pb sub lo hi ks ts Z vb Rs (.slice a n c) (.slice au nu cu) (.slice a1 n1 c1) (.slice a3 n3 c3) (.slice a4 n4 c4) (.slice a6 n6 c6) (.slice a4 n4 c4) (.slice a7 n7 c7) 4294967299) := by
  subst hp
  have hov := h.ov
  rw [List.drop_length, List.append_nil] at hov
  obtain ⟨A, hA⟩ : ∃ A, A = mks m D.length := ⟨_, rfl⟩
  have hmu := h.mu
  rw [← hA] at hov hmu
  have hlA : A.length = D.length := by rw [hA, mks_len]
  have W1 := h.wk.more hov
  have t1 : Top (.slice a n c) A.length ((.slice a n c, A) :: Xs) := fun e he k hk hk' => by
    rcases List.mem_cons.1 he with rfl | he
    · exact Nat.le_refl _
    · exact absurd hk' (h.al e he k hk)
  obtain ⟨a1, c1, wA, rA, WA, tA, -⟩ := W1.app (M := [(1, m1)]) (m := 1) List.mem_cons_self t1 rfl (by decide) (by omega) _ rfl
  have lA : (A ++ [(1, m1)]).length = A.length + 1 := by simp
  rw [← lA] at rA WA tA
  obtain ⟨X2, hX2⟩ : ∃ X2, X2 = ((Value.slice a1 (A ++ [(1, m1)]).length c1, A ++ [(1, m1)]) :: (.slice a n c, A) :: Xs) := ⟨_, rfl⟩
  have mv : (Value.slice a n c, A) ∈ X2 := by rw [hX2]; exact List.mem_cons_of_mem _ List.mem_cons_self
  have mu : (Value.slice au nu cu, A) ∈ X2 := by rw [hX2]; exact List.mem_cons_of_mem _ (List.mem_cons_of_mem _ hmu)
  have m1' : (Value.slice a1 (A ++ [(1, m1)]).length c1, A ++ [(1, m1)]) ∈ X2 := by rw [hX2]; exact List.mem_cons_self
  rw [← hX2] at WA tA
  clear hX2
  obtain ⟨a2, c2, wB, rB, WB, tB, zB, oB⟩ := WA.copy mu (by omega)
  obtain ⟨dB, uB⟩ := oB (.slice a1 (A ++ [(1, m1)]).length c1) (A ++ [(1, m1)]).length fun k hk => WA.lt m1' hk
  obtain ⟨a3, c3, wC, rC, WC, tC, oC⟩ := WB.app (M := [(1, m1)]) (m := 1) List.mem_cons_self tB rfl (by decide) (by omega) _ rfl
  obtain ⟨dC, uC⟩ := oC (.slice a1 (A ++ [(1, m1)]).length c1) (A ++ [(1, m1)]).length (fun k hk => WB.lt (List.mem_cons_of_mem _ m1') hk) dB.symm (uB tA)
  rw [← lA] at rC WC tC dC uC
  obtain ⟨X4, hX4⟩ : ∃ X4, X4 = ((Value.slice a3 (A ++ [(1, m1)]).length c3, A ++ [(1, m1)]) :: (.slice a2 A.length c2, A) :: X2) := ⟨_, rfl⟩
  have mv4 : (Value.slice a n c, A) ∈ X4 := by rw [hX4]; exact List.mem_cons_of_mem _ (List.mem_cons_of_mem _ mv)
  have mu4 : (Value.slice au nu cu, A) ∈ X4 := by rw [hX4]; exact List.mem_cons_of_mem _ (List.mem_cons_of_mem _ mu)
  have m14 : (Value.slice a1 (A ++ [(1, m1)]).length c1, A ++ [(1, m1)]) ∈ X4 := by rw [hX4]; exact List.mem_cons_of_mem _ (List.mem_cons_of_mem _ m1')
  have m34 : (Value.slice a3 (A ++ [(1, m1)]).length c3, A ++ [(1, m1)]) ∈ X4 := by rw [hX4]; exact List.mem_cons_self
  rw [← hX4] at WC uC
  clear hX4
  obtain ⟨a4, c4, wD, rD, WD, tD, -⟩ := WC.app (M := [(2, m2), (3, m3)]) (m := 2) m14 uC rfl (by decide) (by rw [lA]; omega) _ rfl
  have lD : (A ++ [(1, m1)] ++ [(2, m2), (3, m3)]).length = (A ++ [(1, m1)]).length + 2 := by simp
  rw [← lD] at rD WD tD
  obtain ⟨a5, c5, wE, rE, WE, tE, zE, oE⟩ := WD.copy (List.mem_cons_of_mem _ m34) (by rw [lA]; omega)
  obtain ⟨dE, uE⟩ := oE (.slice a4 (A ++ [(1, m1)] ++ [(2, m2), (3, m3)]).length c4) (A ++ [(1, m1)] ++ [(2, m2), (3, m3)]).length fun k hk => WD.lt List.mem_cons_self hk
  obtain ⟨a6, c6, wF, rF, WF, tF, oF⟩ := WE.app (M := [(2, m2), (3, m3)]) (m := 2) List.mem_cons_self tE rfl (by decide) (by rw [lA]; omega) _ rfl
  obtain ⟨dF, uF⟩ := oF (.slice a4 (A ++ [(1, m1)] ++ [(2, m2), (3, m3)]).length c4) (A ++ [(1, m1)] ++ [(2, m2), (3, m3)]).length (fun k hk => WE.lt (List.mem_cons_of_mem _ List.mem_cons_self) hk) dE.symm (uE tD)
  rw [← lD] at rF WF tF dF uF
  obtain ⟨a7, c7, wG, rG, WG, tG, zG, oG⟩ := WF.copy List.mem_cons_self (by rw [lD, lA]; omega)
  obtain ⟨dG, uG⟩ := oG (.slice a4 (A ++ [(1, m1)] ++ [(2, m2), (3, m3)]).length c4) (A ++ [(1, m1)] ++ [(2, m2), (3, m3)]).length fun k hk => WF.lt (List.mem_cons_of_mem _ (List.mem_cons_of_mem _ List.mem_cons_self)) hk
  exact ⟨a1, _, c1, wA, a2, _, c2, wB, a3, _, c3, wC, a4, _, c4, wD, a5, _, c5, wE, a6, _, c6, wF, a7, _, c7, wG, rA, rB, rC, rD, rE, rF, rG,
    _, _, WG, List.mem_cons_of_mem _ (List.mem_cons_of_mem _ (List.mem_cons_of_mem _ (List.mem_cons_self))), List.mem_cons_self, uG uF, tG, dG, by rw [lD, lA]; omega, ⟨_, _, rfl⟩, ⟨A, List.mem_cons_of_mem _ (List.mem_cons_of_mem _ (List.mem_cons_of_mem _ (List.mem_cons_of_mem _ (mv4)))), List.mem_cons_of_mem _ (List.mem_cons_of_mem _ (List.mem_cons_of_mem _ (List.mem_cons_of_mem _ (mu4))))⟩, ⟨_, List.mem_cons_of_mem _ (List.mem_cons_of_mem _ (List.mem_cons_of_mem _ (List.mem_cons_of_mem _ (m14)))), List.mem_cons_of_mem _ (List.mem_cons_of_mem _ (List.mem_cons_of_mem _ (List.mem_cons_of_mem _ (m34))))⟩, ⟨A ++ [(1, m1)] ++ [(2, m2), (3, m3)], List.mem_cons_of_mem _ (List.mem_cons_of_mem _ (List.mem_cons_of_mem _ (List.mem_cons_self))), List.mem_cons_of_mem _ (List.mem_cons_self)⟩⟩

theorem P7.step {v1 u1 v2 u2 v3 u3 : Value} {N ng cg nu cu x : Nat} {ag au : Option Addr} {m : Int} (h : P7 w0 w pb sub lo hi ks ts Z vb Rs v1 u1 v2 u2 v3 u3 (.slice ag ng cg) (.slice au nu cu) N) (hN : N ≤ 8796093022000) :
    ∃ a1 n1 c1 wA a2 n2 c2 wB,
      Hid ((Builtin.append_ #[26, 26] 26 #[.slice ag ng cg, .slice (some ⟨w.heap.size, 0, none⟩) 1 1]).run Try.prog (w.alloc (.cells #[.int .u32 (x : Int), .int .i64 m] 25)) = .ok (.slice a1 n1 c1) wA) ∧
      Hid ((Builtin.append_ #[26, 26] 26 #[.slice au nu cu, .slice (some ⟨wA.heap.size, 0, none⟩) 1 1]).run Try.prog (wA.alloc (.cells #[.int .u32 (x : Int), .int .i64 m] 25)) = .ok (.slice a2 n2 c2) wB) ∧
      Hid (P7 w0 wB pb sub lo hi ks ts Z vb Rs v1 u1 v2 u2 v3 u3 (.slice a1 n1 c1) (.slice a2 n2 c2) (N + 1)) := by
  obtain ⟨Xs, A, W, mg, mu, tg, tu, hd, hA, -, ⟨K1, p1, p2⟩, ⟨K2, p3, p4⟩, ⟨K3, p5, p6⟩⟩ := h
  obtain ⟨a1, c1, wA, rA, WA, tA, oA⟩ := W.app (M := [(x, m)]) (m := 1) mg tg rfl (by decide) (by omega) _ rfl
  obtain ⟨dA, uA⟩ := oA (.slice au nu cu) A.length (fun k hk => W.lt mu hk) hd tu
  obtain ⟨a2, c2, wB, rB, WB, tB, oB⟩ := WA.app (M := [(x, m)]) (m := 1) (List.mem_cons_of_mem _ mu) uA rfl (by decide) (by omega) _ rfl
  obtain ⟨dB, uB⟩ := oB (.slice a1 (A.length + 1) c1) (A.length + 1) (fun k hk => WA.lt List.mem_cons_self hk) dA.symm tA
  exact ⟨a1, _, c1, wA, a2, _, c2, wB, rA, rB, _, A ++ [(x, m)], WB, List.mem_cons_of_mem _ List.mem_cons_self, List.mem_cons_self, by simpa using uB, by simpa using tB, dB.symm, by simp; omega, ⟨a1, c1, by simp⟩, ⟨K1, List.mem_cons_of_mem _ (List.mem_cons_of_mem _ (p1)), List.mem_cons_of_mem _ (List.mem_cons_of_mem _ (p2))⟩, ⟨K2, List.mem_cons_of_mem _ (List.mem_cons_of_mem _ (p3)), List.mem_cons_of_mem _ (List.mem_cons_of_mem _ (p4))⟩, ⟨K3, List.mem_cons_of_mem _ (List.mem_cons_of_mem _ (p5)), List.mem_cons_of_mem _ (List.mem_cons_of_mem _ (p6))⟩⟩
theorem P7.len {v1 u1 v2 u2 v3 u3 u : Value} {N ng cg : Nat} {ag : Option Addr} (h : P7 w0 w pb sub lo hi ks ts Z vb Rs v1 u1 v2 u2 v3 u3 (.slice ag ng cg) u N) : ng ≤ N := by
  obtain ⟨Xs, A, W, mg, mu, tg, tu, hd, hA, ⟨a, c, e⟩, -⟩ := h
  simp only [Value.slice.injEq] at e
  omega
end
end Go.Proofs.Ytahoileampdnkaa

/-
  PoolMemory: the law's marked.
-/
namespace Go.Proofs.Ytahoileampdnkaa
open Go.ChangeShapes Go.WideShapes Go.ChangeAt Go.RowKit Ru N Tri
set_option maxHeartbeats 20000000
set_option maxRecDepth 100000

/-- Four pairs, laid in a new block. -/
def Mkd (w0 w' : World) (pb sub lo hi : Nat) (ks ts : List R) (Z : Option (Nat × Array Value)) (vb : Value) (Rs : List (Value × Value)) (rb : Nat) : Prop :=
  ∃ (s1 s2 s3 s4 s5 s6 s7 s8 : Slp) (Xs : List (Value × List (Nat × Int))), w'.heap[rb]? = some (.cells #[s1.v, s2.v, s3.v, s4.v, s5.v, s6.v, s7.v, s8.v] 83 (0, 0)) ∧ Wk w0 w' pb sub lo hi ks ts Z vb Rs Xs ∧ (∃ K, (s1.v, K) ∈ Xs ∧ (s2.v, K) ∈ Xs) ∧ (∃ K, (s3.v, K) ∈ Xs ∧ (s4.v, K) ∈ Xs) ∧ (∃ K, (s5.v, K) ∈ Xs ∧ (s6.v, K) ∈ Xs) ∧ ∃ K, (s7.v, K) ∈ Xs ∧ (s8.v, K) ∈ Xs

theorem P7.done {w0 w : World} {pb sub lo hi : Nat} {ks ts : List R} {Z : Option (Nat × Array Value)} {vb : Value} {Rs : List (Value × Value)} {a1 a2 a3 a4 a5 a6 ag au : Option Addr} {n1 c1 n2 c2 n3 c3 n4 c4 n5 c5 n6 c6 N ng cg nu cu : Nat}
    (h : P7 w0 w pb sub lo hi ks ts Z vb Rs (.slice a1 n1 c1) (.slice a2 n2 c2) (.slice a3 n3 c3) (.slice a4 n4 c4) (.slice a5 n5 c5) (.slice a6 n6 c6) (.slice ag ng cg) (.slice au nu cu) N) :
    Mkd w0 (w.alloc (.cells #[.slice a1 n1 c1, .slice a2 n2 c2, .slice a3 n3 c3, .slice a4 n4 c4, .slice a5 n5 c5, .slice a6 n6 c6, .slice ag ng cg, .slice au nu cu] 83)) pb sub lo hi ks ts Z vb Rs w.heap.size := by
  obtain ⟨Xs, A, W, mg, mu, -, -, -, -, -, p1, p2, p3⟩ := h
  exact ⟨⟨a1, n1, c1⟩, ⟨a2, n2, c2⟩, ⟨a3, n3, c3⟩, ⟨a4, n4, c4⟩, ⟨a5, n5, c5⟩, ⟨a6, n6, c6⟩, ⟨ag, ng, cg⟩, ⟨au, nu, cu⟩, Xs, heap_alloc_new w _, W.below ((Below.refl _ _).alloc (Nat.le_refl _) _), p1, p2, p3, A, mg, mu⟩

theorem marked_any {w0 : World} {pb sub lo hi : Nat} {ks ts : List R} {Z : Option (Nat × Array Value)} {vb : Value} {Rs : List (Value × Value)} {Xs : List (Value × List (Nat × Int))} (v : Value) (D : List (Nat × Int)) (i : Nat) (w : World) (h : Wk w0 w pb sub lo hi ks ts Z vb Rs Xs) (ho : Me.OwnQ w w0.heap.size v D) (hal : Aln v Xs) (hD : D.length ≤ 4294967296) (hi' : i ≤ 4611686018427387904) :
    Calls Try.prog 24 #[v, .int .i64 (i : Int)] w fun e w' => ∃ rb, e = .returned (.slice (some ⟨rb, 0, none⟩) 4 4) ∧ Mkd w0 w' pb sub lo hi ks ts Z vb Rs rb := by
  obtain ⟨a, c, rfl, hc1, hc2, -, -⟩ := Me.ownQ_len ho
  obtain ⟨nl, HD⟩ : ∃ nl, Hid (nl = D.length) := ⟨_, rfl⟩
  rw [← HD.out] at hc1 hD ho hal ⊢
  unfold maxLen at hc2
  have HP4 : Hid (∃ Xs, P4 w0 w pb sub lo hi ks ts Z vb Rs (.slice a nl c) D (100 + (i : Int)) (.slice none 0 0) 0 Xs) := ⟨_, P4.start h ho hal⟩
  have hz1 : (-9223372036854775808 : Int) ≤ 100 + (i : Int) := by omega
  have hz2 : 100 + (i : Int) ≤ (9223372036854775807 : Int) := by omega
  have hz3 : (-9223372036854775808 : Int) ≤ 1000 + (i : Int) := by omega
  have hz4 : 1000 + (i : Int) ≤ (9223372036854775807 : Int) := by omega
  have hz5 : (-9223372036854775808 : Int) ≤ 2000 + (i : Int) := by omega
  have hz6 : 2000 + (i : Int) ≤ (9223372036854775807 : Int) := by omega
  have hz7 : (-9223372036854775808 : Int) ≤ 3000 + (i : Int) := by omega
  have hz8 : 3000 + (i : Int) ≤ (9223372036854775807 : Int) := by omega
  have hz9 : (-9223372036854775808 : Int) ≤ 4000 + (i : Int) := by omega
  have hz0 : 4000 + (i : Int) ≤ (9223372036854775807 : Int) := by omega
  clear h ho hal hi'
  go_enter Try.func24, Try.ntmps24
  go_upto_region 3 with fail
  go_loopw [5, 6] (fun vw k wv => ∃ (p nu cu : Nat) (au : Option Addr) (wr : World), wr = wv ∧ vw = .slice au nu cu ∧ k = .int .i64 (p : Int) ∧ p ≤ nl ∧ Hid (∃ Xs, P4 w0 wr pb sub lo hi ks ts Z vb Rs (.slice a nl c) D (100 + (i : Int)) (.slice au nu cu) p Xs)) (fun _ k _ => nl - (intOf k).toNat)
  case atStart => exact ⟨0, 0, 0, none, _, rfl, rfl, rfl, Nat.zero_le _, HP4⟩
  case round =>
    clear HP4
    obtain ⟨p, nu, cu, au, y, rfl, rfl, rfl, hp, HP⟩ := hrel
    by_cases hpn : p < nl
    · have b4 : (p : Int) < (nl : Int) := int_lt hpn
      have hw32 : IntKind.u32.wrap (p : Int) = (p : Int) := by rw [IntKind.wrap_u32]; omega
      obtain ⟨Xs', hP⟩ := HP.out
      obtain ⟨q1, x1, rfl, d0, d1, d2, d3, d4, d5, HAP⟩ := hP.step (by rw [← HD.out]; exact hpn) (by rw [← HD.out]; exact hD)
      obtain ⟨a', n', c', w', HR, HP2⟩ := HAP.out
      clear HAP HP hP
      go_wp2_with (first | (at_builtin; refine Go.Lib.wpList_append_run _ rfl (.tmp 28) (.tmp 33) 26 26 rfl _ _ rfl rfl _ _ HR.out ?_) | fail)
      go_roundw
      case rel => exact ⟨p + 1, n', c', a', _, rfl, rfl, by go_num, hpn, HP2⟩
      case measure => simp [intOf]; omega
    · have b4 : ¬ (p : Int) < (nl : Int) := int_nlt hpn
      obtain rfl : p = nl := by omega
      obtain ⟨Xs', hP⟩ := HP.out
      obtain ⟨a1, n1, c1, wA, a2, n2, c2, wB, a3, n3, c3, wC, a4, n4, c4, wD, a5, n5, c5, wE, a6, n6, c6, wF, a7, n7, c7, wG, HA, HB, HC, HDD, HE, HF, HG, HP7⟩ := hP.chain (m1 := 1000 + (i : Int)) (m2 := 2000 + (i : Int)) (m3 := 3000 + (i : Int)) HD.out hD
      clear HP hP
      go_upto_region 14 with (first | (at_builtin; refine Go.Lib.wpList_append_run _ rfl (.tmp 35) (.tmp 39) 26 26 rfl _ _ rfl rfl _ _ HA.out ?_) | (at_builtin; refine Go.Lib.wpList_append_run _ rfl (.const (.slice none 0 0)) (.tmp 41) 26 26 rfl _ _ rfl rfl _ _ HB.out ?_) | (at_builtin; refine Go.Lib.wpList_append_run _ rfl (.tmp 42) (.tmp 46) 26 26 rfl _ _ rfl rfl _ _ HC.out ?_) | (at_builtin; refine Go.Lib.wpList_append_run _ rfl (.tmp 48) (.tmp 55) 26 26 rfl _ _ rfl rfl _ _ HDD.out ?_) | (at_builtin; refine Go.Lib.wpList_append_run _ rfl (.const (.slice none 0 0)) (.tmp 57) 26 26 rfl _ _ rfl rfl _ _ HE.out ?_) | (at_builtin; refine Go.Lib.wpList_append_run _ rfl (.tmp 58) (.tmp 65) 26 26 rfl _ _ rfl rfl _ _ HF.out ?_) | (at_builtin; refine Go.Lib.wpList_append_run _ rfl (.const (.slice none 0 0)) (.tmp 68) 26 26 rfl _ _ rfl rfl _ _ HG.out ?_) | fail)
      clear HA HB HC HDD HE HF HG
      go_loopw [11, 12, 13] (fun vg vw k wv => ∃ (q2 nu' cu' ng cg : Nat) (au' ag : Option Addr) (wr : World), wr = wv ∧ vg = .slice ag ng cg ∧ vw = .slice au' nu' cu' ∧ k = .int .i64 (q2 : Int) ∧ q2 ≤ 70000 ∧ Hid (P7 w0 wr pb sub lo hi ks ts Z vb Rs (.slice a p c) (.slice au nu cu) (.slice a1 n1 c1) (.slice a3 n3 c3) (.slice a4 n4 c4) (.slice a6 n6 c6) (.slice ag ng cg) (.slice au' nu' cu') (4294967299 + q2))) (fun _ _ k _ => 70000 - (intOf k).toNat)
      case atStart => exact ⟨0, n7, c7, n4, c4, a7, a4, _, rfl, rfl, rfl, rfl, Nat.zero_le _, HP7⟩
      case round =>
        clear HP7
        obtain ⟨q2, nu', cu', ng, cg, au', ag, z, rfl, rfl, rfl, rfl, hq2, HP7⟩ := hrel
        have hng := HP7.out.len
        by_cases hcc : ng < c ∧ q2 < 70000
        · obtain ⟨hc3, hc4⟩ := hcc
          have b5 : (ng : Int) < (c : Int) := int_lt hc3
          have b6 : (q2 : Int) < 70000 := by omega
          obtain ⟨x4, HX4⟩ : ∃ x4 : Nat, Hid (x4 = 4 + q2) := ⟨_, rfl⟩
          have hw4 : IntKind.u32.wrap (4 + (q2 : Int)) = (x4 : Int) := by have := HX4.out; rw [IntKind.wrap_u32]; omega
          obtain ⟨a11, n11, c11, wK, a12, n12, c12, wL, HK, HL, HP8⟩ := HP7.out.step (x := x4) (m := 4000 + (i : Int)) (by omega)
          clear HP7
          go_wp2_with (first | (at_builtin; refine Go.Lib.wpList_append_run _ rfl (.tmp 81) (.tmp 88) 26 26 rfl _ _ rfl rfl _ _ HK.out ?_) | (at_builtin; refine Go.Lib.wpList_append_run _ rfl (.tmp 90) (.tmp 97) 26 26 rfl _ _ rfl rfl _ _ HL.out ?_) | fail)
          go_roundw
          case rel => exact ⟨q2 + 1, n12, c12, n11, c11, a12, a11, _, rfl, rfl, rfl, by go_num, hc4, HP8⟩
          case measure => simp [intOf]; omega
        · have HDN := hid HP7.out.done
          clear HP7
          rcases Nat.lt_or_ge ng c with hqn | hqn
          · have b5 : ¬ (q2 : Int) < 70000 := by omega
            have b6 : (ng : Int) < (c : Int) := by omega
            clear hcc hng
            go_wp2_with fail
            go_ret
            exact ⟨_, rfl, HDN.out⟩
          · have b5 : ¬ (ng : Int) < (c : Int) := by omega
            clear hcc hng
            go_wp2_with fail
            go_ret
            exact ⟨_, rfl, HDN.out⟩
end Go.Proofs.Ytahoileampdnkaa

/-
  PoolMemory: the walk.
-/
namespace Go.Proofs.Ytahoileampdnkaa
open Go.ChangeShapes Go.WideShapes Go.ChangeAt Go.RowKit Ru N Tri
set_option maxHeartbeats 20000000
set_option maxRecDepth 100000

theorem SeesO.below {w w' : World} {v : Value} {S : List Stp} (h : SeesO w v S) (hb : Below w.heap.size w w') : SeesO w' v S := by
  obtain ⟨ao, cap, hv, h1, h2, h3⟩ := h
  refine ⟨ao, cap, hv, h1, h2, fun j hj => ?_⟩
  obtain ⟨g, off, e, hg, c0, c1, c2, c3⟩ := h3 j hj
  exact ⟨g, off, e, Nat.lt_of_lt_of_le hg hb.size, (hb.cell (p := ⟨g, _, none⟩) hg).trans c0, (hb.cell (p := ⟨g, _, none⟩) hg).trans c1, (hb.cell (p := ⟨g, _, none⟩) hg).trans c2, (hb.cell (p := ⟨g, _, none⟩) hg).trans c3⟩

def WE (w0 w : World) (pb sub lo hi : Nat) (ks : List R) (Z : Option (Nat × Array Value)) (vb : Value) (n : Nat) : Prop := ∃ ts Rs Xs, Wk w0 w pb sub lo hi ks ts Z vb Rs Xs ∧ Rs.length = n
/-- A list that Taken gave, as it was given. -/
def WL (w0 w : World) (pb sub lo hi : Nat) (ks : List R) (Z : Option (Nat × Array Value)) (vb : Value) (n : Nat) (l : Value) (nl : Nat) : Prop := ∃ ts Rs Xs D, Wk w0 w pb sub lo hi ks ts Z vb Rs Xs ∧ Rs.length = n ∧ D = tks sub (els ts) ∧ Me.OwnQ w w0.heap.size l D ∧ Aln l Xs ∧ D.length = nl ∧ nl ≤ 4294967296
/-- And one that is its caller's now. -/
def WA (w0 w : World) (pb sub lo hi : Nat) (ks : List R) (Z : Option (Nat × Array Value)) (vb : Value) (n nl : Nat) : Prop := ∃ ts Rs Xs, Wk w0 w pb sub lo hi ks ts Z vb Rs Xs ∧ Rs.length = n ∧ (tks sub (els ts)).length = nl ∧ nl ≤ 4294967296
/-- The next one, whose members are looked at. -/
def WM (w0 w : World) (pb sub lo hi : Nat) (ks : List R) (Z : Option (Nat × Array Value)) (vb : Value) (n : Nat) (m : Value) (nl : Nat) : Prop := ∃ ts Rs Xs D, Wk w0 w pb sub lo hi ks ts Z vb Rs Xs ∧ Rs.length = n ∧ Me.OwnQ w w0.heap.size m D ∧ D.length = nl ∧ ∀ p ∈ D, p.2 = (sub : Int)

section
variable {w0 w w' : World} {pb sub lo hi n nl : Nat} {ks : List R} {Z : Option (Nat × Array Value)} {vb l m : Value}
theorem WE.be (h : WE w0 w pb sub lo hi ks Z vb n) : Below w0.heap.size w0 w := by
  obtain ⟨ts, Rs, Xs, h, -⟩ := h
  exact h.tb.be
theorem WE.below (h : WE w0 w pb sub lo hi ks Z vb n) (hb : Below w.heap.size w w') : WE w0 w' pb sub lo hi ks Z vb n := by
  obtain ⟨ts, Rs, Xs, h, e⟩ := h
  exact ⟨ts, Rs, Xs, h.below hb, e⟩
theorem WE.op (h : WE w0 w pb sub lo hi ks none vb n) (cs : Array Value) : WE w0 (w.alloc (.cells cs 46)) pb sub lo hi ks (some (w.heap.size, cs)) vb n := by
  obtain ⟨ts, Rs, Xs, h, e⟩ := h
  have h' := h.below ((Below.refl _ w).alloc (Nat.le_refl _) (.cells cs 46))
  exact ⟨ts, Rs, Xs, ⟨h'.tb, fun k cs' hz => by cases hz; exact heap_alloc_new w _, h'.ow, h'.vs, h'.rs⟩, e⟩
theorem WE.cell {ob : Nat} {cs : Array Value} (h : WE w0 w pb sub lo hi ks (some (ob, cs)) vb n) (j : Nat) : w.cell? ⟨ob, j, none⟩ = cs[j]? := by
  obtain ⟨ts, Rs, Xs, h, e⟩ := h
  exact cell_of_row _ _ _ _ _ _ (h.op ob cs rfl)
theorem WE.take (h : WE w0 w pb sub lo hi ks Z vb n) : Calls Try.prog 14 #[.pointer (some ⟨pb, 0, none⟩)] w fun e w' => (∃ v, e = .returned v) ∧ WE w0 w' pb sub lo hi ks Z vb n := by
  obtain ⟨ts, Rs, Xs, h, e⟩ := h
  refine h.tb.take.mono ?_
  rintro e' w' ⟨he, hk, ts', hp⟩
  exact ⟨he, ts', Rs, Xs, h.fr hk hp, e⟩
theorem WE.claim (h : WE w0 w pb sub lo hi ks Z vb n) (x : Nat) (y : Int) (hx : x < 4294967296) : Calls Try.prog 12 #[.pointer (some ⟨pb, 0, none⟩), .agg #[.int .u32 (x : Int), .int .i64 y]] w fun e w' => (∃ v, e = .returned v) ∧ WE w0 w' pb sub lo hi ks Z vb n := by
  obtain ⟨ts, Rs, Xs, h, e⟩ := h
  refine (h.tb.claim x y hx).mono ?_
  rintro e' w' ⟨he, hk, ts', hp⟩
  exact ⟨he, ts', Rs, Xs, h.fr hk hp, e⟩
theorem WE.free (h : WE w0 w pb sub lo hi ks Z vb n) (x : Nat) (y : Int) (hx : x < 4294967296) : Calls Try.prog 15 #[.pointer (some ⟨pb, 0, none⟩), .agg #[.int .u32 (x : Int), .int .i64 y]] w fun e w' => (∃ v, e = .returned v) ∧ WE w0 w' pb sub lo hi ks Z vb n := by
  obtain ⟨ts, Rs, Xs, h, e⟩ := h
  refine (h.tb.free x y hx).mono ?_
  rintro e' w' ⟨he, hk, ts', hp⟩
  exact ⟨he, ts', Rs, Xs, h.fr hk hp, e⟩
theorem WE.taken (h : WE w0 w pb sub lo hi ks Z vb n) : Calls Try.prog 17 #[.pointer (some ⟨pb, 0, none⟩)] w fun e w' => ∃ a nl c, e = .returned (.slice a nl c) ∧ nl ≤ 4294967296 ∧ Hid (WL w0 w' pb sub lo hi ks Z vb n (.slice a nl c) nl) := by
  obtain ⟨ts, Rs, Xs, h, e⟩ := h
  refine h.tb.taken.mono ?_
  rintro e' w' ⟨v, rfl, ho, hb, hl⟩
  obtain ⟨a, c, e1, -⟩ := Me.ownQ_len ho
  subst e1
  have hB := h.tb.be.size
  refine ⟨a, _, c, rfl, hl, ts, Rs, Xs, _, h.below hb, e, rfl, Me.row_low ho hB, fun x hx k hk hk' => ?_, rfl, hl⟩
  have := (World.ownsRow.lt ho k hk).1
  have := h.lt hx hk'
  omega
theorem WL.we (h : WL w0 w pb sub lo hi ks Z vb n l nl) : WE w0 w pb sub lo hi ks Z vb n := by
  obtain ⟨ts, Rs, Xs, D, h, e, -⟩ := h
  exact ⟨ts, Rs, Xs, h, e⟩
theorem tks_len2 {D : List (Nat × Int)} {ts : List R} (hD : D = tks sub (els ts)) : ∀ p ∈ D, p.2 = (sub : Int) := fun p hp => by
  subst hD
  unfold tks at hp
  obtain ⟨x, -, rfl⟩ := List.mem_map.1 hp
  rfl
/-- The next Taken, and both are the same. -/
theorem WL.next {a : Option Addr} {c : Nat} (h : WL w0 w pb sub lo hi ks Z vb n (.slice a nl c) nl) : Calls Try.prog 17 #[.pointer (some ⟨pb, 0, none⟩)] w fun e w' => ∃ a' c', e = .returned (.slice a' nl c') ∧ Hid (WM w0 w' pb sub lo hi ks Z vb n (.slice a' nl c') nl ∧ Calls Try.prog 18 #[.slice a nl c, .slice a' nl c'] w' fun e w'' => e = .returned (.bool true) ∧ WM w0 w'' pb sub lo hi ks Z vb n (.slice a' nl c') nl) := by
  obtain ⟨ts, Rs, Xs, D, h, e, hD, ho, hal, hlen, hnl⟩ := h
  refine h.tb.taken.mono ?_
  rintro e' w' ⟨v, rfl, ho', hb, hl⟩
  rw [← hD] at ho' hl
  subst hlen
  obtain ⟨a', c', e1, -⟩ := Me.ownQ_len ho'
  subst e1
  have hB := h.tb.be.size
  have hW := h.below hb
  have hM : Me.OwnQ w' w0.heap.size _ D := Me.row_low ho' hB
  refine ⟨a', c', rfl, ⟨ts, Rs, Xs, D, hW, e, hM, rfl, tks_len2 hD⟩, ?_⟩
  refine (same_self _ _ D w' (OwnP.sees (Me.row_below ho hb)) (OwnP.sees ho')).mono ?_
  rintro e'' w'' ⟨rfl, hb'⟩
  exact ⟨rfl, ts, Rs, Xs, D, hW.below hb', e, Me.row_below hM hb', rfl, tks_len2 hD⟩
theorem WA.next (h : WA w0 w pb sub lo hi ks Z vb n nl) : Calls Try.prog 17 #[.pointer (some ⟨pb, 0, none⟩)] w fun e w' => ∃ a' c', e = .returned (.slice a' nl c') ∧ Hid (WM w0 w' pb sub lo hi ks Z vb n (.slice a' nl c') nl) := by
  obtain ⟨ts, Rs, Xs, h, e, hlen, hnl⟩ := h
  refine h.tb.taken.mono ?_
  rintro e' w' ⟨v, rfl, ho', hb, hl⟩
  obtain ⟨a', c', e1, -⟩ := Me.ownQ_len ho'
  subst e1
  have hB := h.tb.be.size
  subst hlen
  exact ⟨a', c', rfl, ts, Rs, Xs, _, h.below hb, e, Me.row_low ho' hB, rfl, tks_len2 rfl⟩
theorem WM.we (h : WM w0 w pb sub lo hi ks Z vb n m nl) : WE w0 w pb sub lo hi ks Z vb n := by
  obtain ⟨ts, Rs, Xs, D, h, e, -⟩ := h
  exact ⟨ts, Rs, Xs, h, e⟩
theorem WM.below (h : WM w0 w pb sub lo hi ks Z vb n m nl) (hb : Below w.heap.size w w') : WM w0 w' pb sub lo hi ks Z vb n m nl := by
  obtain ⟨ts, Rs, Xs, D, h, e, h1, h2⟩ := h
  exact ⟨ts, Rs, Xs, D, h.below hb, e, Me.row_below h1 hb, h2⟩
theorem WE.kept (h : WE w0 w pb sub lo hi ks Z vb n) : Calls Try.prog 25 #[vb] w fun e w' => e = .returned (.bool true) ∧ Below w.heap.size w w' := by
  obtain ⟨ts, Rs, Xs, h, e⟩ := h
  have hK : ∀ r : Value × Value, ∃ K, r ∈ Rs → (r.1, K) ∈ Xs ∧ (r.2, K) ∈ Xs := fun r => by
    by_cases hr : r ∈ Rs
    · obtain ⟨K, hk⟩ := h.rs r hr
      exact ⟨K, fun _ => hk⟩
    · exact ⟨[], fun h' => absurd h' hr⟩
  have hKs : ∀ r, r ∈ Rs → (r.1, (hK r).choose) ∈ Xs ∧ (r.2, (hK r).choose) ∈ Xs := fun r hr => (hK r).choose_spec hr
  generalize (fun r => (hK r).choose) = f at hKs
  refine kept_any vb (Rs.map fun r => (r.1, r.2, (hK r).choose)) w ?_
  obtain ⟨ab, cb, eb, h1, h2, l0, l1⟩ := Me.row_len h.ow
  refine ⟨ab, cb, by rw [List.length_map]; exact eb, by rw [List.length_map]; exact h1, h2, fun j hj => ?_⟩
  have hj' : j < Rs.length := by simpa using hj
  cases ab with
  | none => have := (l0 rfl).1; omega
  | some p =>
    obtain ⟨gb, rfl, -, hgb⟩ := l1 p rfl
    have how := h.ow
    rw [eb] at how
    obtain ⟨e1, e2⟩ := hs_at Rs j Rs[j] (List.getElem?_eq_getElem hj')
    have cv := (Me.row_cell (xs := hs Rs) how e1).1
    have cw := (Me.row_cell (xs := hs Rs) how e2).1
    obtain ⟨q1, q2⟩ := (hK Rs[j]).choose_spec (List.getElem_mem hj')
    simp only [List.getElem_map]
    exact ⟨gb, 0, rfl, hgb, by rw [Nat.zero_add]; exact cv, by rw [Nat.zero_add]; exact cw, OwnP.sees (h.vs _ q1), OwnP.sees (h.vs _ q2)⟩
/-- Marked, and laid into the book. -/
theorem WL.marked {a : Option Addr} {c i : Nat} (h : WL w0 w pb sub lo hi ks Z vb n (.slice a nl c) nl) (hi' : i ≤ 4611686018427387904) (hn : n ≤ 4294967290) : Calls Try.prog 24 #[.slice a nl c, .int .i64 (i : Int)] w fun e w' => ∃ rb, e = .returned (.slice (some ⟨rb, 0, none⟩) 4 4) ∧
    Hid (∃ a' n' c' w'', Hid ((Builtin.append_ #[56, 56] 56 #[vb, .slice (some ⟨rb, 0, none⟩) 4 4]).run Try.prog w' = .ok (.slice a' n' c') w'') ∧ Hid (WA w0 w'' pb sub lo hi ks Z (.slice a' n' c') (n + 4) nl)) := by
  obtain ⟨ts, Rs, Xs, D, h, e, hD, ho, hal, hlen, hnl⟩ := h
  refine (marked_any _ D i w h ho hal (by omega) hi').mono ?_
  rintro e' w' ⟨rb, rfl, s1, s2, s3, s4, s5, s6, s7, s8, Xs', hrow, hW, p1, p2, p3, p4⟩
  refine ⟨rb, rfl, ?_⟩
  obtain ⟨v', w'', hr, ho', hg⟩ := append_h w' w0.heap.size vb Rs rb 4 s1 s2 s3 s4 s5 s6 s7 s8 hW.ow hrow hW.tb.be.size (by omega)
  obtain ⟨a', c', e1, -⟩ := Me.row_len ho'
  subst e1
  refine ⟨a', _, c', w'', hr, ts, _, Xs', ⟨hW.tb.grownR hW.ow (Nat.le_refl _) hg (by decide), fun k cs hz => op_grown hW.ow (by decide) hg (hW.op k cs hz), ho', fun x hx => Me.row_grown (hW.vs x hx) hg (kindH_ne hW.ow (hW.vs x hx)), fun r hr => ?_⟩, by simp [e], by rw [← hD]; exact hlen, hnl⟩
  rcases List.mem_append.1 hr with hr | hr
  · exact hW.rs r hr
  · simp only [List.mem_cons, List.not_mem_nil, or_false] at hr
    rcases hr with rfl | rfl | rfl | rfl
    · exact p1
    · exact p2
    · exact p3
    · exact p4
theorem WM.at {a : Option Addr} {c k : Nat} (h : WM w0 w pb sub lo hi ks Z vb n (.slice a nl c) nl) (hk : k < nl) : ∃ g, a = some ⟨g, 0, none⟩ ∧ ∀ t : Beh w, t.wd.cell? ⟨g, k * 2 + 1, none⟩ = some (.int .i64 (sub : Int)) := by
  obtain ⟨ts, Rs, Xs, D, h, e, ho, hlen, hD⟩ := h
  obtain ⟨a', c', e1, -, -, l0, l1⟩ := Me.ownQ_len ho
  simp only [Value.slice.injEq] at e1
  obtain ⟨rfl, -, rfl⟩ := e1
  cases a with
  | none => have := (l0 rfl).1; omega
  | some p =>
    obtain ⟨g, rfl, -, hg⟩ := l1 p rfl
    refine ⟨g, rfl, fun t => ?_⟩
    have hkD : k < D.length := by omega
    obtain ⟨-, c2, -⟩ := Me.own_cell ho (List.getElem?_eq_getElem hkD)
    rw [hD _ (List.getElem_mem hkD)] at c2
    exact (t.ok.cell (p := ⟨g, k * 2 + 1, none⟩) hg).trans c2
theorem WE.forget (h : WE w0 w pb sub lo hi ks Z vb n) : WE w0 w pb sub lo hi ks none vb n := by
  obtain ⟨ts, Rs, Xs, h, e⟩ := h
  exact ⟨ts, Rs, Xs, ⟨h.tb, (fun k cs hz => by cases hz), h.ow, h.vs, h.rs⟩, e⟩
end

theorem memory_walk (q : Sp) (v : Value) (S : List Stp) (w : World) (hq : q.Ok w) (hv : SeesO w v S) (hC : ∀ p ∈ S, p.a < 4294967296) (hbig : S.length * 32 ≤ 140737488351232) :
    Calls Try.prog 7 #[.agg q.cells, v] w fun e w' => e = .returned (.bool true) ∧ Below w.heap.size w w' := by
  obtain ⟨x, y, s, lo0, hi0, kv, L⟩ := q
  obtain ⟨ak, nk, ck0, hkv, HNK, hk1, hk2⟩ := hq.kv.shape
  simp only at hkv
  subst hkv
  obtain ⟨ac, n, cc0, rfl, HNC, hc1, hc2⟩ := hv.shape
  have hnb : n ≤ 4398046510976 := by have := HNC.out; omega
  obtain ⟨w2, HW2⟩ : ∃ w2, Hid (w2 = w.alloc (.cells #[.int .u32 (x : Int), .int .i64 y, .int .i64 s, .int .u32 (lo0 : Int), .int .u32 (hi0 : Int), .slice ak nk ck0] 28)) := ⟨_, rfl⟩
  have hb2 : Below w.heap.size w w2 := by rw [HW2.out]; exact (Below.refl _ _).alloc (Nat.le_refl _) _
  have r2 : w2.heap[w.heap.size]? = some (.cells #[.int .u32 (x : Int), .int .i64 y, .int .i64 s, .int .u32 (lo0 : Int), .int .u32 (hi0 : Int), .slice ak nk ck0] 28 (0, 0)) := by rw [HW2.out]; exact heap_alloc_new w _
  obtain ⟨sb, HSB⟩ : ∃ sb, Hid (sb = w.heap.size) := ⟨_, rfl⟩
  rw [← HSB.out] at r2
  have HCL : Hid (∀ u : World, Below w2.heap.size w2 u → u.cell? ⟨sb, 0, none⟩ = some (.int .u32 (x : Int)) ∧ u.cell? ⟨sb, 1, none⟩ = some (.int .i64 y) ∧ u.cell? ⟨sb, 2, none⟩ = some (.int .i64 s) ∧ u.cell? ⟨sb, 3, none⟩ = some (.int .u32 (lo0 : Int)) ∧ u.cell? ⟨sb, 4, none⟩ = some (.int .u32 (hi0 : Int)) ∧ u.cell? ⟨sb, 5, none⟩ = some (.slice ak nk ck0)) := fun u hu => by
    have hr := below_keeps hu r2 (Array.getElem?_eq_some_iff.1 r2).1
    refine ⟨?_, ?_, ?_, ?_, ?_, ?_⟩ <;> (rw [cell_of_row _ _ _ _ _ _ hr]; rfl)
  have HB2 := hid hb2
  have HBE := hid (begun_any w2)
  have HSP : Hid (∀ u : World, Below w2.heap.size w2 u → Sp.Ok u ⟨x, y, s, lo0, hi0, .slice ak nk ck0, L⟩) := fun u hu => (hq.below HB2.out).below hu
  obtain ⟨ee, HEE⟩ : ∃ ee, Hid (ee = newE x y s lo0 hi0 L) := ⟨_, rfl⟩
  have HMD : ∀ u : World, Below w2.heap.size w2 u → Hid (Calls Try.prog 10 #[.agg #[.int .u32 (x : Int), .int .i64 y, .int .i64 s, .int .u32 (lo0 : Int), .int .u32 (hi0 : Int), .slice ak nk ck0]] u (News u x y s lo0 hi0 L)) := fun u hu => hid (made_any ⟨x, y, s, lo0, hi0, .slice ak nk ck0, L⟩ u (HSP.out u hu))
  have HSD : ∀ u : World, Below w2.heap.size w2 u → Hid (Calls Try.prog 11 #[.agg #[.int .u32 (x : Int), .int .i64 y, .int .i64 s, .int .u32 (lo0 : Int), .int .u32 (hi0 : Int), .slice ak nk ck0]] u fun e w' => e = .returned (.bool (decide (ee = 0))) ∧ Below u.heap.size u w') := fun u hu => by
    rw [HEE.out]; exact hid (sound_any ⟨x, y, s, lo0, hi0, .slice ak nk ck0, L⟩ u (HSP.out u hu))
  have HUN : Hid (ee = 0 → ∀ u : World, Below w2.heap.size w2 u → Calls Try.prog 23 #[.agg #[.int .u32 (x : Int), .int .i64 y, .int .i64 s, .int .u32 (lo0 : Int), .int .u32 (hi0 : Int), .slice ak nk ck0], .slice ac n cc0] u fun e w' => e = .returned (.bool true) ∧ Below u.heap.size u w') := fun he u hu => untouched_any ⟨x, y, s, lo0, hi0, .slice ak nk ck0, L⟩ _ S u (HSP.out u hu) (hv.below (HB2.out.trans (hu.mono HB2.out.size))) hC (by rw [← HEE.out]; exact he)
  unfold News at HMD
  rw [← HEE.out] at HMD
  have HAT : ∀ j, j < n → ∃ (g off : Nat) (o : Stp), ac = some ⟨g, off, none⟩ ∧ Hid (S[j]? = some o) ∧ Hid (∀ u : World, Below w.heap.size w u → u.cell? ⟨g, off + j * 4, none⟩ = some (.int .i64 o.k) ∧ u.cell? ⟨g, off + j * 4 + 1, none⟩ = some (.int .i64 o.o) ∧ u.cell? ⟨g, off + j * 4 + 2, none⟩ = some (.int .u32 (o.a : Int)) ∧ u.cell? ⟨g, off + j * 4 + 3, none⟩ = some (.int .i64 o.l)) := fun j hj => hv.at j hj
  have HCC := hid hC
  unfold Sp.cells
  simp only
  unfold maxLen at hc2
  have HBW : Hid (∀ u : World, Below w2.heap.size w2 u → Below w.heap.size w u) := fun u hu => HB2.out.trans (hu.mono HB2.out.size)
  clear hq hv hC hb2 r2 hk1 hk2 hbig
  go_enter Try.func7, Try.ntmps7
  go_upto_region 1 with fail
  rw [← HW2.out, ← HSB.out]
  go_wp2_with fail
  refine HBE.out.mono ?_
  rintro _ w3 ⟨rfl, hb3⟩
  have HB3 := hid hb3
  obtain ⟨c0, c1, c2, c3, c4, c5⟩ := HCL.out w3 hb3
  have HM3 := HMD w3 hb3
  clear hb3 HBE HMD
  go_wp2_with fail
  refine HM3.out.mono ?_
  rintro e w4 (⟨h1, rfl, h3⟩ | ⟨h1, pb, sub, vk, ks, h2, rfl, h3, h4⟩)
  · have HB4 : Hid (Below w2.heap.size w2 w4) := HB3.out.trans (h3.mono HB3.out.size)
    clear c0 c1 c2 c3 c4 c5 h3 HM3
    obtain ⟨c0, c1, c2, c3, c4, c5⟩ := HCL.out w4 HB4.out
    have HS4 := HSD w4 HB4.out
    have hd : decide (ee = 0) = false := by simp [h1]
    rw [hd] at HS4
    have hd2 : (ee == 0) = false := by simp [h1]
    have hd3 : (ee != 0) = true := by simp [h1]
    clear HSD hd
    go_wp2_with fail
    refine HS4.out.mono ?_
    rintro _ w5 ⟨rfl, hb5⟩
    have HB5 := hid (HBW.out w5 (HB4.out.trans (hb5.mono HB4.out.size)))
    clear hb5 HS4 c0 c1 c2 c3 c4 c5
    go_wp2_with fail
    go_ret
    exact ⟨rfl, HB5.out⟩
  have HB4 : Hid (Below w2.heap.size w2 w4) := HB3.out.trans (h3.be.mono HB3.out.size)
  clear c0 c1 c2 c3 c4 c5 HM3
  obtain ⟨c0, c1, c2, c3, c4, c5⟩ := HCL.out w4 HB4.out
  have HS4 := HSD w4 HB4.out
  have hd : decide (ee = 0) = true := by simp [h1]
  rw [hd] at HS4
  subst h2
  have hb34 := HB3.out.size
  have HPB : Hid (PB w2 w4 pb sub (num sub lo0) (num sub hi0) ks []) := ⟨vk, _, h3.pool, Nat.le_trans hb34 h3.new, fun g hg => Nat.le_trans hb34 (h3.vnew g hg), (fun g hg => by cases hg), HB4.out⟩
  clear HSD hd h3 h4 hb34
  go_wp2_with fail
  refine HS4.out.mono ?_
  rintro _ w5 ⟨rfl, hb5⟩
  have HB5 := hid (HB4.out.trans (hb5.mono HB4.out.size))
  have HPB5 := hid (HPB.out.below hb5)
  clear c0 c1 c2 c3 c4 c5 HS4 HPB hb5
  obtain ⟨c0, c1, c2, c3, c4, c5⟩ := HCL.out w5 HB5.out
  have HU5 := hid (HUN.out h1 w5 HB5.out)
  clear HUN h1 HEE
  go_wp2_with fail
  refine HU5.out.mono ?_
  rintro _ w6 ⟨rfl, hb6⟩
  have HW : Hid (WE w2 w6 pb sub (num sub lo0) (num sub hi0) ks none (.slice none 0 0) 0) := ⟨[], [], [], ⟨HPB5.out.below hb6, (fun k cs hz => by cases hz), World.ownsRow_nil _ _ _ _, (fun e he => by cases he), fun r hr => by cases hr⟩, rfl⟩
  have HBQ : Hid (∀ u : World, Below w2.heap.size w2 u → u.cell? ⟨sb, 2, none⟩ = some (.int .i64 (sub : Int))) := fun u hu => (HCL.out u hu).2.2.1
  clear c0 c1 c2 c3 c4 c5 HU5 HPB5 hb6 HB3 HB4 HB5 HCL HSP
  generalize num sub lo0 = lo at *
  generalize num sub hi0 = hi at *
  go_upto_region 15 with fail
  go_loopw [9, 10, 11] (fun vb t i wv => ∃ (k tt nb cb R' : Nat) (ab : Option Addr) (wr : World), wr = wv ∧ vb = .slice ab nb cb ∧ t = .int .i64 (tt : Int) ∧ i = .int .i64 (k : Int) ∧ k ≤ n ∧ Hid (50 * R' ≤ tt) ∧ tt ≤ 34360262856 ∧ Hid (WE w2 wr pb sub lo hi ks none (.slice ab nb cb) R')) (fun _ _ i _ => n - (intOf i).toNat)
  case atStart => exact ⟨0, 0, 0, 0, 0, none, _, rfl, rfl, rfl, rfl, Nat.zero_le _, hid (Nat.zero_le _), by decide, HW⟩
  case round =>
    clear HW
    obtain ⟨k, tt, nb, cb, R', ab, u, rfl, rfl, rfl, rfl, hk, HKT, htt, HW⟩ := hrel
    by_cases hc : k < n ∧ tt < 524288
    · obtain ⟨hlt, htl⟩ := hc
      have b1 : (k : Int) < (n : Int) := int_lt hlt
      have b2 : (tt : Int) < 524288 := by omega
      obtain ⟨g, off, o, rfl, HO, HCL⟩ := HAT k hlt
      obtain ⟨d0, d1, d2, d3⟩ := HCL.out u (HBW.out u HW.out.be)
      have hoa := HCC.out o (List.mem_of_getElem? HO.out)
      have hR' : R' ≤ 10486 := by have := HKT.out; omega
      obtain ⟨ok, oo, oa, ol⟩ := o
      simp only at d0 d1 d2 d3 hoa
      obtain ⟨ob, HOB⟩ : ∃ ob, Hid (ob = u.heap.size) := ⟨_, rfl⟩
      obtain ⟨w7, HW7⟩ : ∃ w7, Hid (w7 = u.alloc (.cells #[.int .i64 ok, .int .i64 oo, .int .u32 (oa : Int), .int .i64 ol] 46)) := ⟨_, rfl⟩
      have HWO : Hid (WE w2 w7 pb sub lo hi ks (some (ob, #[.int .i64 ok, .int .i64 oo, .int .u32 (oa : Int), .int .i64 ol])) (.slice ab nb cb) R') := by
        unfold Hid
        rw [HW7.out, HOB.out]
        exact HW.out.op _
      have HOAA := hid hoa
      clear HO hoa HCL HW
      go_upto_region 18 with fail
      rw [← HW7.out, ← HOB.out]
      clear d0 d1 d2 d3 HW7 HOB
      have f0 : w7.cell? ⟨ob, 0, none⟩ = some (.int .i64 ok) := HWO.out.cell 0
      have f2 : w7.cell? ⟨ob, 2, none⟩ = some (.int .u32 (oa : Int)) := HWO.out.cell 2
      have f3 : w7.cell? ⟨ob, 3, none⟩ = some (.int .i64 ol) := HWO.out.cell 3
      by_cases k1 : ok = 1
      · have q1 : (ok == 1) = true := by simp [k1]
        have q4 : (ok == 4) = false := by simp [k1]
        have q5 : (ok != 4) = true := by simp [k1]
        clear k1
        have HTK := hid HWO.out.take
        go_wp2_with fail
        refine HTK.out.mono ?_
        rintro _ w8 ⟨⟨rv, rfl⟩, hu⟩
        have HWX := hid hu
        clear f0 f2 f3 HTK HWO hu HOAA
        have g0 : w8.cell? ⟨ob, 0, none⟩ = some (.int .i64 ok) := HWX.out.cell 0
        have HTA := hid HWX.out.taken
        clear HWX
        go_wp2_with fail
        refine HTA.out.mono ?_
        rintro _ w9 ⟨al, nl, cl, rfl, hnl, HWL⟩
        clear HTA g0
        have g0 : w9.cell? ⟨ob, 0, none⟩ = some (.int .i64 ok) := HWL.out.we.cell 0
        have HNX := hid HWL.out.next
        clear HWL
        go_wp2_with fail
        refine HNX.out.mono ?_
        rintro _ w12 ⟨am, cm, rfl, HWS⟩
        clear HNX g0
        obtain ⟨hwm, hsm⟩ := HWS.out
        have HWM := hid hwm
        have HSM := hid hsm
        clear HWS hwm hsm
        have g0 : w12.cell? ⟨ob, 0, none⟩ = some (.int .i64 ok) := HWM.out.we.cell 0
        obtain ⟨rr, HRR⟩ : ∃ rr : Nat, Hid (rr = k % 64) := ⟨_, rfl⟩
        have hmod : (k : Int).tmod 64 = (rr : Int) := by rw [HRR.out]; exact tmod_nat k 64
        go_upto_region 30 with fail
        go_cut [123] from 44 to 137 (fun e wx => e = .bool false ∧ ∃ y, y = wx ∧ Hid (WM w2 y pb sub lo hi ks (some (ob, #[.int .i64 ok, .int .i64 oo, .int .u32 (oa : Int), .int .i64 ol])) (.slice ab nb cb) R' (.slice am nl cm) nl))
        case first =>
          by_cases h4 : k < 400
          · have i4 : (k : Int) < 400 := by omega
            go_wp2_with fail
            refine HSM.out.mono ?_
            rintro _ w13 ⟨rfl, hwm⟩
            have HKP := hid hwm.we.kept
            have HWM2 := hid hwm
            clear hwm
            go_wp2_with fail
            refine HKP.out.mono ?_
            rintro _ w14 ⟨rfl, hb⟩
            have HWM3 := hid (HWM2.out.below hb)
            clear hb HKP
            go_wp2_with fail
            go_meet
            case rel => exact ⟨rfl, _, rfl, HWM3⟩
          · have i4 : ¬ (k : Int) < 400 := by omega
            by_cases h6 : rr = 0
            · have i6 : ((rr : Int) == 0) = true := by simp [h6]
              clear h6
              go_wp2_with fail
              refine HSM.out.mono ?_
              rintro _ w13 ⟨rfl, hwm⟩
              have HKP := hid hwm.we.kept
              have HWM2 := hid hwm
              clear hwm
              go_wp2_with fail
              refine HKP.out.mono ?_
              rintro _ w14 ⟨rfl, hb⟩
              have HWM3 := hid (HWM2.out.below hb)
              clear hb HKP
              go_wp2_with fail
              go_meet
              case rel => exact ⟨rfl, _, rfl, HWM3⟩
            · have i6 : ((rr : Int) == 0) = false := by simp; omega
              clear h6 h4
              have i7 : decide ((k : Int) < 400) = false := by simpa using i4
              clear i4
              go_wp2_with fail
              refine HSM.out.mono ?_
              rintro _ w13 ⟨rfl, hwm⟩
              have HWM3 := hid hwm
              clear hwm
              go_wp2_with fail
              go_meet
              case rel => exact ⟨rfl, _, rfl, HWM3⟩
        case rest =>
        obtain ⟨rfl, y3, hy3, HWM4⟩ := hcut
        subst hy3
        clear HWM g0 HRR hmod HSM
        go_upto_region 33 with fail
        go_loopw [15] (fun i wv => ∃ (j : Nat) (wr : World), wr = wv ∧ i = .int .i64 (j : Int) ∧ j ≤ nl ∧ Hid (WM w2 wr pb sub lo hi ks (some (ob, #[.int .i64 ok, .int .i64 oo, .int .u32 (oa : Int), .int .i64 ol])) (.slice ab nb cb) R' (.slice am nl cm) nl)) (fun i _ => nl - (intOf i).toNat)
        case atStart => exact ⟨0, _, rfl, rfl, Nat.zero_le _, HWM4⟩
        case round =>
          clear HWM4
          obtain ⟨j, y4, rfl, rfl, hj, HWM⟩ := hrel
          by_cases hjn : j < nl
          · have i1 : (j : Int) < (nl : Int) := int_lt hjn
            have i2 : (0 : Int) ≤ (j : Int) := by omega
            have i3 : decide ((j : Int) < 0) = false := by simp
            obtain ⟨gm, rfl, m1⟩ := HWM.out.at hjn
            have m2 : ∀ t : Beh y4, t.wd.cell? ⟨sb, 2, none⟩ = some (.int .i64 (sub : Int)) := fun t => HBQ.out t.wd (HWM.out.we.be.trans (t.ok.mono HWM.out.we.be.size))
            go_upto_region 35 with fail
            refine wp_region_beh (by kernel_rfl) (by kernel_rfl) ?_
            repeat (go_big_quiet_step (fail))
            refine wpQuiet_nil ?_
            rintro _ ⟨t, rfl⟩
            have HWM2 := hid (HWM.out.below t.ok)
            clear HWM m1 m2
            go_wp2_with fail
            go_roundw
            case rel => exact ⟨j + 1, _, rfl, by go_num, hjn, HWM2⟩
            case measure => simp [intOf]; omega
          · have i1 : ¬ (j : Int) < (nl : Int) := int_nlt hjn
            have HWE := hid HWM.out.we.forget
            clear HWM
            go_wp2_with fail
            go_roundw
            case rel => exact ⟨k + 1, tt, nb, cb, R', ab, _, rfl, rfl, rfl, by go_num, hlt, HKT, htt, HWE⟩
            case measure => simp [intOf]; omega
      · have q1 : (ok == 1) = false := by simp [k1]
        by_cases k2 : ok = 2
        · have q2 : (ok == 2) = true := by simp [k2]
          have q4 : (ok == 4) = false := by simp [k2]
          have q5 : (ok != 4) = true := by simp [k2]
          clear k2
          have HTK := hid (HWO.out.claim oa ol HOAA.out)
          go_wp2_with fail
          refine HTK.out.mono ?_
          rintro _ w8 ⟨⟨rv, rfl⟩, hu⟩
          have HWX := hid hu
          clear f0 f2 f3 HTK HWO hu HOAA
          have g0 : w8.cell? ⟨ob, 0, none⟩ = some (.int .i64 ok) := HWX.out.cell 0
          have HTA := hid HWX.out.taken
          clear HWX
          go_wp2_with fail
          refine HTA.out.mono ?_
          rintro _ w9 ⟨al, nl, cl, rfl, hnl, HWL⟩
          clear HTA g0
          have g0 : w9.cell? ⟨ob, 0, none⟩ = some (.int .i64 ok) := HWL.out.we.cell 0
          have HNX := hid HWL.out.next
          clear HWL
          go_wp2_with fail
          refine HNX.out.mono ?_
          rintro _ w12 ⟨am, cm, rfl, HWS⟩
          clear HNX g0
          obtain ⟨hwm, hsm⟩ := HWS.out
          have HWM := hid hwm
          have HSM := hid hsm
          clear HWS hwm hsm
          have g0 : w12.cell? ⟨ob, 0, none⟩ = some (.int .i64 ok) := HWM.out.we.cell 0
          obtain ⟨rr, HRR⟩ : ∃ rr : Nat, Hid (rr = k % 64) := ⟨_, rfl⟩
          have hmod : (k : Int).tmod 64 = (rr : Int) := by rw [HRR.out]; exact tmod_nat k 64
          go_upto_region 30 with fail
          go_cut [123] from 44 to 137 (fun e wx => e = .bool false ∧ ∃ y, y = wx ∧ Hid (WM w2 y pb sub lo hi ks (some (ob, #[.int .i64 ok, .int .i64 oo, .int .u32 (oa : Int), .int .i64 ol])) (.slice ab nb cb) R' (.slice am nl cm) nl))
          case first =>
            by_cases h4 : k < 400
            · have i4 : (k : Int) < 400 := by omega
              go_wp2_with fail
              refine HSM.out.mono ?_
              rintro _ w13 ⟨rfl, hwm⟩
              have HKP := hid hwm.we.kept
              have HWM2 := hid hwm
              clear hwm
              go_wp2_with fail
              refine HKP.out.mono ?_
              rintro _ w14 ⟨rfl, hb⟩
              have HWM3 := hid (HWM2.out.below hb)
              clear hb HKP
              go_wp2_with fail
              go_meet
              case rel => exact ⟨rfl, _, rfl, HWM3⟩
            · have i4 : ¬ (k : Int) < 400 := by omega
              by_cases h6 : rr = 0
              · have i6 : ((rr : Int) == 0) = true := by simp [h6]
                clear h6
                go_wp2_with fail
                refine HSM.out.mono ?_
                rintro _ w13 ⟨rfl, hwm⟩
                have HKP := hid hwm.we.kept
                have HWM2 := hid hwm
                clear hwm
                go_wp2_with fail
                refine HKP.out.mono ?_
                rintro _ w14 ⟨rfl, hb⟩
                have HWM3 := hid (HWM2.out.below hb)
                clear hb HKP
                go_wp2_with fail
                go_meet
                case rel => exact ⟨rfl, _, rfl, HWM3⟩
              · have i6 : ((rr : Int) == 0) = false := by simp; omega
                clear h6 h4
                have i7 : decide ((k : Int) < 400) = false := by simpa using i4
                clear i4
                go_wp2_with fail
                refine HSM.out.mono ?_
                rintro _ w13 ⟨rfl, hwm⟩
                have HWM3 := hid hwm
                clear hwm
                go_wp2_with fail
                go_meet
                case rel => exact ⟨rfl, _, rfl, HWM3⟩
          case rest =>
          obtain ⟨rfl, y3, hy3, HWM4⟩ := hcut
          subst hy3
          clear HWM g0 HRR hmod HSM
          go_upto_region 33 with fail
          go_loopw [15] (fun i wv => ∃ (j : Nat) (wr : World), wr = wv ∧ i = .int .i64 (j : Int) ∧ j ≤ nl ∧ Hid (WM w2 wr pb sub lo hi ks (some (ob, #[.int .i64 ok, .int .i64 oo, .int .u32 (oa : Int), .int .i64 ol])) (.slice ab nb cb) R' (.slice am nl cm) nl)) (fun i _ => nl - (intOf i).toNat)
          case atStart => exact ⟨0, _, rfl, rfl, Nat.zero_le _, HWM4⟩
          case round =>
            clear HWM4
            obtain ⟨j, y4, rfl, rfl, hj, HWM⟩ := hrel
            by_cases hjn : j < nl
            · have i1 : (j : Int) < (nl : Int) := int_lt hjn
              have i2 : (0 : Int) ≤ (j : Int) := by omega
              have i3 : decide ((j : Int) < 0) = false := by simp
              obtain ⟨gm, rfl, m1⟩ := HWM.out.at hjn
              have m2 : ∀ t : Beh y4, t.wd.cell? ⟨sb, 2, none⟩ = some (.int .i64 (sub : Int)) := fun t => HBQ.out t.wd (HWM.out.we.be.trans (t.ok.mono HWM.out.we.be.size))
              go_upto_region 35 with fail
              refine wp_region_beh (by kernel_rfl) (by kernel_rfl) ?_
              repeat (go_big_quiet_step (fail))
              refine wpQuiet_nil ?_
              rintro _ ⟨t, rfl⟩
              have HWM2 := hid (HWM.out.below t.ok)
              clear HWM m1 m2
              go_wp2_with fail
              go_roundw
              case rel => exact ⟨j + 1, _, rfl, by go_num, hjn, HWM2⟩
              case measure => simp [intOf]; omega
            · have i1 : ¬ (j : Int) < (nl : Int) := int_nlt hjn
              have HWE := hid HWM.out.we.forget
              clear HWM
              go_wp2_with fail
              go_roundw
              case rel => exact ⟨k + 1, tt, nb, cb, R', ab, _, rfl, rfl, rfl, by go_num, hlt, HKT, htt, HWE⟩
              case measure => simp [intOf]; omega
        · have q2 : (ok == 2) = false := by simp [k2]
          by_cases k3 : ok = 3
          · have q3 : (ok == 3) = true := by simp [k3]
            have q4 : (ok == 4) = false := by simp [k3]
            have q5 : (ok != 4) = true := by simp [k3]
            clear k3
            have HTK := hid (HWO.out.free oa ol HOAA.out)
            go_wp2_with fail
            refine HTK.out.mono ?_
            rintro _ w8 ⟨⟨rv, rfl⟩, hu⟩
            have HWX := hid hu
            clear f0 f2 f3 HTK HWO hu HOAA
            have g0 : w8.cell? ⟨ob, 0, none⟩ = some (.int .i64 ok) := HWX.out.cell 0
            have HTA := hid HWX.out.taken
            clear HWX
            go_wp2_with fail
            refine HTA.out.mono ?_
            rintro _ w9 ⟨al, nl, cl, rfl, hnl, HWL⟩
            clear HTA g0
            have g0 : w9.cell? ⟨ob, 0, none⟩ = some (.int .i64 ok) := HWL.out.we.cell 0
            have HNX := hid HWL.out.next
            clear HWL
            go_wp2_with fail
            refine HNX.out.mono ?_
            rintro _ w12 ⟨am, cm, rfl, HWS⟩
            clear HNX g0
            obtain ⟨hwm, hsm⟩ := HWS.out
            have HWM := hid hwm
            have HSM := hid hsm
            clear HWS hwm hsm
            have g0 : w12.cell? ⟨ob, 0, none⟩ = some (.int .i64 ok) := HWM.out.we.cell 0
            obtain ⟨rr, HRR⟩ : ∃ rr : Nat, Hid (rr = k % 64) := ⟨_, rfl⟩
            have hmod : (k : Int).tmod 64 = (rr : Int) := by rw [HRR.out]; exact tmod_nat k 64
            go_upto_region 30 with fail
            go_cut [123] from 44 to 137 (fun e wx => e = .bool false ∧ ∃ y, y = wx ∧ Hid (WM w2 y pb sub lo hi ks (some (ob, #[.int .i64 ok, .int .i64 oo, .int .u32 (oa : Int), .int .i64 ol])) (.slice ab nb cb) R' (.slice am nl cm) nl))
            case first =>
              by_cases h4 : k < 400
              · have i4 : (k : Int) < 400 := by omega
                go_wp2_with fail
                refine HSM.out.mono ?_
                rintro _ w13 ⟨rfl, hwm⟩
                have HKP := hid hwm.we.kept
                have HWM2 := hid hwm
                clear hwm
                go_wp2_with fail
                refine HKP.out.mono ?_
                rintro _ w14 ⟨rfl, hb⟩
                have HWM3 := hid (HWM2.out.below hb)
                clear hb HKP
                go_wp2_with fail
                go_meet
                case rel => exact ⟨rfl, _, rfl, HWM3⟩
              · have i4 : ¬ (k : Int) < 400 := by omega
                by_cases h6 : rr = 0
                · have i6 : ((rr : Int) == 0) = true := by simp [h6]
                  clear h6
                  go_wp2_with fail
                  refine HSM.out.mono ?_
                  rintro _ w13 ⟨rfl, hwm⟩
                  have HKP := hid hwm.we.kept
                  have HWM2 := hid hwm
                  clear hwm
                  go_wp2_with fail
                  refine HKP.out.mono ?_
                  rintro _ w14 ⟨rfl, hb⟩
                  have HWM3 := hid (HWM2.out.below hb)
                  clear hb HKP
                  go_wp2_with fail
                  go_meet
                  case rel => exact ⟨rfl, _, rfl, HWM3⟩
                · have i6 : ((rr : Int) == 0) = false := by simp; omega
                  clear h6 h4
                  have i7 : decide ((k : Int) < 400) = false := by simpa using i4
                  clear i4
                  go_wp2_with fail
                  refine HSM.out.mono ?_
                  rintro _ w13 ⟨rfl, hwm⟩
                  have HWM3 := hid hwm
                  clear hwm
                  go_wp2_with fail
                  go_meet
                  case rel => exact ⟨rfl, _, rfl, HWM3⟩
            case rest =>
            obtain ⟨rfl, y3, hy3, HWM4⟩ := hcut
            subst hy3
            clear HWM g0 HRR hmod HSM
            go_upto_region 33 with fail
            go_loopw [15] (fun i wv => ∃ (j : Nat) (wr : World), wr = wv ∧ i = .int .i64 (j : Int) ∧ j ≤ nl ∧ Hid (WM w2 wr pb sub lo hi ks (some (ob, #[.int .i64 ok, .int .i64 oo, .int .u32 (oa : Int), .int .i64 ol])) (.slice ab nb cb) R' (.slice am nl cm) nl)) (fun i _ => nl - (intOf i).toNat)
            case atStart => exact ⟨0, _, rfl, rfl, Nat.zero_le _, HWM4⟩
            case round =>
              clear HWM4
              obtain ⟨j, y4, rfl, rfl, hj, HWM⟩ := hrel
              by_cases hjn : j < nl
              · have i1 : (j : Int) < (nl : Int) := int_lt hjn
                have i2 : (0 : Int) ≤ (j : Int) := by omega
                have i3 : decide ((j : Int) < 0) = false := by simp
                obtain ⟨gm, rfl, m1⟩ := HWM.out.at hjn
                have m2 : ∀ t : Beh y4, t.wd.cell? ⟨sb, 2, none⟩ = some (.int .i64 (sub : Int)) := fun t => HBQ.out t.wd (HWM.out.we.be.trans (t.ok.mono HWM.out.we.be.size))
                go_upto_region 35 with fail
                refine wp_region_beh (by kernel_rfl) (by kernel_rfl) ?_
                repeat (go_big_quiet_step (fail))
                refine wpQuiet_nil ?_
                rintro _ ⟨t, rfl⟩
                have HWM2 := hid (HWM.out.below t.ok)
                clear HWM m1 m2
                go_wp2_with fail
                go_roundw
                case rel => exact ⟨j + 1, _, rfl, by go_num, hjn, HWM2⟩
                case measure => simp [intOf]; omega
              · have i1 : ¬ (j : Int) < (nl : Int) := int_nlt hjn
                have HWE := hid HWM.out.we.forget
                clear HWM
                go_wp2_with fail
                go_roundw
                case rel => exact ⟨k + 1, tt, nb, cb, R', ab, _, rfl, rfl, rfl, by go_num, hlt, HKT, htt, HWE⟩
                case measure => simp [intOf]; omega
          · have q3 : (ok == 3) = false := by simp [k3]
            by_cases k4 : ok = 4
            · have q4 : (ok == 4) = true := by simp [k4]
              have q5 : (ok != 4) = false := by simp [k4]
              have HWX := HWO
              obtain ⟨w8, HW8⟩ : ∃ w8, w8 = w7 := ⟨_, rfl⟩
              subst HW8
              clear f2 f3 HWO HOAA
              have g0 : w8.cell? ⟨ob, 0, none⟩ = some (.int .i64 ok) := HWX.out.cell 0
              have HTA := hid HWX.out.taken
              clear HWX
              go_wp2_with fail
              refine HTA.out.mono ?_
              rintro _ w9 ⟨al, nl, cl, rfl, hnl, HWL⟩
              clear HTA g0
              have g0 : w9.cell? ⟨ob, 0, none⟩ = some (.int .i64 ok) := HWL.out.we.cell 0
              obtain ⟨t2, HT2⟩ : ∃ t2 : Nat, Hid ((tt : Int) + 8 * (nl : Int) + 200 = (t2 : Int) ∧ t2 = tt + 8 * nl + 200) := ⟨tt + 8 * nl + 200, by unfold Hid; omega⟩
              have ht2 : t2 ≤ 34360262856 := by have := HT2.out.2; omega
              have HKT2 : Hid (50 * (R' + 4) ≤ t2) := by have := HT2.out.2; have := HKT.out; unfold Hid; omega
              have e1 : (-9223372036854775808 : Int) ≤ 8 * (nl : Int) := by omega
              have e2 : 8 * (nl : Int) ≤ 9223372036854775807 := by omega
              have e3 : (-9223372036854775808 : Int) ≤ (tt : Int) + 8 * (nl : Int) := by omega
              have e4 : (tt : Int) + 8 * (nl : Int) ≤ 9223372036854775807 := by omega
              have e5 : (-9223372036854775808 : Int) ≤ (tt : Int) + 8 * (nl : Int) + 200 := by omega
              have e6 : (tt : Int) + 8 * (nl : Int) + 200 ≤ 9223372036854775807 := by omega
              have HMK := hid (HWL.out.marked (i := k) (by omega) (by omega))
              clear HKT HWL
              go_upto_region 28 with fail
              rw [HT2.out.1]
              clear HT2 e1 e2 e3 e4 e5 e6 g0
              go_wp2_with fail
              refine HMK.out.mono ?_
              rintro _ w10 ⟨rb, rfl, HMA⟩
              obtain ⟨ab2, nb2, cb2, w11, HAP, HWA⟩ := HMA.out
              clear HMK HMA
              have HNX := hid HWA.out.next
              go_wp2_with (first | (at_builtin; refine Go.Lib.wpList_append_run _ rfl (.tmp 87) (.tmp 90) 56 56 rfl _ _ rfl rfl _ _ HAP.out ?_) | fail)
              refine HNX.out.mono ?_
              rintro _ w12 ⟨am, cm, rfl, HWM⟩
              clear HNX HWA HAP
              have g0 : w12.cell? ⟨ob, 0, none⟩ = some (.int .i64 ok) := HWM.out.we.cell 0
              obtain ⟨rr, HRR⟩ : ∃ rr : Nat, Hid (rr = k % 64) := ⟨_, rfl⟩
              have hmod : (k : Int).tmod 64 = (rr : Int) := by rw [HRR.out]; exact tmod_nat k 64
              go_upto_region 30 with fail
              go_cut [123] from 44 to 137 (fun e wx => e = .bool false ∧ ∃ y, y = wx ∧ Hid (WM w2 y pb sub lo hi ks (some (ob, #[.int .i64 ok, .int .i64 oo, .int .u32 (oa : Int), .int .i64 ol])) (.slice ab2 nb2 cb2) (R' + 4) (.slice am nl cm) nl))
              case first =>
                by_cases h4 : k < 400
                · have i4 : (k : Int) < 400 := by omega
                  have HKP := hid HWM.out.we.kept
                  go_wp2_with fail
                  refine HKP.out.mono ?_
                  rintro _ w14 ⟨rfl, hb⟩
                  have HWM3 := hid (HWM.out.below hb)
                  clear hb HKP
                  go_wp2_with fail
                  go_meet
                  case rel => exact ⟨rfl, _, rfl, HWM3⟩
                · have i4 : ¬ (k : Int) < 400 := by omega
                  by_cases h6 : rr = 0
                  · have i6 : ((rr : Int) == 0) = true := by simp [h6]
                    clear h6
                    have HKP := hid HWM.out.we.kept
                    go_wp2_with fail
                    refine HKP.out.mono ?_
                    rintro _ w14 ⟨rfl, hb⟩
                    have HWM3 := hid (HWM.out.below hb)
                    clear hb HKP
                    go_wp2_with fail
                    go_meet
                    case rel => exact ⟨rfl, _, rfl, HWM3⟩
                  · have i6 : ((rr : Int) == 0) = false := by simp; omega
                    clear h6 h4
                    have i7 : decide ((k : Int) < 400) = false := by simpa using i4
                    clear i4
                    go_wp2_with fail
                    go_meet
                    case rel => exact ⟨rfl, _, rfl, HWM⟩
              case rest =>
              obtain ⟨rfl, y3, hy3, HWM4⟩ := hcut
              subst hy3
              clear HWM g0 HRR hmod
              go_upto_region 33 with fail
              go_loopw [15] (fun i wv => ∃ (j : Nat) (wr : World), wr = wv ∧ i = .int .i64 (j : Int) ∧ j ≤ nl ∧ Hid (WM w2 wr pb sub lo hi ks (some (ob, #[.int .i64 ok, .int .i64 oo, .int .u32 (oa : Int), .int .i64 ol])) (.slice ab2 nb2 cb2) (R' + 4) (.slice am nl cm) nl)) (fun i _ => nl - (intOf i).toNat)
              case atStart => exact ⟨0, _, rfl, rfl, Nat.zero_le _, HWM4⟩
              case round =>
                clear HWM4
                obtain ⟨j, y4, rfl, rfl, hj, HWM⟩ := hrel
                by_cases hjn : j < nl
                · have i1 : (j : Int) < (nl : Int) := int_lt hjn
                  have i2 : (0 : Int) ≤ (j : Int) := by omega
                  have i3 : decide ((j : Int) < 0) = false := by simp
                  obtain ⟨gm, rfl, m1⟩ := HWM.out.at hjn
                  have m2 : ∀ t : Beh y4, t.wd.cell? ⟨sb, 2, none⟩ = some (.int .i64 (sub : Int)) := fun t => HBQ.out t.wd (HWM.out.we.be.trans (t.ok.mono HWM.out.we.be.size))
                  go_upto_region 35 with fail
                  refine wp_region_beh (by kernel_rfl) (by kernel_rfl) ?_
                  repeat (go_big_quiet_step (fail))
                  refine wpQuiet_nil ?_
                  rintro _ ⟨t, rfl⟩
                  have HWM2 := hid (HWM.out.below t.ok)
                  clear HWM m1 m2
                  go_wp2_with fail
                  go_roundw
                  case rel => exact ⟨j + 1, _, rfl, by go_num, hjn, HWM2⟩
                  case measure => simp [intOf]; omega
                · have i1 : ¬ (j : Int) < (nl : Int) := int_nlt hjn
                  have HWE := hid HWM.out.we.forget
                  clear HWM
                  go_wp2_with fail
                  go_roundw
                  case rel => exact ⟨k + 1, t2, nb2, cb2, (R' + 4), ab2, _, rfl, rfl, rfl, by go_num, hlt, HKT2, ht2, HWE⟩
                  case measure => simp [intOf]; omega
            · have q4 : (ok == 4) = false := by simp [k4]
              have q5 : (ok != 4) = true := by simp [k4]
              have HWX := HWO
              obtain ⟨w8, HW8⟩ : ∃ w8, w8 = w7 := ⟨_, rfl⟩
              subst HW8
              clear f2 f3 HWO HOAA
              have g0 : w8.cell? ⟨ob, 0, none⟩ = some (.int .i64 ok) := HWX.out.cell 0
              have HTA := hid HWX.out.taken
              clear HWX
              go_wp2_with fail
              refine HTA.out.mono ?_
              rintro _ w9 ⟨al, nl, cl, rfl, hnl, HWL⟩
              clear HTA g0
              have g0 : w9.cell? ⟨ob, 0, none⟩ = some (.int .i64 ok) := HWL.out.we.cell 0
              have HNX := hid HWL.out.next
              clear HWL
              go_wp2_with fail
              refine HNX.out.mono ?_
              rintro _ w12 ⟨am, cm, rfl, HWS⟩
              clear HNX g0
              obtain ⟨hwm, hsm⟩ := HWS.out
              have HWM := hid hwm
              have HSM := hid hsm
              clear HWS hwm hsm
              have g0 : w12.cell? ⟨ob, 0, none⟩ = some (.int .i64 ok) := HWM.out.we.cell 0
              obtain ⟨rr, HRR⟩ : ∃ rr : Nat, Hid (rr = k % 64) := ⟨_, rfl⟩
              have hmod : (k : Int).tmod 64 = (rr : Int) := by rw [HRR.out]; exact tmod_nat k 64
              go_upto_region 30 with fail
              go_cut [123] from 44 to 137 (fun e wx => e = .bool false ∧ ∃ y, y = wx ∧ Hid (WM w2 y pb sub lo hi ks (some (ob, #[.int .i64 ok, .int .i64 oo, .int .u32 (oa : Int), .int .i64 ol])) (.slice ab nb cb) R' (.slice am nl cm) nl))
              case first =>
                by_cases h4 : k < 400
                · have i4 : (k : Int) < 400 := by omega
                  go_wp2_with fail
                  refine HSM.out.mono ?_
                  rintro _ w13 ⟨rfl, hwm⟩
                  have HKP := hid hwm.we.kept
                  have HWM2 := hid hwm
                  clear hwm
                  go_wp2_with fail
                  refine HKP.out.mono ?_
                  rintro _ w14 ⟨rfl, hb⟩
                  have HWM3 := hid (HWM2.out.below hb)
                  clear hb HKP
                  go_wp2_with fail
                  go_meet
                  case rel => exact ⟨rfl, _, rfl, HWM3⟩
                · have i4 : ¬ (k : Int) < 400 := by omega
                  by_cases h6 : rr = 0
                  · have i6 : ((rr : Int) == 0) = true := by simp [h6]
                    clear h6
                    go_wp2_with fail
                    refine HSM.out.mono ?_
                    rintro _ w13 ⟨rfl, hwm⟩
                    have HKP := hid hwm.we.kept
                    have HWM2 := hid hwm
                    clear hwm
                    go_wp2_with fail
                    refine HKP.out.mono ?_
                    rintro _ w14 ⟨rfl, hb⟩
                    have HWM3 := hid (HWM2.out.below hb)
                    clear hb HKP
                    go_wp2_with fail
                    go_meet
                    case rel => exact ⟨rfl, _, rfl, HWM3⟩
                  · have i6 : ((rr : Int) == 0) = false := by simp; omega
                    clear h6 h4
                    have i7 : decide ((k : Int) < 400) = false := by simpa using i4
                    clear i4
                    go_wp2_with fail
                    refine HSM.out.mono ?_
                    rintro _ w13 ⟨rfl, hwm⟩
                    have HWM3 := hid hwm
                    clear hwm
                    go_wp2_with fail
                    go_meet
                    case rel => exact ⟨rfl, _, rfl, HWM3⟩
              case rest =>
              obtain ⟨rfl, y3, hy3, HWM4⟩ := hcut
              subst hy3
              clear HWM g0 HRR hmod HSM
              go_upto_region 33 with fail
              go_loopw [15] (fun i wv => ∃ (j : Nat) (wr : World), wr = wv ∧ i = .int .i64 (j : Int) ∧ j ≤ nl ∧ Hid (WM w2 wr pb sub lo hi ks (some (ob, #[.int .i64 ok, .int .i64 oo, .int .u32 (oa : Int), .int .i64 ol])) (.slice ab nb cb) R' (.slice am nl cm) nl)) (fun i _ => nl - (intOf i).toNat)
              case atStart => exact ⟨0, _, rfl, rfl, Nat.zero_le _, HWM4⟩
              case round =>
                clear HWM4
                obtain ⟨j, y4, rfl, rfl, hj, HWM⟩ := hrel
                by_cases hjn : j < nl
                · have i1 : (j : Int) < (nl : Int) := int_lt hjn
                  have i2 : (0 : Int) ≤ (j : Int) := by omega
                  have i3 : decide ((j : Int) < 0) = false := by simp
                  obtain ⟨gm, rfl, m1⟩ := HWM.out.at hjn
                  have m2 : ∀ t : Beh y4, t.wd.cell? ⟨sb, 2, none⟩ = some (.int .i64 (sub : Int)) := fun t => HBQ.out t.wd (HWM.out.we.be.trans (t.ok.mono HWM.out.we.be.size))
                  go_upto_region 35 with fail
                  refine wp_region_beh (by kernel_rfl) (by kernel_rfl) ?_
                  repeat (go_big_quiet_step (fail))
                  refine wpQuiet_nil ?_
                  rintro _ ⟨t, rfl⟩
                  have HWM2 := hid (HWM.out.below t.ok)
                  clear HWM m1 m2
                  go_wp2_with fail
                  go_roundw
                  case rel => exact ⟨j + 1, _, rfl, by go_num, hjn, HWM2⟩
                  case measure => simp [intOf]; omega
                · have i1 : ¬ (j : Int) < (nl : Int) := int_nlt hjn
                  have HWE := hid HWM.out.we.forget
                  clear HWM
                  go_wp2_with fail
                  go_roundw
                  case rel => exact ⟨k + 1, tt, nb, cb, R', ab, _, rfl, rfl, rfl, by go_num, hlt, HKT, htt, HWE⟩
                  case measure => simp [intOf]; omega
    · go_upto_region 15 with fail
      go_cut [51] from 44 to 137 (fun e wx => e = .bool false ∧ wx = u)
      case first =>
        rcases Nat.lt_or_ge k n with hqn | hqn
        · have b2 : ¬ (tt : Int) < 524288 := by omega
          have b3 : (k : Int) < (n : Int) := int_lt hqn
          go_wp2_with fail
          go_meet
          case rel => exact ⟨rfl, rfl⟩
        · have b2 : ¬ (k : Int) < (n : Int) := by omega
          go_wp2_with fail
          go_meet
          case rel => exact ⟨rfl, rfl⟩
      case rest =>
      obtain ⟨rfl, rfl⟩ := hcut
      have HKP := hid HW.out.kept
      have HB := hid HW.out.be
      clear hc HKT HW
      go_wp2_with fail
      refine HKP.out.mono ?_
      rintro _ w13 ⟨rfl, hb⟩
      have HB2 := hid (HBW.out w13 (HB.out.trans (hb.mono HB.out.size)))
      clear HKP hb HB
      go_wp2_with fail
      go_ret
      exact ⟨rfl, HB2.out⟩
end Go.Proofs.Ytahoileampdnkaa
