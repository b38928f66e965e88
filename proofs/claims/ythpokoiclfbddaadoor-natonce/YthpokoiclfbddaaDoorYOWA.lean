import Derived.Test.YthpokoiclfbddaaDoorRows
import Derived.WalkKit
import Derived.ProofKit
import Derived.OpenShut
import Derived.Test.YthpokoiclfbddaaDoorYXM1
import Derived.Laws.AppendOwn
import Derived.Deep.MidRow
import Derived.Deep.QuietTactic
import Derived.BigQuiet
namespace Go.Proofs.YthpokoiclfbddaaDoor.Ow
open Go.Proofs.YthpokoiclfbddaaDoor Go.ChangeShapes Go.WideShapes Go.ChangeAt Go.RowKit
set_option maxHeartbeats 2000000
set_option maxRecDepth 100000

/-- A kind of entries: its types, how an entry lies in cells. -/
structure Rk (α : Type) where
  eT : TypeId
  sT : TypeId
  z : Nat
  bs : Nat
  cs : α → Array Value
  zero : Value
  len : ∀ x, (cs x).size = z
  one : ∀ x, (cs x).all (·.oneCell') = true
  zp : 0 < z
  bp : 0 < bs ∧ bs ≤ 96
  us : Tryd.prog.underlying sT = some (.slice eT)
  el : Tryd.prog.elem sT = eT
  info : (Tryd.prog.info? eT).map (fun i => (i.zero, i.size, i.bytes)) = some (some zero, z, bs)
  zs : zero.cells.size = z
  ue : ∃ d, Tryd.prog.underlying eT = some d ∧ d.isRow = true

section Rows
variable {α : Type} (K : Rk α)

def rl (L : List α) : List Value := L.flatMap fun x => (K.cs x).toList
theorem rl_cons (x : α) (L : List α) : rl K (x :: L) = (K.cs x).toList ++ rl K L := by unfold rl; rw [List.flatMap_cons]
theorem rl_app (A B : List α) : rl K (A ++ B) = rl K A ++ rl K B := by unfold rl; rw [List.flatMap_append]
theorem rl_one (x : α) : rl K [x] = (K.cs x).toList := by unfold rl; simp
theorem rl_len (L : List α) : (rl K L).length = L.length * K.z := by
  induction L with
  | nil => simp [rl]
  | cons x L ih => rw [rl_cons, List.length_append, ih, Array.length_toList, K.len, List.length_cons, Nat.add_mul]; omega
theorem rl_take (L : List α) (i : Nat) : rl K (L.take i) = (rl K L).take (i * K.z) := by
  induction L generalizing i with
  | nil => simp [rl]
  | cons x L ih =>
    cases i with
    | zero => simp [rl]
    | succ i =>
      have hl : (K.cs x).toList.length = K.z := by rw [Array.length_toList, K.len]
      have e : (K.cs x).toList.take ((i + 1) * K.z) = (K.cs x).toList := List.take_of_length_le (by rw [hl, Nat.add_mul]; omega)
      have e2 : (i + 1) * K.z - K.z = i * K.z := by rw [Nat.add_mul]; omega
      rw [List.take_succ_cons, rl_cons, rl_cons, ih, List.take_append, hl, e, e2]
theorem rl_drop (L : List α) (i : Nat) : rl K (L.drop i) = (rl K L).drop (i * K.z) := by
  induction L generalizing i with
  | nil => simp [rl]
  | cons x L ih =>
    cases i with
    | zero => simp
    | succ i =>
      have hl : (K.cs x).toList.length = K.z := by rw [Array.length_toList, K.len]
      have e : (K.cs x).toList.drop ((i + 1) * K.z) = [] := List.drop_of_length_le (by rw [hl, Nat.add_mul]; omega)
      have e2 : (i + 1) * K.z - K.z = i * K.z := by rw [Nat.add_mul]; omega
      rw [List.drop_succ_cons, rl_cons, ih, List.drop_append, hl, e, e2, List.nil_append]
theorem rl_at {L : List α} {j : Nat} {x : α} (h : L[j]? = some x) {c : Nat} (hc : c < K.z) : (rl K L)[j * K.z + c]? = (K.cs x)[c]? := by
  have h1 : (rl K L).drop (j * K.z) = (K.cs x).toList ++ rl K (L.drop (j + 1)) := by
    rw [← rl_drop, ← rl_cons]
    congr 1
    obtain ⟨hj, rfl⟩ := List.getElem?_eq_some_iff.1 h
    exact List.drop_eq_getElem_cons hj
  have h2 : (rl K L)[j * K.z + c]? = ((rl K L).drop (j * K.z))[c]? := by rw [List.getElem?_drop]
  rw [h2, h1, List.getElem?_append_left (by rw [Array.length_toList, K.len]; exact hc), Array.getElem?_toList]
theorem rl_mem {L : List α} {v : Value} (h : v ∈ rl K L) : v.oneCell' = true := by
  unfold rl at h
  obtain ⟨x, _, hx⟩ := List.mem_flatMap.1 h
  have := K.one x
  rw [Array.all_eq_true_iff_forall_mem] at this
  exact this v (by simpa using hx)
theorem rl_set {L : List α} {j : Nat} (x : α) (hj : j < L.length) : rl K (L.set j x) = (rl K L).take (j * K.z) ++ (K.cs x).toList ++ (rl K L).drop (j * K.z + K.z) := by
  rw [List.set_eq_take_append_cons_drop, if_pos hj, rl_app, rl_cons, rl_take, rl_drop, List.append_assoc, Nat.add_mul, Nat.one_mul]

theorem Rk.info_at : ∃ i, Tryd.prog.info? K.eT = some i ∧ i.zero = some K.zero ∧ i.size = K.z ∧ i.bytes = K.bs := by
  have h := K.info
  cases hq : Tryd.prog.info? K.eT with
  | none => rw [hq] at h; cases h
  | some i =>
    rw [hq] at h
    simp at h
    exact ⟨i, rfl, h.1, h.2.1, h.2.2⟩

/-- An own list. -/
def Own (w : World) (B : Nat) (v : Value) (L : List α) : Prop := w.ownsRow B K.eT K.z v L.length (rl K L)
variable {K}
theorem Own.nil (w : World) (B : Nat) : Own K w B (.slice none 0 0) ([] : List α) := ⟨by simp [rl], .inl ⟨rfl, rfl⟩⟩
theorem Own.keeps {S : Nat → Prop} {w w' : World} {B : Nat} {v : Value} {L : List α} (h : Own K w B v L) (hk : Me.Keeps S w w') (hn : ∀ k, v.ownBlock = some k → ¬ S k) : Own K w' B v L := Me.row_keeps h hk hn
theorem Own.below {w w' : World} {B : Nat} {v : Value} {L : List α} (h : Own K w B v L) (hb : Below w.heap.size w w') : Own K w' B v L := Me.row_below h hb
theorem Own.low {w : World} {B B' : Nat} {v : Value} {L : List α} (h : Own K w B v L) (hb : B' ≤ B) : Own K w B' v L := Me.row_low h hb
theorem Own.lt {w : World} {B : Nat} {v : Value} {L : List α} (h : Own K w B v L) {k : Nat} (hk : v.ownBlock = some k) : B ≤ k ∧ k < w.heap.size := World.ownsRow.lt h k hk
theorem Own.kind {w : World} {B : Nat} {v : Value} {L : List α} (h : Own K w B v L) {k : Nat} (hk : v.ownBlock = some k) : ∃ cs, w.heap[k]? = some (.cells cs K.eT (0, 0)) := Me.row_kind h hk
theorem Own.shape {w : World} {B : Nat} {v : Value} {L : List α} (h : Own K w B v L) : ∃ a n c, v = .slice a n c ∧ Hid (n = L.length) ∧ n ≤ c ∧ c ≤ maxLen := by
  rcases h.2 with ⟨rfl, h0⟩ | ⟨g, cap, cur, rfl, hb, hg, h1, h2, _⟩
  · exact ⟨none, 0, 0, rfl, h0.symm, Nat.le_refl _, by decide⟩
  · exact ⟨_, _, cap, rfl, rfl, h1, h2⟩
/-- An entry of it, wherever its block is as it was. -/
theorem Own.at {w : World} {B : Nat} {a : Option Addr} {n c : Nat} {L : List α} (h : Own K w B (.slice a n c) L) {j : Nat} {x : α} (hx : L[j]? = some x) :
    ∃ g, a = some ⟨g, 0, none⟩ ∧ g < w.heap.size ∧ ∀ u : World, u.heap[g]? = w.heap[g]? → (∀ i, i < K.z → u.cell? ⟨g, j * K.z + i, none⟩ = (K.cs x)[i]? ∧ u.frozen? ⟨g, j * K.z + i, none⟩ = false) ∧ (Instr.loadAt K.eT (.pointer (some ⟨g, j * K.z, none⟩))).run Tryd.prog u = .ok (.agg (K.cs x)) u := by
  have hj := (List.getElem?_eq_some_iff.1 hx).1
  rcases h.2 with ⟨h0, h1⟩ | ⟨g, cap, cur, h0, hb, hg, h1, h2, h3, h4⟩
  · omega
  · simp only [Value.slice.injEq] at h0
    refine ⟨g, h0.1, (Array.getElem?_eq_some_iff.1 hg).1, fun u hu => ?_⟩
    rw [hg] at hu
    have hc : ∀ i, i < K.z → u.cell? ⟨g, j * K.z + i, none⟩ = (K.cs x)[i]? := fun i hi => by
      rw [cell_of_row _ _ _ _ _ _ hu, ← rl_at K hx hi, ← h4, List.getElem?_take, if_pos, Array.getElem?_toList]
      have : (j + 1) * K.z ≤ L.length * K.z := Nat.mul_le_mul_right _ hj
      rw [Nat.add_mul] at this
      omega
    refine ⟨fun i hi => ⟨hc i hi, frozen_of_row _ _ _ _ _ hu⟩, ?_⟩
    obtain ⟨i0, hi0, _, hz1, _⟩ := K.info_at
    obtain ⟨d, hd1, hd2⟩ := K.ue
    exact run_loadAt_mid u g (j * K.z) K.eT (K.cs x).toList d (fun i v hv => by
      have hi : i < K.z := by have := (List.getElem?_eq_some_iff.1 hv).1; rw [Array.length_toList, K.len] at this; exact this
      rw [hc i hi, ← hv, Array.getElem?_toList]) hd1 hd2 (by rw [hi0]; simp [hz1, K.len])

/-- An entry is laid behind it. -/
theorem append_one {w : World} (ty : TypeId) {B : Nat} {v : Value} {L : List α} (x : α) (b : Nat) {T : TypeId} (hv : Own K w B v L) (hb : w.heap[b]? = some (.cells (K.cs x) T)) (hB : B ≤ w.heap.size) (hbig : L.length + 1 ≤ 1073741824) :
    ∃ v' w', (Builtin.append_ #[K.sT, K.sT] ty #[v, .slice (some ⟨b, 0, none⟩) 1 1]).run Tryd.prog w = .ok v' w' ∧ Own K w' B v' (L ++ [x]) ∧ w.grownBy w' v.ownBlock ∧ Me.NwB v v' w.heap.size := by
  obtain ⟨i0, hi0, hz0, hz1, hz2⟩ := K.info_at
  have hbs := K.bp
  obtain ⟨v', w', hr, h5, h6, h7, -⟩ := Me.append_gen (P := Tryd.prog) w B K.sT ty K.eT i0 K.zero K.z K.bs K.us hi0 hz0 hz1 hz2 K.zs K.zp hbs.1 v L.length (rl K L) hv b 1 1 (K.cs x).toList (by rw [Array.length_toList, K.len, Nat.one_mul])
    (fun j u hj => by rw [cell_of_row _ _ _ _ _ _ hb]; simpa using hj) (fun u hu => by rw [← rl_one] at hu; exact rl_mem K hu) (by omega)
    (by have : (L.length + 1) * K.bs ≤ 1073741824 * 96 := Nat.mul_le_mul hbig hbs.2
        omega) hB
  refine ⟨v', w', hr, ?_, h6, h7⟩
  unfold Own
  rw [List.length_append, rl_app, rl_one]
  exact h5

theorem row_set {B g : Nat} {e : TypeId} {sz cap n : Nat} : ∀ (vs : List Value) (o : Nat) (w : World) (xs : List Value), w.ownsRow B e sz (.slice (some ⟨g, 0, none⟩) n cap) n xs → o + vs.length ≤ xs.length → (w.setCells g o vs).ownsRow B e sz (.slice (some ⟨g, 0, none⟩) n cap) n (xs.take o ++ vs ++ xs.drop (o + vs.length))
  | [], o, w, xs, h, _ => by simpa [World.setCells] using h
  | v :: vs, o, w, xs, h, hl => by
    have h1 := row_set vs (o + 1) (w.setCell ⟨g, o, none⟩ v) (xs.set o v) (Me.row_put h o v) (by rw [List.length_set]; simp at hl; omega)
    have e : (xs.set o v).take (o + 1) ++ vs ++ (xs.set o v).drop (o + 1 + vs.length) = xs.take o ++ (v :: vs) ++ xs.drop (o + (v :: vs).length) := by
      have ho : o < xs.length := by simp at hl; omega
      rw [List.set_eq_take_append_cons_drop, if_pos ho]
      have hl' : (xs.take o).length = o := by rw [List.length_take]; omega
      rw [List.take_append, hl', List.take_of_length_le (by rw [hl']; omega), show o + 1 - o = 1 by omega, List.take_succ_cons, List.take_zero, List.drop_append, hl', List.drop_of_length_le (by rw [hl']; omega), List.nil_append, show o + 1 + vs.length - o = vs.length + 1 by omega, List.drop_succ_cons, List.drop_drop, List.length_cons]
      simp only [List.append_assoc, List.cons_append, List.nil_append]
      congr 4
      omega
    rw [e] at h1
    exact h1
theorem setCells_heap {g : Nat} : ∀ (vs : List Value) (o : Nat) (w : World), (w.setCells g o vs).heap.size = w.heap.size ∧ Me.Keeps (fun k => k = g) w (w.setCells g o vs)
  | [], _, w => ⟨rfl, Me.Keeps.refl _ _⟩
  | v :: vs, o, w => by
    obtain ⟨h1, h2⟩ := setCells_heap vs (o + 1) (w.setCell ⟨g, o, none⟩ v)
    exact ⟨h1.trans (by simp [World.setCell]), (Me.Keeps.set (S := fun k => k = g) (Me.Keeps.refl _ _) ⟨g, o, none⟩ rfl v).trans h2⟩
/-- An entry is written in its place. -/
theorem Own.put {w : World} {B g n cap j : Nat} {L : List α} (h : Own K w B (.slice (some ⟨g, 0, none⟩) n cap) L) (hj : j < L.length) (x : α) :
    Own K (w.setCells g (j * K.z) (K.cs x).toList) B (.slice (some ⟨g, 0, none⟩) n cap) (L.set j x) := by
  have hn : n = L.length := by
    rcases h.2 with ⟨h0, _⟩ | ⟨g', cap', cur, h0, _⟩
    · cases h0
    · simp only [Value.slice.injEq] at h0; exact h0.2.1
  subst hn
  have hl : (K.cs x).toList.length = K.z := by rw [Array.length_toList, K.len]
  have h1 := row_set (K.cs x).toList (j * K.z) w (rl K L) h (by
    rw [rl_len, hl]
    have : (j + 1) * K.z ≤ L.length * K.z := Nat.mul_le_mul_right _ hj
    rw [Nat.add_mul] at this; omega)
  unfold Own
  rw [List.length_set, rl_set K x hj]
  rw [hl] at h1
  exact h1
/-- The cells of an entry's place may be written. -/
theorem Own.there {w : World} {B : Nat} {g n c : Nat} {L : List α} (h : Own K w B (.slice (some ⟨g, 0, none⟩) n c) L) {j : Nat} (hj : j < L.length) : w.there g (j * K.z) K.z := fun i hi => by
  obtain ⟨g', e, _, hu⟩ := h.at (List.getElem?_eq_getElem hj)
  simp only [Option.some.injEq, Addr.mk.injEq, and_true] at e
  subst e
  obtain ⟨h1, h2⟩ := (hu w rfl).1 i hi
  refine ⟨?_, h2⟩
  rw [h1]
  simp [Array.getElem?_eq_getElem (show i < (K.cs L[j]).size by rw [K.len]; exact hi)]

/-- append(l[:i], l[i+1:]...): the entry at i is out. -/
theorem erase_run {w : World} (ty : TypeId) {B g n cap i : Nat} {L : List α} {A : Addr} (hv : Own K w B (.slice (some ⟨g, 0, none⟩) n cap) L) (hi : i < L.length) (hn : n = L.length) (hA : i + 1 < n → A = ⟨g, (i + 1) * K.z, none⟩) :
    ∃ w', (Builtin.append_ #[K.sT, K.sT] ty #[.slice (some ⟨g, 0, none⟩) i cap, .slice (some A) (n - (i + 1)) (cap - (i + 1))]).run Tryd.prog w = .ok (.slice (some ⟨g, 0, none⟩) (i + (n - (i + 1))) cap) w' ∧ Own K w' B (.slice (some ⟨g, 0, none⟩) (i + (n - (i + 1))) cap) (L.eraseIdx i) ∧ w.grownBy w' (some g) ∧ w'.heap.size = w.heap.size := by
  obtain ⟨i0, hi0, hz0, hz1, hz2⟩ := K.info_at
  rcases hv.2 with ⟨h0, _⟩ | ⟨g', cap', cur, h0, hbb, hg, h1, h2, h3, h4⟩
  · cases h0
  · simp only [Value.slice.injEq, Option.some.injEq, Addr.mk.injEq, and_true] at h0
    obtain ⟨rfl, -, rfl⟩ := h0
    have hcl : cur.toList.length = cap * K.z := by rw [Array.length_toList]; exact h3
    have hnl : (rl K (L.drop (i + 1))).length = (n - (i + 1)) * K.z := by rw [rl_len, List.length_drop, hn]
    have m1 : (i + 1) * K.z + (n - (i + 1)) * K.z = n * K.z := by rw [← Nat.add_mul]; congr 1; omega
    have m2 : n * K.z ≤ cap * K.z := Nat.mul_le_mul_right _ (by omega)
    have m3 : (i + 1) * K.z = i * K.z + K.z := by rw [Nat.add_mul]; omega
    have m4 : (i + (n - (i + 1))) * K.z = i * K.z + (n - (i + 1)) * K.z := Nat.add_mul ..
    have hsrc : ∀ j u, (rl K (L.drop (i + 1)))[j]? = some u → w.cell? (A.add j) = some u := fun j u hj => by
      have hjl := (List.getElem?_eq_some_iff.1 hj).1
      rw [hnl] at hjl
      have hin : i + 1 < n := by
        rcases Nat.lt_or_ge (i + 1) n with h | h
        · exact h
        · rw [Nat.sub_eq_zero_of_le h] at hjl; omega
      rw [hA hin, Addr.add_mid, cell_of_row _ _ _ _ _ _ hg]
      rw [rl_drop, List.getElem?_drop, ← h4, List.getElem?_take, if_pos (by rw [← hn]; omega)] at hj
      simpa using hj
    have hr := run_append_room (P := Tryd.prog) w K.sT ty K.eT i0 K.us hi0 g i cap cur hg A (n - (i + 1)) (cap - (i + 1)) (rl K (L.drop (i + 1))) (by rw [hz1]; exact hnl) hsrc (fun u hu => rl_mem K hu) (by omega) (by rw [hz1, hnl, h3]; omega)
    have hel : i + (n - (i + 1)) = (L.eraseIdx i).length := by rw [List.length_eraseIdx_of_lt hi]; omega
    refine ⟨_, hr, ?_, ⟨rfl, rfl, rfl, by simp [World.setRow], fun k hk hne => ?_⟩, by simp [World.setRow]⟩
    · unfold Own
      rw [hel]
      refine ⟨by rw [rl_len], .inr ⟨g, cap, _, rfl, hbb, by simp only [World.setRow, Array.getElem?_modify, if_true, hg, Option.map_some]; rfl, by omega, h2, ?_, ?_⟩⟩
      · simp only [List.size_toArray, List.length_append, List.length_take, List.length_drop, hcl, hz1, hnl]; omega
      · rw [hz1, List.eraseIdx_eq_take_drop_succ, rl_app, rl_take]
        have e1 : (cur.toList.take (i * K.z)) = (rl K L).take (i * K.z) := by rw [← h4, List.take_take]; congr 1; rw [← hn]; omega
        have e2 : ((rl K L).take (i * K.z)).length = i * K.z := by rw [List.length_take, rl_len, ← hn]; omega
        rw [e1, ← List.eraseIdx_eq_take_drop_succ, ← hel, m4, List.take_append_of_le_length (by simp only [List.length_append, e2, hnl]; omega)]
        rw [List.take_of_length_le (by simp only [List.length_append, e2, hnl]; omega)]
    · have : g ≠ k := fun e => hne (by rw [e])
      simp [World.setRow, Array.getElem?_modify, this]
end Rows


end Go.Proofs.YthpokoiclfbddaaDoor.Ow
