import Derived.Test.YtpdnnikkaojnkaaGreatYKC
import Derived.Test.YtpdnnikkaojnkaaGreatYXM1
import Derived.Deep.MidRow
import Derived.Deep.RegionLaw
import Derived.Deep.AppendLies
import Derived.StillTail
import Derived.StillTailTactics
namespace Go.Proofs.YtpdnnikkaojnkaaGreat.Rt
open Go.Proofs.YtpdnnikkaojnkaaGreat Go.ChangeShapes Go.WideShapes Go.ChangeAt Go.RowKit Go.Maps Tri N
set_option maxHeartbeats 2000000
set_option maxRecDepth 100000
structure Rk (α : Type) where
 eT : TypeId
 sT : TypeId
 z : Nat
 bs : Nat
 cs : α -> Array Value
 zero : Value
 len : ∀ x, (cs x).size = z
 one : ∀ x, (cs x).all (·.oneCell') = true
 zp : 0 < z
 bp : 0 < bs /\ bs <= 64
 us : Tryz.prog.underlying sT = some (.slice eT)
 el : Tryz.prog.elem sT = eT
 info : (Tryz.prog.info? eT).map (fun i => (i.zero, i.size, i.bytes)) = some (some zero, z, bs)
 zs : zero.cells.size = z
 ue : ∃ d, Tryz.prog.underlying eT = some d /\ d.isRow = true
section Rows
variable {α : Type} (K : Rk α)
def rl (L : List α) : List Value := L.flatMap fun x => (K.cs x).toList
theorem rl_cons (x : α) (L : List α) : rl K (x :: L) = (K.cs x).toList ++ rl K L := by unfold rl; rw [List.flatMap_cons]
theorem rl_app (A B : List α) : rl K (A ++ B) = rl K A ++ rl K B := by unfold rl; rw [List.flatMap_append]
theorem rl_one (x : α) : rl K [x] = (K.cs x).toList := by unfold rl; simp
theorem rl_len (L : List α) : (rl K L).length = L.length * K.z := by
 induction L with
 | nil => simp [rl]
 | cons x L ih => rw [rl_cons, List.length_append, ih, Array.length_toList, K.len, List.length_cons, Nat.add_mul]; omega
theorem rl_take (L : List α) (i : Nat) : rl K (L.take i) = (rl K L).take (i * K.z) := by
 induction L generalizing i with
 | nil => simp [rl]
 | cons x L ih =>
  cases i with
  | zero => simp [rl]
  | succ i =>
   have hl : (K.cs x).toList.length = K.z := by rw [Array.length_toList, K.len]
   have e : (K.cs x).toList.take ((i + 1) * K.z) = (K.cs x).toList := List.take_of_length_le (by rw [hl, Nat.add_mul]; omega)
   have e2 : (i + 1) * K.z - K.z = i * K.z := by rw [Nat.add_mul]; omega
   rw [List.take_succ_cons, rl_cons, rl_cons, ih, List.take_append, hl, e, e2]
theorem rl_drop (L : List α) (i : Nat) : rl K (L.drop i) = (rl K L).drop (i * K.z) := by
 induction L generalizing i with
 | nil => simp [rl]
 | cons x L ih =>
  cases i with
  | zero => simp
  | succ i =>
   have hl : (K.cs x).toList.length = K.z := by rw [Array.length_toList, K.len]
   have e : (K.cs x).toList.drop ((i + 1) * K.z) = [] := List.drop_of_length_le (by rw [hl, Nat.add_mul]; omega)
   have e2 : (i + 1) * K.z - K.z = i * K.z := by rw [Nat.add_mul]; omega
   rw [List.drop_succ_cons, rl_cons, ih, List.drop_append, hl, e, e2, List.nil_append]
theorem rl_at {L : List α} {j : Nat} {x : α} (h : L[j]? = some x) {c : Nat} (hc : c < K.z) : (rl K L)[j * K.z + c]? = (K.cs x)[c]? := by
 have h1 : (rl K L).drop (j * K.z) = (K.cs x).toList ++ rl K (L.drop (j + 1)) := by
  rw [<- rl_drop, <- rl_cons]
  congr 1
  obtain ⟨hj, rfl⟩ := List.getElem?_eq_some_iff.1 h
  exact List.drop_eq_getElem_cons hj
 have h2 : (rl K L)[j * K.z + c]? = ((rl K L).drop (j * K.z))[c]? := by rw [List.getElem?_drop]
 rw [h2, h1, List.getElem?_append_left (by rw [Array.length_toList, K.len]; exact hc), Array.getElem?_toList]
theorem rl_mem {L : List α} {v : Value} (h : v ∈ rl K L) : v.oneCell' = true := by
 unfold rl at h
 obtain ⟨x, _, hx⟩ := List.mem_flatMap.1 h
 have := K.one x
 rw [Array.all_eq_true_iff_forall_mem] at this
 exact this v (by simpa using hx)
theorem rl_set {L : List α} {j : Nat} (x : α) (hj : j < L.length) : rl K (L.set j x) = (rl K L).take (j * K.z) ++ (K.cs x).toList ++ (rl K L).drop (j * K.z + K.z) := by
 rw [List.set_eq_take_append_cons_drop, if_pos hj, rl_app, rl_cons, rl_take, rl_drop, List.append_assoc, Nat.add_mul, Nat.one_mul]
theorem Rk.info_at : ∃ i, Tryz.prog.info? K.eT = some i /\ i.zero = some K.zero /\ i.size = K.z /\ i.bytes = K.bs := by
 have h := K.info
 cases hq : Tryz.prog.info? K.eT with
 | none => rw [hq] at h; cases h
 | some i =>
  rw [hq] at h
  simp at h
  exact ⟨i, rfl, h.1, h.2.1, h.2.2⟩
def Own (w : World) (B : Nat) (v : Value) (L : List α) : Prop := w.ownsRow B K.eT K.z v L.length (rl K L)
variable {K}
theorem Own.nil (w : World) (B : Nat) : Own K w B (.slice none 0 0) ([] : List α) := ⟨by simp [rl], .inl ⟨rfl, rfl⟩⟩
theorem Own.keeps {S : Nat -> Prop} {w w' : World} {B : Nat} {v : Value} {L : List α} (h : Own K w B v L) (hk : Me.Keeps S w w') (hn : ∀ k, v.ownBlock = some k -> ¬ S k) : Own K w' B v L := Me.row_keeps h hk hn
theorem Own.below {w w' : World} {B : Nat} {v : Value} {L : List α} (h : Own K w B v L) (hb : Below w.heap.size w w') : Own K w' B v L := Me.row_below h hb
theorem Own.low {w : World} {B B' : Nat} {v : Value} {L : List α} (h : Own K w B v L) (hb : B' <= B) : Own K w B' v L := Me.row_low h hb
theorem Own.lt {w : World} {B : Nat} {v : Value} {L : List α} (h : Own K w B v L) {k : Nat} (hk : v.ownBlock = some k) : B <= k /\ k < w.heap.size := World.ownsRow.lt h k hk
theorem Own.kind {w : World} {B : Nat} {v : Value} {L : List α} (h : Own K w B v L) {k : Nat} (hk : v.ownBlock = some k) : ∃ cs, w.heap[k]? = some (.cells cs K.eT (0, 0)) := Me.row_kind h hk
theorem Own.shape {w : World} {B : Nat} {v : Value} {L : List α} (h : Own K w B v L) : ∃ a n c, v = .slice a n c /\ Hid (n = L.length) /\ n <= c /\ c <= maxLen := by
 rcases h.2 with ⟨rfl, h0⟩ | ⟨g, cap, cur, rfl, hb, hg, h1, h2, _⟩
 ·exact ⟨none, 0, 0, rfl, h0.symm, nL, by decide⟩
 ·exact ⟨_, _, cap, rfl, rfl, h1, h2⟩
theorem Own.at {w : World} {B : Nat} {a : Option Addr} {n c : Nat} {L : List α} (h : Own K w B (.slice a n c) L) {j : Nat} {x : α} (hx : L[j]? = some x) :
  ∃ g, a = some ⟨g, 0, none⟩ /\ g < w.heap.size /\ ∀ u : World, u.heap[g]? = w.heap[g]? -> (∀ i, i < K.z -> u.cell? ⟨g, j * K.z + i, none⟩ = (K.cs x)[i]? /\ u.frozen? ⟨g, j * K.z + i, none⟩ = false) /\ (Instr.loadAt K.eT (.pointer (some ⟨g, j * K.z, none⟩))).run Tryz.prog u = .ok (.agg (K.cs x)) u := by
 have hj := (List.getElem?_eq_some_iff.1 hx).1
 rcases h.2 with ⟨h0, h1⟩ | ⟨g, cap, cur, h0, hb, hg, h1, h2, h3, h4⟩
 ·omega
 ·simp only [Value.slice.injEq] at h0
  refine ⟨g, h0.1, (gsl hg), fun u hu => ?_⟩
  rw [hg] at hu
  have hc : ∀ i, i < K.z -> u.cell? ⟨g, j * K.z + i, none⟩ = (K.cs x)[i]? := fun i hi => by
   rw [cell_of_row _ _ _ _ _ _ hu, <- rl_at K hx hi, <- h4, List.getElem?_take, if_pos, Array.getElem?_toList]
   have : (j + 1) * K.z <= L.length * K.z := Nat.mul_le_mul_right _ hj
   rw [Nat.add_mul] at this
   omega
  refine ⟨fun i hi => ⟨hc i hi, frozen_of_row _ _ _ _ _ hu⟩, ?_⟩
  obtain ⟨i0, hi0, _, hz1, _⟩ := K.info_at
  obtain ⟨d, hd1, hd2⟩ := K.ue
  exact run_loadAt_mid u g (j * K.z) K.eT (K.cs x).toList d (fun i v hv => by
   have hi : i < K.z := by have := (List.getElem?_eq_some_iff.1 hv).1; rw [Array.length_toList, K.len] at this; exact this
   rw [hc i hi, <- hv, Array.getElem?_toList]) hd1 hd2 (by rw [hi0]; simp [hz1, K.len])
theorem append_one {w : World} (ty : TypeId) {B : Nat} {v : Value} {L : List α} (x : α) (b : Nat) {T : TypeId} (hv : Own K w B v L) (hb : w.heap[b]? = some (.cells (K.cs x) T)) (hB : B <= w.heap.size) (hbig : L.length + 1 <= 1073741824) :
  ∃ v' w', (Builtin.append_ #[K.sT, K.sT] ty #[v, .slice (some ⟨b, 0, none⟩) 1 1]).run Tryz.prog w = .ok v' w' /\ Own K w' B v' (L ++ [x]) /\ w.grownBy w' v.ownBlock /\ Me.NwB v v' w.heap.size := by
 obtain ⟨i0, hi0, hz0, hz1, hz2⟩ := K.info_at
 have hbs := K.bp
 obtain ⟨v', w', hr, h5, h6, h7, -⟩ := Me.append_gen (P := Tryz.prog) w B K.sT ty K.eT i0 K.zero K.z K.bs K.us hi0 hz0 hz1 hz2 K.zs K.zp hbs.1 v L.length (rl K L) hv b 1 1 (K.cs x).toList (by rw [Array.length_toList, K.len, Nat.one_mul])
  (fun j u hj => by rw [cell_of_row _ _ _ _ _ _ hb]; simpa using hj) (fun u hu => by rw [<- rl_one] at hu; exact rl_mem K hu) (by omega)
  (by have : (L.length + 1) * K.bs <= 1073741824 * 64 := Nat.mul_le_mul hbig hbs.2
      omega) hB
 refine ⟨v', w', hr, ?_, h6, h7⟩
 unfold Own
 rw [List.length_append, rl_app, rl_one]
 exact h5
theorem row_set {B g : Nat} {e : TypeId} {sz cap n : Nat} : ∀ (vs : List Value) (o : Nat) (w : World) (xs : List Value), w.ownsRow B e sz (.slice (some ⟨g, 0, none⟩) n cap) n xs -> o + vs.length <= xs.length -> (w.setCells g o vs).ownsRow B e sz (.slice (some ⟨g, 0, none⟩) n cap) n (xs.take o ++ vs ++ xs.drop (o + vs.length))
 | [], o, w, xs, h, _ => by simpa [World.setCells] using h
 | v :: vs, o, w, xs, h, hl => by
  have h1 := row_set vs (o + 1) (w.setCell ⟨g, o, none⟩ v) (xs.set o v) (Me.row_put h o v) (by rw [List.length_set]; simp at hl; omega)
  have e : (xs.set o v).take (o + 1) ++ vs ++ (xs.set o v).drop (o + 1 + vs.length) = xs.take o ++ (v :: vs) ++ xs.drop (o + (v :: vs).length) := by
   have ho : o < xs.length := by simp at hl; omega
   rw [List.set_eq_take_append_cons_drop, if_pos ho]
   have hl' : (xs.take o).length = o := by rw [List.length_take]; omega
   rw [List.take_append, hl', List.take_of_length_le (by rw [hl']; omega), show o + 1 - o = 1 by omega, List.take_succ_cons, List.take_zero, List.drop_append, hl', List.drop_of_length_le (by rw [hl']; omega), List.nil_append, show o + 1 + vs.length - o = vs.length + 1 by omega, List.drop_succ_cons, List.drop_drop, List.length_cons]
   simp only [List.append_assoc, List.cons_append, List.nil_append]
   congr 4
   omega
  rw [e] at h1
  exact h1
theorem setCells_heap {g : Nat} : ∀ (vs : List Value) (o : Nat) (w : World), (w.setCells g o vs).heap.size = w.heap.size /\ Me.Keeps (fun k => k = g) w (w.setCells g o vs)
 | [], _, w => ⟨rfl, Me.Keeps.refl _ _⟩
 | v :: vs, o, w => by
  obtain ⟨h1, h2⟩ := setCells_heap vs (o + 1) (w.setCell ⟨g, o, none⟩ v)
  exact ⟨h1.trans (by simp [World.setCell]), (Me.Keeps.set (S := fun k => k = g) (Me.Keeps.refl _ _) ⟨g, o, none⟩ rfl v).trans h2⟩
theorem Own.put {w : World} {B g n cap j : Nat} {L : List α} (h : Own K w B (.slice (some ⟨g, 0, none⟩) n cap) L) (hj : j < L.length) (x : α) :
  Own K (w.setCells g (j * K.z) (K.cs x).toList) B (.slice (some ⟨g, 0, none⟩) n cap) (L.set j x) := by
 have hn : n = L.length := by
  rcases h.2 with ⟨h0, _⟩ | ⟨g', cap', cur, h0, _⟩
  ·cases h0
  ·simp only [Value.slice.injEq] at h0; exact h0.2.1
 subst hn
 have hl : (K.cs x).toList.length = K.z := by rw [Array.length_toList, K.len]
 have h1 := row_set (K.cs x).toList (j * K.z) w (rl K L) h (by
  rw [rl_len, hl]
  have : (j + 1) * K.z <= L.length * K.z := Nat.mul_le_mul_right _ hj
  rw [Nat.add_mul] at this; omega)
 unfold Own
 rw [List.length_set, rl_set K x hj]
 rw [hl] at h1
 exact h1
theorem Own.there {w : World} {B : Nat} {g n c : Nat} {L : List α} (h : Own K w B (.slice (some ⟨g, 0, none⟩) n c) L) {j : Nat} (hj : j < L.length) : w.there g (j * K.z) K.z := fun i hi => by
 obtain ⟨g', e, _, hu⟩ := h.at (List.getElem?_eq_getElem hj)
 simp only [Option.some.injEq, Addr.mk.injEq, and_true] at e
 subst e
 obtain ⟨h1, h2⟩ := (hu w rfl).1 i hi
 refine ⟨?_, h2⟩
 rw [h1]
 simp [Array.getElem?_eq_getElem (show i < (K.cs L[j]).size by rw [K.len]; exact hi)]
theorem erase_run {w : World} (ty : TypeId) {B g n cap i : Nat} {L : List α} {A : Addr} (hv : Own K w B (.slice (some ⟨g, 0, none⟩) n cap) L) (hi : i < L.length) (hn : n = L.length) (hA : i + 1 < n -> A = ⟨g, (i + 1) * K.z, none⟩) :
  ∃ w', (Builtin.append_ #[K.sT, K.sT] ty #[.slice (some ⟨g, 0, none⟩) i cap, .slice (some A) (n - (i + 1)) (cap - (i + 1))]).run Tryz.prog w = .ok (.slice (some ⟨g, 0, none⟩) (i + (n - (i + 1))) cap) w' /\ Own K w' B (.slice (some ⟨g, 0, none⟩) (i + (n - (i + 1))) cap) (L.eraseIdx i) /\ w.grownBy w' (some g) /\ w'.heap.size = w.heap.size := by
 obtain ⟨i0, hi0, hz0, hz1, hz2⟩ := K.info_at
 rcases hv.2 with ⟨h0, _⟩ | ⟨g', cap', cur, h0, hbb, hg, h1, h2, h3, h4⟩
 ·cases h0
 ·simp only [Value.slice.injEq, Option.some.injEq, Addr.mk.injEq, and_true] at h0
  obtain ⟨rfl, -, rfl⟩ := h0
  have hcl : cur.toList.length = cap * K.z := by rw [Array.length_toList]; exact h3
  have hnl : (rl K (L.drop (i + 1))).length = (n - (i + 1)) * K.z := by rw [rl_len, List.length_drop, hn]
  have m1 : (i + 1) * K.z + (n - (i + 1)) * K.z = n * K.z := by rw [<- Nat.add_mul]; congr 1; omega
  have m2 : n * K.z <= cap * K.z := Nat.mul_le_mul_right _ (by omega)
  have m3 : (i + 1) * K.z = i * K.z + K.z := by rw [Nat.add_mul]; omega
  have m4 : (i + (n - (i + 1))) * K.z = i * K.z + (n - (i + 1)) * K.z := Nat.add_mul ..
  have hsrc : ∀ j u, (rl K (L.drop (i + 1)))[j]? = some u -> w.cell? (A.add j) = some u := fun j u hj => by
   have hjl := (List.getElem?_eq_some_iff.1 hj).1
   rw [hnl] at hjl
   have hin : i + 1 < n := by
    rcases Nat.lt_or_ge (i + 1) n with h | h
    ·exact h
    ·rw [Nat.sub_eq_zero_of_le h] at hjl; omega
   rw [hA hin, Addr.add_mid, cell_of_row _ _ _ _ _ _ hg]
   rw [rl_drop, List.getElem?_drop, <- h4, List.getElem?_take, if_pos (by rw [<- hn]; omega)] at hj
   simpa using hj
  have hr := run_append_room (P := Tryz.prog) w K.sT ty K.eT i0 K.us hi0 g i cap cur hg A (n - (i + 1)) (cap - (i + 1)) (rl K (L.drop (i + 1))) (by rw [hz1]; exact hnl) hsrc (fun u hu => rl_mem K hu) (by omega) (by rw [hz1, hnl, h3]; omega)
  have hel : i + (n - (i + 1)) = (L.eraseIdx i).length := by rw [List.length_eraseIdx_of_lt hi]; omega
  refine ⟨_, hr, ?_, ⟨rfl, rfl, rfl, by simp [World.setRow], fun k hk hne => ?_⟩, by simp [World.setRow]⟩
  ·unfold Own
   rw [hel]
   refine ⟨by rw [rl_len], .inr ⟨g, cap, _, rfl, hbb, by simp only [World.setRow, Array.getElem?_modify, if_true, hg, Option.map_some]; rfl, by omega, h2, ?_, ?_⟩⟩
   ·simp only [List.size_toArray, List.length_append, List.length_take, List.length_drop, hcl, hz1, hnl]; omega
   ·rw [hz1, List.eraseIdx_eq_take_drop_succ, rl_app, rl_take]
    have e1 : (cur.toList.take (i * K.z)) = (rl K L).take (i * K.z) := by rw [<- h4, List.take_take]; congr 1; rw [<- hn]; omega
    have e2 : ((rl K L).take (i * K.z)).length = i * K.z := by rw [List.length_take, rl_len, <- hn]; omega
    rw [e1, <- List.eraseIdx_eq_take_drop_succ, <- hel, m4, List.take_append_of_le_length (by simp only [List.length_append, e2, hnl]; omega)]
    rw [List.take_of_length_le (by simp only [List.length_append, e2, hnl]; omega)]
  ·have : g ≠ k := fun e => hne (by rw [e])
   simp [World.setRow, Array.getElem?_modify, this]
end Rows
@[reducible] def kR : Rk Vt where
 eT := 38
 sT := 47
 z := 4
 bs := 24
 cs := Tri.Vt.cells
 zero := .agg #[.int .u32 0, .int .i64 0, .int .u32 0, .bool false]
 len x := rfl
 one x := one_cells x
 zp := by decide
 bp := by decide
 us := by kernel_rfl
 el := by kernel_rfl
 info := by kernel_rfl
 zs := rfl
 ue := ⟨_, Tryz.underlying38, rfl⟩
@[reducible] def kN : Rk Nb where
 eT := 42
 sT := 48
 z := 7
 bs := 12
 cs := Nb.cells
 zero := .agg #[.int .u32 0, .int .u8 0, .int .u8 0, .int .u8 0, .int .u8 0, .int .u8 0, .int .u8 0]
 len x := rfl
 one x := one_cells x
 zp := by decide
 bp := by decide
 us := by kernel_rfl
 el := by kernel_rfl
 info := by kernel_rfl
 zs := rfl
 ue := ⟨_, Tryz.underlying42, rfl⟩
@[reducible] def kF : Rk Fd where
 eT := 44
 sT := 49
 z := 7
 bs := 12
 cs := Fd.cells
 zero := .agg #[.int .u8 0, .int .u8 0, .int .u8 0, .int .u8 0, .int .u8 0, .int .u8 0, .int .u32 0]
 len x := rfl
 one x := one_cells x
 zp := by decide
 bp := by decide
 us := by kernel_rfl
 el := by kernel_rfl
 info := by kernel_rfl
 zs := rfl
 ue := ⟨_, Tryz.underlying44, rfl⟩
structure Vs where
 r : Value
 n : Value
 f : Value
def rkC (v : Vs) (s : Ks) : Array Value := #[v.r, v.n, v.f, .int .i64 (s.cr : Int), .int .i64 (s.cn : Int), .int .i64 (s.cf : Int)]
structure Rf (w : World) (m : Nat) (v : Vs) (s : Ks) : Prop where
 row : w.heap[m]? = some (.cells (rkC v s) 142)
 r : Own kR w 0 v.r s.R
 n : Own kN w 0 v.n s.N
 f : Own kF w 0 v.f s.F
 ok : s.Ok
def fpR (m : Nat) (v : Vs) (k : Nat) : Prop := k = m \/ v.r.ownBlock = some k \/ v.n.ownBlock = some k \/ v.f.ownBlock = some k
theorem Rf.kinds {w : World} {m : Nat} {v : Vs} {s : Ks} (h : Rf w m v s) {k : Nat} (hk : fpR m v k) : ∃ cs T, w.heap[k]? = some (.cells cs T (0, 0)) /\ (T = 142 \/ T = 38 \/ T = 42 \/ T = 44) := by
 rcases hk with rfl | hk | hk | hk
 ·exact ⟨_, _, h.row, .inl rfl⟩
 ·obtain ⟨cs, hc⟩ := h.r.kind hk
  exact ⟨cs, _, hc, .inr (.inl rfl)⟩
 ·obtain ⟨cs, hc⟩ := h.n.kind hk
  exact ⟨cs, _, hc, .inr (.inr (.inl rfl))⟩
 ·obtain ⟨cs, hc⟩ := h.f.kind hk
  exact ⟨cs, _, hc, .inr (.inr (.inr rfl))⟩
theorem Rf.lt {w : World} {m : Nat} {v : Vs} {s : Ks} (h : Rf w m v s) {k : Nat} (hk : fpR m v k) : k < w.heap.size := by
 obtain ⟨_, _, hc, _⟩ := h.kinds hk
 exact (gsl hc)
theorem Rf.keeps {S : Nat -> Prop} {w w' : World} {m : Nat} {v : Vs} {s : Ks} (h : Rf w m v s) (hk : Me.Keeps S w w') (hn : ∀ k, fpR m v k -> ¬ S k) : Rf w' m v s :=
 ⟨(hk.block m (h.lt (.inl rfl)) (hn m (.inl rfl))).trans h.row, h.r.keeps hk fun k e => hn k (.inr (.inl e)), h.n.keeps hk fun k e => hn k (.inr (.inr (.inl e))), h.f.keeps hk fun k e => hn k (.inr (.inr (.inr e))), h.ok⟩
theorem Rf.below {w w' : World} {m : Nat} {v : Vs} {s : Ks} (h : Rf w m v s) (hb : Below w.heap.size w w') : Rf w' m v s := h.keeps (S := fun _ => False) (Me.Keeps.of hb) fun _ _ e => e
theorem Chg.keeps {X : Nat -> Prop} {w w' : World} (h : Chg X w w') : Me.Keeps X w w' := ⟨h.os, h.tape, h.output, h.size, h.block⟩
theorem keeps_chg {X : Nat -> Prop} {w w' : World} (h : Me.Keeps X w w') : Chg X w w' := ⟨h.os, h.tape, h.output, h.size, h.block⟩
theorem Rf.cells {w : World} {m : Nat} {v : Vs} {s : Ks} (h : Rf w m v s) : w.cell? ⟨m, 0, none⟩ = some v.r /\ w.cell? ⟨m, 1, none⟩ = some v.n /\ w.cell? ⟨m, 2, none⟩ = some v.f /\ w.cell? ⟨m, 3, none⟩ = some (.int .i64 (s.cr : Int)) /\ w.cell? ⟨m, 4, none⟩ = some (.int .i64 (s.cn : Int)) /\ w.cell? ⟨m, 5, none⟩ = some (.int .i64 (s.cf : Int)) := by
 refine ⟨?_, ?_, ?_, ?_, ?_, ?_⟩ <;> rw [cell_of_row _ _ _ _ _ _ h.row] <;> rfl
theorem Rf.frozen {w : World} {m : Nat} {v : Vs} {s : Ks} (h : Rf w m v s) (i : Nat) : w.frozen? ⟨m, i, none⟩ = false := frozen_of_row _ _ _ _ _ h.row
structure RTurn (w w' : World) (m : Nat) (v : Vs) (s' : Ks) (v' : Vs) : Prop where
 ref : Rf w' m v' s'
 new : ∀ k, fpR m v' k -> fpR m v k \/ w.heap.size <= k
 keeps : Me.Keeps (fpR m v) w w'
theorem RTurn.refl {w : World} {m : Nat} {v : Vs} {s : Ks} (h : Rf w m v s) : RTurn w w m v s v := ⟨h, fun _ h => .inl h, Me.Keeps.refl _ _⟩
theorem RTurn.same {w w' : World} {m : Nat} {v : Vs} {s : Ks} (h : Rf w m v s) (hb : Below w.heap.size w w') : RTurn w w' m v s v := ⟨h.below hb, fun _ h => .inl h, Me.Keeps.of hb⟩
theorem RTurn.trans {w w1 w2 : World} {m : Nat} {v v1 v2 : Vs} {s1 s2 : Ks} (h1 : RTurn w w1 m v s1 v1) (h2 : RTurn w1 w2 m v1 s2 v2) : RTurn w w2 m v s2 v2 := by
 have hz := h1.keeps.size
 refine ⟨h2.ref, fun k hk => ?_, ⟨h2.keeps.os.trans h1.keeps.os, h2.keeps.tape.trans h1.keeps.tape, h2.keeps.output.trans h1.keeps.output, Nat.le_trans hz h2.keeps.size, fun k hk hn => ?_⟩⟩
 ·rcases h2.new k hk with h | h
  ·exact h1.new k h
  ·exact .inr (Nat.le_trans hz h)
 ·refine (h2.keeps.block k (Nat.lt_of_lt_of_le hk hz) fun h => ?_).trans (h1.keeps.block k hk hn)
  rcases h1.new k h with h | h
  ·exact hn h
  ·omega
theorem RTurn.behind {w w1 w2 : World} {m : Nat} {v v1 : Vs} {s1 : Ks} (hb : Below w.heap.size w w1) (h : RTurn w1 w2 m v s1 v1) : RTurn w w2 m v s1 v1 :=
 ⟨h.ref, fun k hk => (h.new k hk).imp id fun h => Nat.le_trans hb.size h, (Me.Keeps.of hb).trans h.keeps⟩
theorem RTurn.then {w w1 w2 : World} {m : Nat} {v v1 : Vs} {s1 : Ks} (h : RTurn w w1 m v s1 v1) (hb : Below w1.heap.size w1 w2) : RTurn w w2 m v s1 v1 :=
 ⟨h.ref.below hb, h.new, h.keeps.trans (Me.Keeps.of hb)⟩
theorem ty_ne {w : World} {k : Nat} {cs cs' : Array Value} {T T' : TypeId} (h : w.heap[k]? = some (.cells cs T (0, 0))) (h' : w.heap[k]? = some (.cells cs' T' (0, 0))) (hne : T ≠ T') : False := by
 rw [h] at h'
 simp only [Option.some.injEq, Obj.cells.injEq] at h'
 exact hne h'.2.1
theorem Rf.apart {w : World} {m : Nat} {v : Vs} {s : Ks} (h : Rf w m v s) : v.r.ownBlock ≠ some m /\ v.n.ownBlock ≠ some m /\ v.f.ownBlock ≠ some m /\ (∀ k, v.r.ownBlock = some k -> v.n.ownBlock ≠ some k /\ v.f.ownBlock ≠ some k) /\ ∀ k, v.n.ownBlock = some k -> v.f.ownBlock ≠ some k := by
 refine ⟨fun e => ?_, fun e => ?_, fun e => ?_, fun k e => ⟨fun e' => ?_, fun e' => ?_⟩, fun k e e' => ?_⟩
 ·obtain ⟨cs, hc⟩ := h.r.kind e; exact ty_ne hc h.row (by decide)
 ·obtain ⟨cs, hc⟩ := h.n.kind e; exact ty_ne hc h.row (by decide)
 ·obtain ⟨cs, hc⟩ := h.f.kind e; exact ty_ne hc h.row (by decide)
 ·obtain ⟨cs, hc⟩ := h.r.kind e; obtain ⟨cs', hc'⟩ := h.n.kind e'; exact ty_ne hc hc' (by decide)
 ·obtain ⟨cs, hc⟩ := h.r.kind e; obtain ⟨cs', hc'⟩ := h.f.kind e'; exact ty_ne hc hc' (by decide)
 ·obtain ⟨cs, hc⟩ := h.n.kind e; obtain ⟨cs', hc'⟩ := h.f.kind e'; exact ty_ne hc hc' (by decide)
theorem Rf.storeR {w u : World} {m : Nat} {v : Vs} {s : Ks} {x : Value} {L : List Vt} (h : Rf w m v s) (hk : Me.Keeps (fun k => v.r.ownBlock = some k) w u) (ho : Own kR u 0 x L) (hn : Me.NwB v.r x w.heap.size) (ok : ({ s with R := L } : Ks).Ok) :
  RTurn w (u.setCell ⟨m, 0, none⟩ x) m v { s with R := L } { v with r := x } := by
 obtain ⟨a1, a2, a3, a4, a5⟩ := h.apart
 have hr : u.heap[m]? = some (.cells (rkC v s) 142) := (hk.block m (h.lt (.inl rfl)) a1).trans h.row
 have hks : Me.Keeps (fun k => k = m) u (u.setCell ⟨m, 0, none⟩ x) := Me.Keeps.set (S := fun k => k = m) (Me.Keeps.refl _ _) ⟨m, 0, none⟩ rfl _
 have hne : x.ownBlock ≠ some m := fun e => by
  obtain ⟨cs, hc⟩ := ho.kind e
  exact ty_ne hc hr (by decide)
 refine ⟨⟨?_, ho.keeps hks fun k e e' => hne (by rw [<- e']; exact e), (h.n.keeps hk fun k e e' => (a4 k e').1 e).keeps hks fun k e e' => a2 (by rw [<- e']; exact e), (h.f.keeps hk fun k e e' => (a4 k e').2 e).keeps hks fun k e e' => a3 (by rw [<- e']; exact e), ok⟩, ?_, ?_⟩
 ·rw [Me.set_cells hr]; rfl
 ·rintro k (rfl | e | e | e)
  ·exact .inl (.inl rfl)
  ·exact (hn k e).imp (fun e => .inr (.inl e)) id
  ·exact .inl (.inr (.inr (.inl e)))
  ·exact .inl (.inr (.inr (.inr e)))
 ·exact (hk.mono fun k _ e => .inr (.inl e)).trans (hks.mono fun k _ e => .inl e)
theorem Rf.storeN {w u : World} {m : Nat} {v : Vs} {s : Ks} {x : Value} {L : List Nb} (h : Rf w m v s) (hk : Me.Keeps (fun k => v.n.ownBlock = some k) w u) (ho : Own kN u 0 x L) (hn : Me.NwB v.n x w.heap.size) (ok : ({ s with N := L } : Ks).Ok) :
  RTurn w (u.setCell ⟨m, 1, none⟩ x) m v { s with N := L } { v with n := x } := by
 obtain ⟨a1, a2, a3, a4, a5⟩ := h.apart
 have hr : u.heap[m]? = some (.cells (rkC v s) 142) := (hk.block m (h.lt (.inl rfl)) a2).trans h.row
 have hks : Me.Keeps (fun k => k = m) u (u.setCell ⟨m, 1, none⟩ x) := Me.Keeps.set (S := fun k => k = m) (Me.Keeps.refl _ _) ⟨m, 1, none⟩ rfl _
 have hne : x.ownBlock ≠ some m := fun e => by
  obtain ⟨cs, hc⟩ := ho.kind e
  exact ty_ne hc hr (by decide)
 refine ⟨⟨?_, (h.r.keeps hk fun k e e' => (a4 k e).1 e').keeps hks fun k e e' => a1 (by rw [<- e']; exact e), ho.keeps hks fun k e e' => hne (by rw [<- e']; exact e), (h.f.keeps hk fun k e e' => a5 k e' e).keeps hks fun k e e' => a3 (by rw [<- e']; exact e), ok⟩, ?_, ?_⟩
 ·rw [Me.set_cells hr]; rfl
 ·rintro k (rfl | e | e | e)
  ·exact .inl (.inl rfl)
  ·exact .inl (.inr (.inl e))
  ·exact (hn k e).imp (fun e => .inr (.inr (.inl e))) id
  ·exact .inl (.inr (.inr (.inr e)))
 ·exact (hk.mono fun k _ e => .inr (.inr (.inl e))).trans (hks.mono fun k _ e => .inl e)
theorem Rf.storeF {w u : World} {m : Nat} {v : Vs} {s : Ks} {x : Value} {L : List Fd} (h : Rf w m v s) (hk : Me.Keeps (fun k => v.f.ownBlock = some k) w u) (ho : Own kF u 0 x L) (hn : Me.NwB v.f x w.heap.size) (ok : ({ s with F := L } : Ks).Ok) :
  RTurn w (u.setCell ⟨m, 2, none⟩ x) m v { s with F := L } { v with f := x } := by
 obtain ⟨a1, a2, a3, a4, a5⟩ := h.apart
 have hr : u.heap[m]? = some (.cells (rkC v s) 142) := (hk.block m (h.lt (.inl rfl)) a3).trans h.row
 have hks : Me.Keeps (fun k => k = m) u (u.setCell ⟨m, 2, none⟩ x) := Me.Keeps.set (S := fun k => k = m) (Me.Keeps.refl _ _) ⟨m, 2, none⟩ rfl _
 have hne : x.ownBlock ≠ some m := fun e => by
  obtain ⟨cs, hc⟩ := ho.kind e
  exact ty_ne hc hr (by decide)
 refine ⟨⟨?_, (h.r.keeps hk fun k e e' => (a4 k e).2 e').keeps hks fun k e e' => a1 (by rw [<- e']; exact e), (h.n.keeps hk fun k e e' => a5 k e e').keeps hks fun k e e' => a2 (by rw [<- e']; exact e), ho.keeps hks fun k e e' => hne (by rw [<- e']; exact e), ok⟩, ?_, ?_⟩
 ·rw [Me.set_cells hr]; rfl
 ·rintro k (rfl | e | e | e)
  ·exact .inl (.inl rfl)
  ·exact .inl (.inr (.inl e))
  ·exact .inl (.inr (.inr (.inl e)))
  ·exact (hn k e).imp (fun e => .inr (.inr (.inr e))) id
 ·exact (hk.mono fun k _ e => .inr (.inr (.inr e))).trans (hks.mono fun k _ e => .inl e)
theorem Rf.putR {w u : World} {m g n c : Nat} {v : Vs} {s : Ks} {L : List Vt} (h : Rf w m v s) (hv : v.r = .slice (some ⟨g, 0, none⟩) n c) (hk : Me.Keeps (fun k => k = g) w u) (ho : Own kR u 0 v.r L) (ok : ({ s with R := L } : Ks).Ok) :
  RTurn w u m v { s with R := L } v := by
 obtain ⟨a1, a2, a3, a4, a5⟩ := h.apart
 have hk' : Me.Keeps (fun k => v.r.ownBlock = some k) w u := hk.mono fun k _ e => by rw [hv, e]; rfl
 exact ⟨⟨(hk'.block m (h.lt (.inl rfl)) a1).trans h.row, ho, h.n.keeps hk' fun k e e' => (a4 k e').1 e, h.f.keeps hk' fun k e e' => (a4 k e').2 e, ok⟩, fun k hk => .inl hk, hk'.mono fun k _ e => .inr (.inl e)⟩
theorem Rf.putN {w u : World} {m g n c : Nat} {v : Vs} {s : Ks} {L : List Nb} (h : Rf w m v s) (hv : v.n = .slice (some ⟨g, 0, none⟩) n c) (hk : Me.Keeps (fun k => k = g) w u) (ho : Own kN u 0 v.n L) (ok : ({ s with N := L } : Ks).Ok) :
  RTurn w u m v { s with N := L } v := by
 obtain ⟨a1, a2, a3, a4, a5⟩ := h.apart
 have hk' : Me.Keeps (fun k => v.n.ownBlock = some k) w u := hk.mono fun k _ e => by rw [hv, e]; rfl
 exact ⟨⟨(hk'.block m (h.lt (.inl rfl)) a2).trans h.row, h.r.keeps hk' fun k e e' => (a4 k e).1 e', ho, h.f.keeps hk' fun k e e' => a5 k e' e, ok⟩, fun k hk => .inl hk, hk'.mono fun k _ e => .inr (.inr (.inl e))⟩
theorem Rf.putF {w u : World} {m g n c : Nat} {v : Vs} {s : Ks} {L : List Fd} (h : Rf w m v s) (hv : v.f = .slice (some ⟨g, 0, none⟩) n c) (hk : Me.Keeps (fun k => k = g) w u) (ho : Own kF u 0 v.f L) (ok : ({ s with F := L } : Ks).Ok) :
  RTurn w u m v { s with F := L } v := by
 obtain ⟨a1, a2, a3, a4, a5⟩ := h.apart
 have hk' : Me.Keeps (fun k => v.f.ownBlock = some k) w u := hk.mono fun k _ e => by rw [hv, e]; rfl
 exact ⟨⟨(hk'.block m (h.lt (.inl rfl)) a3).trans h.row, h.r.keeps hk' fun k e e' => (a4 k e).2 e', h.n.keeps hk' fun k e e' => a5 k e e', ho, ok⟩, fun k hk => .inl hk, hk'.mono fun k _ e => .inr (.inr (.inr e))⟩
def pz : Option Nat -> Int
 | none => -1
 | some i => (i : Int)
set_option maxHeartbeats 4000000
theorem int_lt {a b : Nat} (h : a < b) : (a : Int) < (b : Int) := by omega
theorem int_nlt {a b : Nat} (h : ¬ a < b) : ¬ (a : Int) < (b : Int) := by omega
theorem size9 (n : Nat) (w : World) (hn : n <= 32) :
  Calls Tryz.prog 81 #[.int .i64 (n : Int)] w fun e w' => e = .returned (.int .i64 ((2 ^ (32 - n) : Nat) : Int)) /\ w' = w := by
 go_enter Tryz.func81, Tryz.ntmps81
 go_upto_region 3 with fail
 go_loopw [3, 4] (fun a b wr => ∃ (k p : Nat), b = .int .i64 (k : Int) /\ a = .int .i64 (p : Int) /\ n <= k /\ k <= 32 /\ p <= 4294967296 /\ Hid (p = 2 ^ (k - n)) /\ wr = w) (fun _ b _ => 32 - (intOf b).toNat)
 case atStart => exact ⟨n, 1, rfl, rfl, nL, hn, by decide, hid (by simp), rfl⟩
 case round =>
  obtain ⟨k, p, rfl, rfl, h1, h2, h3, HP, rfl⟩ := hrel
  by_cases hk : k < 32
  ·have HP2 : Hid (2 * p = 2 ^ (k + 1 - n)) := by unfold Hid; rw [HP.out, show k + 1 - n = (k - n) + 1 by omega, Nat.pow_succ, Nat.mul_comm]
   have hp2 : 2 * p <= 4294967296 := by
    rw [HP2.out, show (4294967296 : Nat) = 2 ^ 32 by decide]
    exact Nat.pow_le_pow_right (by omega) (by omega)
   go_wp2_with fail
   go_roundw
   case rel => exact ⟨k + 1, 2 * p, by go_num, by go_num, by omega, by omega, hp2, HP2, trivial⟩
   case measure => simp [intOf]; omega
  ·have : k = 32 := by omega
   subst this
   go_wp2_with fail
   go_ret
   exact ⟨ret_int (by rw [HP.out]), rfl⟩
theorem valid9 {x : Nat} {y : Int} (w : World) (hx : x < 4294967296) :
  Calls Tryz.prog 94 #[.agg #[.int .u32 (x : Int), .int .i64 y]] w fun e w' => e = .returned (.bool (valB x y)) /\ Below w.heap.size w w' := by
 obtain ⟨wa, hwa⟩ : ∃ wa, wa = w.alloc (.cells #[.int .u32 (x : Int), .int .i64 y] 36) := ⟨_, rfl⟩
 have hb0 : Below w.heap.size w wa := by rw [hwa]; exact bR.alloc nL _
 have r1 : wa.heap[w.heap.size]? = some (.cells #[.int .u32 (x : Int), .int .i64 y] 36) := by rw [hwa]; exact heap_alloc_new w _
 obtain ⟨q0, q1⟩ := Beh.two r1
 have p0 := q0 ⟨wa, bR⟩
 have p1 := q1 ⟨wa, bR⟩
 simp only at p0 p1
 have HWA := hid hwa
 have HB0 := hid hb0
 clear hwa r1 hb0
 by_cases h1 : y < 0
 ·have HF : Hid (valB x y = false) := by unfold Hid valB; rw [decide_eq_false_iff_not]; omega
  clear q0 q1
  go_enter Tryz.func94, Tryz.ntmps94
  go_upto_region 1 with fail
  rw [<- HWA.out]
  go_wp2_with fail
  go_ret
  exact ⟨ret_bool HF.out.symm, HB0.out⟩
 ·by_cases h2 : 32 < y
  ·have HF : Hid (valB x y = false) := by unfold Hid valB; rw [decide_eq_false_iff_not]; omega
   clear q0 q1
   go_enter Tryz.func94, Tryz.ntmps94
   go_upto_region 1 with fail
   rw [<- HWA.out]
   go_wp2_with fail
   go_ret
   exact ⟨ret_bool HF.out.symm, HB0.out⟩
  ·obtain ⟨n, hn⟩ : ∃ n : Nat, y = (n : Int) := ⟨y.toNat, by omega⟩
   subst hn
   have hn32 : n <= 32 := by omega
   have h2' : (n : Int) <= 32 := by omega
   have hp := pow_le32 n
   have hS : ∀ t : Beh wa, Hid (Calls Tryz.prog 81 #[.int .i64 (n : Int)] t.wd fun e w'' => e = .returned (.int .i64 ((2 ^ (32 - n) : Nat) : Int)) /\ ∃ t' : Beh wa, w'' = t'.wd) := fun t => (size9 n t.wd hn32).mono fun e w'' ⟨he, hw⟩ => ⟨he, t, hw⟩
   have hpos : 0 < 2 ^ (32 - n) := Nat.pow_pos (by omega)
   have HF : Hid (valB x (n : Int) = ((x : Int) % ((2 ^ (32 - n) : Nat) : Int) == 0)) := by
    unfold Hid valB
    rw [<- Int.natCast_emod, Int.toNat_natCast, Bool.eq_iff_iff, decide_eq_true_eq, beq_iff_eq]
    constructor
    ·rintro ⟨_, _, h⟩; rw [h]; rfl
    ·intro h; exact ⟨by omega, h2', by exact_mod_cast h⟩
   generalize 2 ^ (32 - n) = S at *
   have hS0 : ¬ ((S : Int) = 0) := by omega
   have hS1 : ((S : Int) == 0) = false := by simp; omega
   go_enter Tryz.func94, Tryz.ntmps94
   go_upto_region 1 with fail
   rw [<- HWA.out]
   go_upto_region 3 with fail
   refine wp_region_beh (by kernel_rfl) (by kernel_rfl) ?_
   repeat (go_big_quiet_step (first | (go_at_call 81; exact (hS _).out)))
   refine wpQuiet_nil ?_
   rintro _ ⟨t, rfl⟩
   go_wp2_with fail
   go_ret
   exact ⟨ret_bool HF.out.symm, HB0.out.trans (t.ok.mono HB0.out.size)⟩
theorem holds9 {p : K} (a : Nat) (w : World) (hp : p.Ok) (ha : a < 4294967296) :
  Calls Tryz.prog 65 #[.agg #[.int .u32 (p.x : Int), .int .i64 (p.n : Int)], .int .u32 (a : Int)] w fun e w' => e = .returned (.bool (hasK p a)) /\ Below w.heap.size w w' := by
 obtain ⟨wa, hwa⟩ : ∃ wa, wa = w.alloc (.cells #[.int .u32 (p.x : Int), .int .i64 (p.n : Int)] 36) := ⟨_, rfl⟩
 have hb0 : Below w.heap.size w wa := by rw [hwa]; exact bR.alloc nL _
 have r1 : wa.heap[w.heap.size]? = some (.cells #[.int .u32 (p.x : Int), .int .i64 (p.n : Int)] 36) := by rw [hwa]; exact heap_alloc_new w _
 obtain ⟨q0, q1⟩ := Beh.two r1
 have HWA := hid hwa
 have HB0 := hid hb0
 have hx := hp.2.2
 have hS : ∀ t : Beh wa, Hid (Calls Tryz.prog 81 #[.int .i64 (p.n : Int)] t.wd fun e w'' => e = .returned (.int .i64 ((2 ^ (32 - p.n) : Nat) : Int)) /\ ∃ t' : Beh wa, w'' = t'.wd) := fun t => (size9 p.n t.wd hp.1).mono fun e w'' ⟨he, hw⟩ => ⟨he, t, hw⟩
 have hle := pow_le32 p.n
 have HH : Hid (hasK p a = (decide (p.x <= a) && decide (a < p.x + 2 ^ (32 - p.n)))) := by
  unfold Hid hasK K.s
  rw [Bool.eq_iff_iff]
  simp
 clear hwa r1 hb0 hp
 generalize hasK p a = R at *
 generalize 2 ^ (32 - p.n) = S at *
 generalize p.x = px at *
 generalize p.n = pn at *
 by_cases h1 : px <= a
 ·have h1' : (px : Int) <= (a : Int) := by omega
  have HF : Hid (R = decide ((a : Int) < (px : Int) + (S : Int))) := by
   unfold Hid
   rw [HH.out, Bool.eq_iff_iff]
   simp [h1]
   omega
  clear HH h1
  go_enter Tryz.func65, Tryz.ntmps65
  go_upto_region 1 with fail
  rw [<- HWA.out]
  refine wp_region_beh (by kernel_rfl) (by kernel_rfl) ?_
  repeat (go_big_quiet_step (first | (go_at_call 81; exact (hS _).out)))
  refine wpQuiet_nil ?_
  rintro _ ⟨t, rfl⟩
  go_wp2_with fail
  go_ret
  exact ⟨ret_bool HF.out.symm, HB0.out.trans (t.ok.mono HB0.out.size)⟩
 ·have h1' : ¬ (px : Int) <= (a : Int) := by omega
  have HF : Hid (R = false) := by
   unfold Hid
   rw [HH.out]
   simp [h1]
  clear HH h1
  go_enter Tryz.func65, Tryz.ntmps65
  go_upto_region 1 with fail
  rw [<- HWA.out]
  refine wp_region_beh (by kernel_rfl) (by kernel_rfl) ?_
  repeat (go_big_quiet_step (first | (go_at_call 81; exact (hS _).out)))
  refine wpQuiet_nil ?_
  rintro _ ⟨t, rfl⟩
  go_wp2_with fail
  go_ret
  exact ⟨ret_bool HF.out.symm, HB0.out.trans (t.ok.mono HB0.out.size)⟩
theorem atR {w : World} {B : Nat} {a : Option Addr} {n c : Nat} {L : List Vt} (h : Own kR w B (.slice a n c) L) {j : Nat} {e : Vt} (hx : L[j]? = some e) :
  ∃ g, a = some ⟨g, 0, none⟩ /\ g < w.heap.size /\ ∀ u : World, u.heap[g]? = w.heap[g]? -> u.cell? ⟨g, j * 4, none⟩ = some (.int .u32 (e.x : Int)) /\ u.cell? ⟨g, j * 4 + 1, none⟩ = some (.int .i64 e.n) /\ u.cell? ⟨g, j * 4 + 2, none⟩ = some (.int .u32 (e.via : Int)) /\ u.cell? ⟨g, j * 4 + 3, none⟩ = some (.bool e.loc) /\ (Instr.loadAt 38 (.pointer (some ⟨g, j * 4, none⟩))).run Tryz.prog u = .ok (.agg e.cells) u := by
 obtain ⟨g, h1, h2, h3⟩ := h.at hx
 refine ⟨g, h1, h2, fun u hu => ?_⟩
 obtain ⟨h4, h5⟩ := h3 u hu
 exact ⟨(h4 0 (by decide)).1, (h4 1 (by decide)).1, (h4 2 (by decide)).1, (h4 3 (by decide)).1, h5⟩
theorem load_mc {u : World} {g o : Nat} {m : Mc} (h0 : u.cell? ⟨g, o, none⟩ = some (.int .u8 (m.b0 : Int))) (h1 : u.cell? ⟨g, o + 1, none⟩ = some (.int .u8 (m.b1 : Int))) (h2 : u.cell? ⟨g, o + 2, none⟩ = some (.int .u8 (m.b2 : Int))) (h3 : u.cell? ⟨g, o + 3, none⟩ = some (.int .u8 (m.b3 : Int))) (h4 : u.cell? ⟨g, o + 4, none⟩ = some (.int .u8 (m.b4 : Int))) (h5 : u.cell? ⟨g, o + 5, none⟩ = some (.int .u8 (m.b5 : Int))) :
  (Instr.loadAt 40 (.pointer (some ⟨g, o, none⟩))).run Tryz.prog u = .ok m.v u :=
 run_loadAt_mid u g o 40 [.int .u8 (m.b0 : Int), .int .u8 (m.b1 : Int), .int .u8 (m.b2 : Int), .int .u8 (m.b3 : Int), .int .u8 (m.b4 : Int), .int .u8 (m.b5 : Int)] _ (fun i v hv => by
  match i, hv with
  | 0, hv => cases hv; exact h0
  | 1, hv => cases hv; exact h1
  | 2, hv => cases hv; exact h2
  | 3, hv => cases hv; exact h3
  | 4, hv => cases hv; exact h4
  | 5, hv => cases hv; exact h5
  | i + 6, hv => cases hv) uM rfl (by kernel_rfl)
theorem atN {w : World} {B : Nat} {a : Option Addr} {n c : Nat} {L : List Nb} (h : Own kN w B (.slice a n c) L) {j : Nat} {e : Nb} (hx : L[j]? = some e) :
  ∃ g, a = some ⟨g, 0, none⟩ /\ g < w.heap.size /\ ∀ u : World, u.heap[g]? = w.heap[g]? -> u.cell? ⟨g, j * 7, none⟩ = some (.int .u32 (e.ip : Int)) /\ (Instr.loadAt 40 (.pointer (some ⟨g, j * 7 + 1, none⟩))).run Tryz.prog u = .ok e.mac.v u /\ (Instr.loadAt 42 (.pointer (some ⟨g, j * 7, none⟩))).run Tryz.prog u = .ok (.agg e.cells) u := by
 obtain ⟨g, h1, h2, h3⟩ := h.at hx
 refine ⟨g, h1, h2, fun u hu => ?_⟩
 obtain ⟨h4, h5⟩ := h3 u hu
 exact ⟨(h4 0 (by decide)).1, load_mc (h4 1 (by decide)).1 (h4 2 (by decide)).1 (h4 3 (by decide)).1 (h4 4 (by decide)).1 (h4 5 (by decide)).1 (h4 6 (by decide)).1, h5⟩
theorem atF {w : World} {B : Nat} {a : Option Addr} {n c : Nat} {L : List Fd} (h : Own kF w B (.slice a n c) L) {j : Nat} {e : Fd} (hx : L[j]? = some e) :
  ∃ g, a = some ⟨g, 0, none⟩ /\ g < w.heap.size /\ ∀ u : World, u.heap[g]? = w.heap[g]? -> u.cell? ⟨g, j * 7 + 6, none⟩ = some (.int .u32 (e.dest : Int)) /\ (Instr.loadAt 40 (.pointer (some ⟨g, j * 7, none⟩))).run Tryz.prog u = .ok e.mac.v u /\ (Instr.loadAt 44 (.pointer (some ⟨g, j * 7, none⟩))).run Tryz.prog u = .ok (.agg e.cells) u := by
 obtain ⟨g, h1, h2, h3⟩ := h.at hx
 refine ⟨g, h1, h2, fun u hu => ?_⟩
 obtain ⟨h4, h5⟩ := h3 u hu
 exact ⟨(h4 6 (by decide)).1, load_mc (h4 0 (by decide)).1 (h4 1 (by decide)).1 (h4 2 (by decide)).1 (h4 3 (by decide)).1 (h4 4 (by decide)).1 (h4 5 (by decide)).1, h5⟩
theorem ix_stop {α κ : Type} [DecidableEq κ] {key : α -> κ} {L : List α} {k : κ} {j : Nat} {e : α} (h : ∀ i x, i < j -> L[i]? = some x -> key x ≠ k) (he : L[j]? = some e) (hk : key e = k) : pz (ix key L k) = (j : Int) := by
 rw [ix_of he hk h]; rfl
theorem ix_end {α κ : Type} [DecidableEq κ] {key : α -> κ} {L : List α} {k : κ} {j : Nat} (h : ∀ i x, i < j -> L[i]? = some x -> key x ≠ k) (hj : L.length <= j) : pz (ix key L k) = -1 := by
 rw [ix_of_none fun e he => ?_]
 ·rfl
 ·obtain ⟨i, hi, rfl⟩ := List.mem_iff_getElem.1 he
  exact h i _ (by omega) (List.getElem?_eq_getElem hi)
theorem ahead_more {α κ : Type} {key : α -> κ} {L : List α} {k : κ} {j : Nat} {e : α} (h : ∀ i x, i < j -> L[i]? = some x -> key x ≠ k) (he : L[j]? = some e) (hk : key e ≠ k) : ∀ i x, i < j + 1 -> L[i]? = some x -> key x ≠ k := fun i x hi hx => by
 by_cases e1 : i = j
 ·subst e1; rw [he] at hx; cases hx; exact hk
 ·exact h i x (by omega) hx
theorem neighAt_any (w : World) {m : Nat} {v : Vs} {s : Ks} (a : Nat) (h : Rf w m v s) :
  Calls Tryz.prog 66 #[.pointer (some ⟨m, 0, none⟩), .int .u32 (a : Int)] w fun e w' => e = .returned (.int .i64 (pz (ix Nb.ip s.N a))) /\ w' = w := by
 obtain ⟨av, nv, cv, hv, HN, hnc, -⟩ := h.n.shape
 obtain ⟨-, c1, -⟩ := h.cells
 have ho := h.n
 rw [hv] at c1 ho
 have HO := hid ho
 have hle : nv <= 256 := by have := h.ok.nl; have := HN.out; omega
 obtain ⟨P, HP⟩ : ∃ P, Hid (P = pz (ix Nb.ip s.N a)) := ⟨_, rfl⟩
 rw [<- HP.out]
 clear h ho hv
 go_enter Tryz.func66, Tryz.ntmps66
 go_upto_region 2 with fail
 go_loopw [5] (fun i wr => ∃ j : Nat, i = .int .i64 (j : Int) /\ j <= nv /\ Hid (∀ i x, i < j -> s.N[i]? = some x -> x.ip ≠ a) /\ wr = w) (fun i _ => nv - (intOf i).toNat)
 case atStart => exact ⟨0, rfl, Nat.zero_le _, fun i x hi => absurd hi (by omega), rfl⟩
 case round =>
  obtain ⟨j, rfl, hj, HI, rfl⟩ := hrel
  by_cases hlt : j < nv
  ·have hlt' : (j : Int) < (nv : Int) := int_lt hlt
   have hj0 : decide ((j : Int) < 0) = false := by simp
   obtain ⟨e, HX⟩ : ∃ e, Hid (s.N[j]? = some e) := ⟨_, hid (List.getElem?_eq_getElem (by have := HN.out; omega))⟩
   obtain ⟨g, rfl, hg, hcl⟩ := atN HO.out HX.out
   have d0 := (hcl wr rfl).1
   clear hcl hg
   by_cases hk : e.ip = a
   ·have HE : Hid (P = (j : Int)) := by unfold Hid; rw [HP.out]; exact ix_stop HI.out HX.out hk
    have hk' : (e.ip : Int) = (a : Int) := by omega
    clear hk
    go_wp2_with fail
    go_ret
    exact ⟨ret_int HE.out.symm, rfl⟩
   ·have HI2 : Hid (∀ i x, i < j + 1 -> s.N[i]? = some x -> x.ip ≠ a) := ahead_more HI.out HX.out hk
    have hk' : ¬ (e.ip : Int) = (a : Int) := by omega
    clear hk
    go_wp2_with fail
    go_roundw
    case rel => exact ⟨j + 1, by go_num, hlt, HI2, trivial⟩
    case measure => simp [intOf]; omega
  ·have hlt' : ¬ (j : Int) < (nv : Int) := int_nlt hlt
   have HE : Hid (P = -1) := by unfold Hid; rw [HP.out]; exact ix_end HI.out (by have := HN.out; omega)
   go_wp2_with fail
   go_ret
   exact ⟨ret_int HE.out.symm, rfl⟩
theorem routeAt_any (w : World) {m : Nat} {v : Vs} {s : Ks} (x : Nat) (y : Int) (h : Rf w m v s) :
  Calls Tryz.prog 95 #[.pointer (some ⟨m, 0, none⟩), .agg #[.int .u32 (x : Int), .int .i64 y]] w fun e w' => e = .returned (.int .i64 (pz (ix Tri.Vt.key s.R (x, y)))) /\ Below w.heap.size w w' := by
 obtain ⟨av, nv, cv, hv, HN, hnc, -⟩ := h.r.shape
 obtain ⟨w1, HW1⟩ : ∃ w1, Hid (w1 = w.alloc (.cells #[.int .u32 (x : Int), .int .i64 y] 36)) := ⟨_, rfl⟩
 have hb1 : Below w.heap.size w w1 := by rw [HW1.out]; exact bR.alloc nL _
 have r1 : w1.heap[w.heap.size]? = some (.cells #[.int .u32 (x : Int), .int .i64 y] 36) := by rw [HW1.out]; exact heap_alloc_new w _
 have hz1 : w.heap.size < w1.heap.size := (gsl r1)
 obtain ⟨q0, q1⟩ := Beh.two r1
 have h1 := h.below hb1
 have c0 : ∀ t : Beh w1, t.wd.cell? ⟨m, 0, none⟩ = some (.slice av nv cv) := fun t => by rw [<- hv]; exact (h1.below t.ok).cells.1
 have HO : Hid (Own kR w1 0 (.slice av nv cv) s.R) := by rw [<- hv]; exact h1.r
 have HB1 := hid hb1
 have hle : nv <= 256 := by have := h.ok.rl; have := HN.out; omega
 obtain ⟨P, HP⟩ : ∃ P, Hid (P = pz (ix Tri.Vt.key s.R (x, y))) := ⟨_, rfl⟩
 rw [<- HP.out]
 clear h h1 hv hb1 r1 hz1
 go_enter Tryz.func95, Tryz.ntmps95
 go_upto_region 1 with fail
 rw [<- HW1.out]
 go_upto_region 2 with fail
 go_loopw [5] (fun i wr => ∃ (j : Nat) (t : Beh w1), i = .int .i64 (j : Int) /\ j <= nv /\ Hid (∀ i x', i < j -> s.R[i]? = some x' -> x'.key ≠ (x, y)) /\ wr = t.wd) (fun i _ => nv - (intOf i).toNat)
 case atStart => exact ⟨0, ⟨w1, bR⟩, rfl, Nat.zero_le _, fun i x hi => absurd hi (by omega), rfl⟩
 case round =>
  obtain ⟨j, t, rfl, hj, HI, rfl⟩ := hrel
  have c00 := c0 t
  by_cases hlt : j < nv
  ·have hlt' : (j : Int) < (nv : Int) := int_lt hlt
   have hj0 : decide ((j : Int) < 0) = false := by simp
   have hj1 : (0 : Int) <= (j : Int) := by omega
   obtain ⟨e, HX⟩ : ∃ e, Hid (s.R[j]? = some e) := ⟨_, hid (List.getElem?_eq_getElem (by have := HN.out; omega))⟩
   obtain ⟨g, rfl, hg, hcl⟩ := atR HO.out HX.out
   have k1 : ∀ t2 : Beh t.wd, t2.wd.cell? ⟨g, j * 4, none⟩ = some (.int .u32 (e.x : Int)) := fun t2 => (hcl t2.wd ((t.ok.trans (t2.ok.mono t.ok.size)).block g hg)).1
   have k2 : ∀ t2 : Beh t.wd, t2.wd.cell? ⟨g, j * 4 + 1, none⟩ = some (.int .i64 e.n) := fun t2 => (hcl t2.wd ((t.ok.trans (t2.ok.mono t.ok.size)).block g hg)).2.1
   have k0 : ∀ t2 : Beh t.wd, t2.wd.cell? ⟨m, 0, none⟩ = some (.slice (some ⟨g, 0, none⟩) nv cv) := fun t2 => c0 ⟨t2.wd, t.ok.trans (t2.ok.mono t.ok.size)⟩
   have k3 : ∀ t2 : Beh t.wd, t2.wd.cell? ⟨w.heap.size, 0, none⟩ = some (.int .u32 (x : Int)) := fun t2 => q0 ⟨t2.wd, t.ok.trans (t2.ok.mono t.ok.size)⟩
   have k4 : ∀ t2 : Beh t.wd, t2.wd.cell? ⟨w.heap.size, 1, none⟩ = some (.int .i64 y) := fun t2 => q1 ⟨t2.wd, t.ok.trans (t2.ok.mono t.ok.size)⟩
   have HC0 := hid c0
   have HQ0 := hid q0
   have HQ1 := hid q1
   clear hcl hg c0 q0 q1
   by_cases hk1 : e.x = x
   ·have hk1' : (e.x : Int) = (x : Int) := by omega
    by_cases hk2 : e.n = y
    ·have HE : Hid (P = (j : Int)) := by unfold Hid; rw [HP.out]; exact ix_stop HI.out HX.out (by unfold Tri.Vt.key; rw [hk1, hk2])
     clear hk1
     go_upto_region 4 with fail
     refine wp_region_beh (by kernel_rfl) (by kernel_rfl) ?_
     repeat (go_big_quiet_step (fail))
     refine wpQuiet_nil ?_
     rintro _ ⟨t2, rfl⟩
     clear k0 k1 k2 k3 k4 c00
     go_wp2_with fail
     go_ret
     exact ⟨ret_int HE.out.symm, HB1.out.trans ((t.ok.trans (t2.ok.mono t.ok.size)).mono HB1.out.size)⟩
    ·have HI2 : Hid (∀ i x', i < j + 1 -> s.R[i]? = some x' -> x'.key ≠ (x, y)) := ahead_more HI.out HX.out (fun e' => hk2 (by unfold Tri.Vt.key at e'; exact (Prod.mk.inj e').2))
     clear hk1
     go_upto_region 4 with fail
     refine wp_region_beh (by kernel_rfl) (by kernel_rfl) ?_
     repeat (go_big_quiet_step (fail))
     refine wpQuiet_nil ?_
     rintro _ ⟨t2, rfl⟩
     clear k0 k1 k2 k3 k4 c00
     go_wp2_with fail
     go_roundw
     case rel => exact ⟨j + 1, ⟨t2.wd, t.ok.trans (t2.ok.mono t.ok.size)⟩, by go_num, hlt, HI2, rfl⟩
     case measure => simp [intOf]; omega
   ·have hk1' : ((e.x : Int) == (x : Int)) = false := by rw [beq_eq_false_iff_ne]; omega
    have HI2 : Hid (∀ i x', i < j + 1 -> s.R[i]? = some x' -> x'.key ≠ (x, y)) := ahead_more HI.out HX.out (fun e' => hk1 (by unfold Tri.Vt.key at e'; exact (Prod.mk.inj e').1))
    clear hk1
    go_upto_region 4 with fail
    refine wp_region_beh (by kernel_rfl) (by kernel_rfl) ?_
    repeat (go_big_quiet_step (fail))
    refine wpQuiet_nil ?_
    rintro _ ⟨t2, rfl⟩
    clear k0 k1 k2 k3 k4 c00
    go_wp2_with fail
    go_roundw
    case rel => exact ⟨j + 1, ⟨t2.wd, t.ok.trans (t2.ok.mono t.ok.size)⟩, by go_num, hlt, HI2, rfl⟩
    case measure => simp [intOf]; omega
  ·have hlt' : ¬ (j : Int) < (nv : Int) := int_nlt hlt
   have HE : Hid (P = -1) := by unfold Hid; rw [HP.out]; exact ix_end HI.out (by have := HN.out; omega)
   have HT : Hid (Below w.heap.size w t.wd) := HB1.out.trans (t.ok.mono HB1.out.size)
   clear c0 q0 q1
   go_wp2_with fail
   go_ret
   exact ⟨ret_int HE.out.symm, HT.out⟩
def cpL : List Nat -> List Nat -> Int
 | x :: l, y :: m => if x = y then cpL l m else (x : Int) - (y : Int)
 | _, _ => 0
def cpM (a b : Mc) : Int := cpL a.L b.L
theorem cpL_zero : ∀ {l m : List Nat}, l.length = m.length -> (cpL l m = 0 ↔ l = m)
 | [], [], _ => by simp [cpL]
 | [], _ :: _, h => by simp at h
 | _ :: _, [], h => by simp at h
 | x :: l, y :: m, h => by
  unfold cpL
  split
  ·rename_i e
   rw [cpL_zero (by simpa using h), e]
   simp
  ·rename_i e
   constructor
   ·intro h'; exact absurd (by omega) e
   ·intro h'; exact absurd (List.cons.inj h').1 e
theorem wtL_lt9 : ∀ {l : List Nat}, (∀ x ∈ l, x < 256) -> wtL l < 256 ^ l.length
 | [], _ => by simp [wtL]
 | x :: l, h => by
  have h1 := wtL_lt9 (l := l) fun y hy => h y (List.mem_cons_of_mem _ hy)
  have h2 := h x List.mem_cons_self
  unfold wtL
  rw [List.length_cons, Nat.pow_succ]
  have : x * 256 ^ l.length <= 255 * 256 ^ l.length := Nat.mul_le_mul_right _ (by omega)
  omega
theorem cpL_neg : ∀ {l m : List Nat}, l.length = m.length -> (∀ x ∈ l, x < 256) -> (∀ x ∈ m, x < 256) -> (cpL l m < 0 ↔ wtL l < wtL m)
 | [], [], _, _, _ => by simp [cpL, wtL]
 | [], _ :: _, h, _, _ => by simp at h
 | _ :: _, [], h, _, _ => by simp at h
 | x :: l, y :: m, h, hl, hm => by
  have hlen : l.length = m.length := by simpa using h
  have h1 := wtL_lt9 (l := l) fun z hz => hl z (List.mem_cons_of_mem _ hz)
  have h2 := wtL_lt9 (l := m) fun z hz => hm z (List.mem_cons_of_mem _ hz)
  unfold cpL
  split
  ·rename_i e
   rw [cpL_neg hlen (fun z hz => hl z (List.mem_cons_of_mem _ hz)) (fun z hz => hm z (List.mem_cons_of_mem _ hz))]
   simp only [wtL]
   rw [e, hlen]
   omega
  ·rename_i e
   unfold wtL
   rw [hlen] at h1 ⊢
   generalize 256 ^ m.length = q at *
   rcases Nat.lt_trichotomy x y with h' | h' | h'
   ·have : (x + 1) * q <= y * q := Nat.mul_le_mul_right _ h'
    rw [Nat.add_mul] at this
    omega
   ·exact absurd h' e
   ·have : (y + 1) * q <= x * q := Nat.mul_le_mul_right _ h'
    rw [Nat.add_mul] at this
    omega
theorem Mc.L_inj {a b : Mc} (h : a.L = b.L) : a = b := by
 cases a; cases b
 simp [Mc.L] at h
 simp [h]
theorem cpM_zero {a b : Mc} : cpM a b = 0 ↔ a = b := by
 unfold cpM
 rw [cpL_zero (by rfl)]
 exact ⟨Mc.L_inj, fun e => by rw [e]⟩
theorem cpM_neg {a b : Mc} (ha : a.Ok) (hb : b.Ok) : cpM a b < 0 ↔ a.num < b.num := cpL_neg rfl ha hb
def Mc.cells (m : Mc) : Array Value := #[.int .u8 (m.b0 : Int), .int .u8 (m.b1 : Int), .int .u8 (m.b2 : Int), .int .u8 (m.b3 : Int), .int .u8 (m.b4 : Int), .int .u8 (m.b5 : Int)]
theorem Mc.cells_at {m : Mc} {j x : Nat} (h : m.L[j]? = some x) : m.cells[j]? = some (.int .u8 (x : Int)) := by
 match j, h with
 | 0, h => cases h; rfl
 | 1, h => cases h; rfl
 | 2, h => cases h; rfl
 | 3, h => cases h; rfl
 | 4, h => cases h; rfl
 | 5, h => cases h; rfl
 | j + 6, h => cases h
theorem compare9 (a b : Mc) (w : World) (ha : a.Ok) (hb : b.Ok) :
  Calls Tryz.prog 69 #[.agg #[.int .u8 (a.b0 : Int), .int .u8 (a.b1 : Int), .int .u8 (a.b2 : Int), .int .u8 (a.b3 : Int), .int .u8 (a.b4 : Int), .int .u8 (a.b5 : Int)], .agg #[.int .u8 (b.b0 : Int), .int .u8 (b.b1 : Int), .int .u8 (b.b2 : Int), .int .u8 (b.b3 : Int), .int .u8 (b.b4 : Int), .int .u8 (b.b5 : Int)]] w fun e w' => e = .returned (.int .i64 (cpM a b)) /\ Below w.heap.size w w' := by
 obtain ⟨w1, hw1⟩ : ∃ w1, w1 = w.alloc (.cells a.cells 40) := ⟨_, rfl⟩
 obtain ⟨w2, hw2⟩ : ∃ w2, w2 = w1.alloc (.cells b.cells 40) := ⟨_, rfl⟩
 have hb1 : Below w.heap.size w w1 := by rw [hw1]; exact bR.alloc nL _
 have hb2 : Below w1.heap.size w1 w2 := by rw [hw2]; exact bR.alloc nL _
 have hs1 : w1.heap.size = w.heap.size + 1 := by rw [hw1]; simp
 have r1 : w1.heap[w.heap.size]? = some (.cells a.cells 40) := by rw [hw1]; exact heap_alloc_new w _
 have r2 : w2.heap[w.heap.size + 1]? = some (.cells b.cells 40) := by rw [hw2, <- hs1]; exact heap_alloc_new w1 _
 have r3 : w2.heap[w.heap.size]? = some (.cells a.cells 40) := below_keeps hb2 r1 (by omega)
 have HB : Hid (Below w.heap.size w w2) := hb1.trans (hb2.mono (by omega))
 have HW2 : Hid (w2 = (w.alloc (.cells #[.int .u8 (a.b0 : Int), .int .u8 (a.b1 : Int), .int .u8 (a.b2 : Int), .int .u8 (a.b3 : Int), .int .u8 (a.b4 : Int), .int .u8 (a.b5 : Int)] 40)).alloc (.cells #[.int .u8 (b.b0 : Int), .int .u8 (b.b1 : Int), .int .u8 (b.b2 : Int), .int .u8 (b.b3 : Int), .int .u8 (b.b4 : Int), .int .u8 (b.b5 : Int)] 40)) := by unfold Hid; rw [hw2, hw1]; rfl
 have HA : Hid (∀ (j x : Nat) (t : Beh w2), a.L[j]? = some x -> t.wd.cell? ⟨w.heap.size, j, none⟩ = some (.int .u8 (x : Int))) := fun j x t hj => by
  rw [cell_of_row _ _ _ _ _ _ (below_keeps t.ok r3 (gsl r3))]
  exact Mc.cells_at hj
 have HBB : Hid (∀ (j x : Nat) (t : Beh w2), b.L[j]? = some x -> t.wd.cell? ⟨w.heap.size + 1, j, none⟩ = some (.int .u8 (x : Int))) := fun j x t hj => by
  rw [cell_of_row _ _ _ _ _ _ (below_keeps t.ok r2 (gsl r2))]
  exact Mc.cells_at hj
 obtain ⟨P, HP⟩ : ∃ P, Hid (P = cpL a.L b.L) := ⟨_, rfl⟩
 have HOA : Hid (∀ x ∈ a.L, x < 256) := ha
 have HOB : Hid (∀ x ∈ b.L, x < 256) := hb
 unfold cpM
 rw [<- HP.out]
 have HLA : Hid (a.L.length = 6) := rfl
 have HLB : Hid (b.L.length = 6) := rfl
 clear hw1 hw2 hb1 hb2 hs1 r1 r2 r3 ha hb
 go_enter Tryz.func69, Tryz.ntmps69
 go_upto_region 1 with fail
 rw [<- HW2.out]
 clear HW2
 generalize a.L = LA at *
 generalize b.L = LB at *
 go_upto_region 2 with fail
 go_loopw [5] (fun i wr => ∃ (j : Nat) (t : Beh w2), i = .int .i64 (j : Int) /\ j <= 6 /\ Hid (P = cpL (LA.drop j) (LB.drop j)) /\ wr = t.wd) (fun i _ => 6 - (intOf i).toNat)
 case atStart => exact ⟨0, ⟨w2, bR⟩, rfl, Nat.zero_le _, HP.out, rfl⟩
 case round =>
  obtain ⟨j, t, rfl, hj, HI, rfl⟩ := hrel
  by_cases hlt : j < 6
  ·have hlt' : (j : Int) < 6 := by omega
   have hj0 : decide ((j : Int) < 0) = false := by simp
   have hj1 : (0 : Int) <= (j : Int) := by omega
   obtain ⟨x, HX⟩ : ∃ x, Hid (LA[j]? = some x) := ⟨_, hid (List.getElem?_eq_getElem (by rw [HLA.out]; exact hlt))⟩
   obtain ⟨y, HY⟩ : ∃ y, Hid (LB[j]? = some y) := ⟨_, hid (List.getElem?_eq_getElem (by rw [HLB.out]; exact hlt))⟩
   have hx : x < 256 := HOA.out x (List.mem_of_getElem? HX.out)
   have hy : y < 256 := HOB.out y (List.mem_of_getElem? HY.out)
   have k1 : ∀ t2 : Beh t.wd, t2.wd.cell? ⟨w.heap.size, j, none⟩ = some (.int .u8 (x : Int)) := fun t2 => HA.out j x ⟨t2.wd, t.ok.trans (t2.ok.mono t.ok.size)⟩ HX.out
   have k2 : ∀ t2 : Beh t.wd, t2.wd.cell? ⟨w.heap.size + 1, j, none⟩ = some (.int .u8 (y : Int)) := fun t2 => HBB.out j y ⟨t2.wd, t.ok.trans (t2.ok.mono t.ok.size)⟩ HY.out
   have HDA : Hid (LA.drop j = x :: LA.drop (j + 1)) := by
    obtain ⟨h1, h2⟩ := List.getElem?_eq_some_iff.1 HX.out
    unfold Hid; rw [List.drop_eq_getElem_cons h1, h2]
   have HDB : Hid (LB.drop j = y :: LB.drop (j + 1)) := by
    obtain ⟨h1, h2⟩ := List.getElem?_eq_some_iff.1 HY.out
    unfold Hid; rw [List.drop_eq_getElem_cons h1, h2]
   have HI1 : Hid (P = if x = y then cpL (LA.drop (j + 1)) (LB.drop (j + 1)) else (x : Int) - (y : Int)) := by
    unfold Hid; rw [HI.out, HDA.out, HDB.out]; rfl
   by_cases hxy : x = y
   ·have hxy' : (x : Int) = (y : Int) := by omega
    have HI2 : Hid (P = cpL (LA.drop (j + 1)) (LB.drop (j + 1))) := by unfold Hid; rw [HI1.out, if_pos hxy]
    clear hxy HI1 HI
    go_upto_region 4 with fail
    refine wp_region_beh (by kernel_rfl) (by kernel_rfl) ?_
    repeat (go_big_quiet_step (fail))
    refine wpQuiet_nil ?_
    rintro _ ⟨t2, rfl⟩
    clear k1 k2
    go_wp2_with fail
    go_roundw
    case rel => exact ⟨j + 1, ⟨t2.wd, t.ok.trans (t2.ok.mono t.ok.size)⟩, by go_num, hlt, HI2, rfl⟩
    case measure => simp [intOf]; omega
   ·have hxy' : ¬ (x : Int) = (y : Int) := by omega
    have HI2 : Hid (P = (x : Int) - (y : Int)) := by unfold Hid; rw [HI1.out, if_neg hxy]
    have hwr : IntKind.i64.wrap ((x : Int) - (y : Int)) = (x : Int) - (y : Int) := by rw [IntKind.wrap_i64]; omega
    clear hxy HI1 HI
    go_upto_region 4 with fail
    refine wp_region_beh (by kernel_rfl) (by kernel_rfl) ?_
    repeat (go_big_quiet_step (fail))
    refine wpQuiet_nil ?_
    rintro _ ⟨t2, rfl⟩
    have k3 : ∀ t3 : Beh t2.wd, t3.wd.cell? ⟨w.heap.size, j, none⟩ = some (.int .u8 (x : Int)) := fun t3 => k1 ⟨t3.wd, t2.ok.trans (t3.ok.mono t2.ok.size)⟩
    have k4 : ∀ t3 : Beh t2.wd, t3.wd.cell? ⟨w.heap.size + 1, j, none⟩ = some (.int .u8 (y : Int)) := fun t3 => k2 ⟨t3.wd, t2.ok.trans (t3.ok.mono t2.ok.size)⟩
    clear k1 k2
    go_upto_region 5 with fail
    refine wp_region_beh (by kernel_rfl) (by kernel_rfl) ?_
    repeat (go_big_quiet_step (fail))
    refine wpQuiet_nil ?_
    rintro _ ⟨t3, rfl⟩
    clear k3 k4
    go_wp2_with fail
    go_ret
    exact ⟨ret_int HI2.out.symm, HB.out.trans ((t.ok.trans ((t2.ok.trans (t3.ok.mono t2.ok.size)).mono t.ok.size)).mono HB.out.size)⟩
  ·have hlt' : ¬ (j : Int) < 6 := by omega
   have HE : Hid (P = 0) := by
    have e1 : LA.drop j = [] := List.drop_eq_nil_of_le (by rw [HLA.out]; omega)
    unfold Hid; rw [HI.out, e1]; rfl
   have HT : Hid (Below w.heap.size w t.wd) := HB.out.trans (t.ok.mono HB.out.size)
   go_wp2_with fail
   go_ret
   exact ⟨ret_int HE.out.symm, HT.out⟩
def ahB (a b : Vt) : Bool := if a.x = b.x then decide (a.n < b.n) else decide (a.x < b.x)
theorem ahB_num {a b : Vt} (ha : a.Ok) (hb : b.Ok) : ahB a b = decide (a.num < b.num) := by
 unfold ahB
 rw [Bool.eq_iff_iff, decide_eq_true_eq, Vt_num_lt ha hb]
 split
 ·rw [decide_eq_true_eq]; omega
 ·rw [decide_eq_true_eq]; omega
theorem ahead9 (a b : Vt) (w : World) :
  Calls Tryz.prog 68 #[.agg #[.int .u32 (a.x : Int), .int .i64 a.n, .int .u32 (a.via : Int), .bool a.loc], .agg #[.int .u32 (b.x : Int), .int .i64 b.n, .int .u32 (b.via : Int), .bool b.loc]] w fun e w' => e = .returned (.bool (ahB a b)) /\ Below w.heap.size w w' := by
 obtain ⟨w2, HW2⟩ : ∃ w2, Hid (w2 = (w.alloc (.cells #[.int .u32 (a.x : Int), .int .i64 a.n, .int .u32 (a.via : Int), .bool a.loc] 38)).alloc (.cells #[.int .u32 (b.x : Int), .int .i64 b.n, .int .u32 (b.via : Int), .bool b.loc] 38)) := ⟨_, rfl⟩
 have hs : (w.alloc (.cells #[.int .u32 (a.x : Int), .int .i64 a.n, .int .u32 (a.via : Int), .bool a.loc] 38)).heap.size = w.heap.size + 1 := by simp
 have HB : Hid (Below w.heap.size w w2) := by unfold Hid; rw [HW2.out]; exact (bR.alloc nL _).alloc (by rw [hs]; omega) _
 have r1 : w2.heap[w.heap.size + 1]? = some (.cells #[.int .u32 (b.x : Int), .int .i64 b.n, .int .u32 (b.via : Int), .bool b.loc] 38) := by rw [HW2.out, <- hs]; exact heap_alloc_new _ _
 have r0 : w2.heap[w.heap.size]? = some (.cells #[.int .u32 (a.x : Int), .int .i64 a.n, .int .u32 (a.via : Int), .bool a.loc] 38) := by
  rw [HW2.out]
  exact below_keeps (bR.alloc nL _) (heap_alloc_new w _) (by rw [hs]; omega)
 have c0 : w2.cell? ⟨w.heap.size, 0, none⟩ = some (.int .u32 (a.x : Int)) := crw r0 rfl
 have c1 : w2.cell? ⟨w.heap.size, 1, none⟩ = some (.int .i64 a.n) := crw r0 rfl
 have d0 : w2.cell? ⟨w.heap.size + 1, 0, none⟩ = some (.int .u32 (b.x : Int)) := crw r1 rfl
 have d1 : w2.cell? ⟨w.heap.size + 1, 1, none⟩ = some (.int .i64 b.n) := crw r1 rfl
 clear hs r0 r1
 by_cases h : a.x = b.x
 ·have h' : ((a.x : Int) != (b.x : Int)) = false := by simp; omega
  have HE : Hid (ahB a b = decide (a.n < b.n)) := by unfold Hid ahB; rw [if_pos h]
  clear h
  go_enter Tryz.func68, Tryz.ntmps68
  go_upto_region 1 with fail
  rw [<- HW2.out]
  go_wp2_with fail
  go_ret
  exact ⟨ret_bool HE.out.symm, HB.out⟩
 ·have h' : ((a.x : Int) != (b.x : Int)) = true := by simp; omega
  have HE : Hid (ahB a b = decide (a.x < b.x)) := by unfold Hid ahB; rw [if_neg h]
  clear h
  go_enter Tryz.func68, Tryz.ntmps68
  go_upto_region 1 with fail
  rw [<- HW2.out]
  go_wp2_with fail
  go_ret
  exact ⟨ret_bool HE.out.symm, HB.out⟩
theorem cellsF {w : World} {B : Nat} {a : Option Addr} {n c : Nat} {L : List Fd} (h : Own kF w B (.slice a n c) L) {j : Nat} {e : Fd} (hx : L[j]? = some e) :
  ∃ g, a = some ⟨g, 0, none⟩ /\ g < w.heap.size /\ ∀ u : World, u.heap[g]? = w.heap[g]? -> u.cell? ⟨g, j * 7, none⟩ = some (.int .u8 (e.mac.b0 : Int)) /\ u.cell? ⟨g, j * 7 + 1, none⟩ = some (.int .u8 (e.mac.b1 : Int)) /\ u.cell? ⟨g, j * 7 + 2, none⟩ = some (.int .u8 (e.mac.b2 : Int)) /\ u.cell? ⟨g, j * 7 + 3, none⟩ = some (.int .u8 (e.mac.b3 : Int)) /\ u.cell? ⟨g, j * 7 + 4, none⟩ = some (.int .u8 (e.mac.b4 : Int)) /\ u.cell? ⟨g, j * 7 + 5, none⟩ = some (.int .u8 (e.mac.b5 : Int)) /\ u.cell? ⟨g, j * 7 + 6, none⟩ = some (.int .u32 (e.dest : Int)) := by
 obtain ⟨g, h1, h2, h3⟩ := h.at hx
 refine ⟨g, h1, h2, fun u hu => ?_⟩
 obtain ⟨h4, -⟩ := h3 u hu
 exact ⟨(h4 0 (by decide)).1, (h4 1 (by decide)).1, (h4 2 (by decide)).1, (h4 3 (by decide)).1, (h4 4 (by decide)).1, (h4 5 (by decide)).1, (h4 6 (by decide)).1⟩
theorem fdbAt_any (w : World) {m : Nat} {v : Vs} {s : Ks} (q : Mc) (hq : q.Ok) (h : Rf w m v s) :
  Calls Tryz.prog 67 #[.pointer (some ⟨m, 0, none⟩), .agg #[.int .u8 (q.b0 : Int), .int .u8 (q.b1 : Int), .int .u8 (q.b2 : Int), .int .u8 (q.b3 : Int), .int .u8 (q.b4 : Int), .int .u8 (q.b5 : Int)]] w fun e w' => e = .returned (.int .i64 (pz (ix Fd.mac s.F q))) /\ Below w.heap.size w w' := by
 obtain ⟨av, nv, cv, hv, HN, hnc, -⟩ := h.f.shape
 obtain ⟨w1, HW1⟩ : ∃ w1, Hid (w1 = w.alloc (.cells #[.int .u8 (q.b0 : Int), .int .u8 (q.b1 : Int), .int .u8 (q.b2 : Int), .int .u8 (q.b3 : Int), .int .u8 (q.b4 : Int), .int .u8 (q.b5 : Int)] 40)) := ⟨_, rfl⟩
 have hb1 : Below w.heap.size w w1 := by rw [HW1.out]; exact bR.alloc nL _
 have r1 : w1.heap[w.heap.size]? = some (.cells #[.int .u8 (q.b0 : Int), .int .u8 (q.b1 : Int), .int .u8 (q.b2 : Int), .int .u8 (q.b3 : Int), .int .u8 (q.b4 : Int), .int .u8 (q.b5 : Int)] 40) := by rw [HW1.out]; exact heap_alloc_new w _
 have HZ : Hid (w.heap.size < w1.heap.size) := (gsl r1)
 have h1 := h.below hb1
 have HQC : Hid (∀ t : Beh w1, t.wd.heap[w.heap.size]? = some (.cells #[.int .u8 (q.b0 : Int), .int .u8 (q.b1 : Int), .int .u8 (q.b2 : Int), .int .u8 (q.b3 : Int), .int .u8 (q.b4 : Int), .int .u8 (q.b5 : Int)] 40)) := fun t => below_keeps t.ok r1 HZ.out
 have HC0 : Hid (∀ t : Beh w1, t.wd.cell? ⟨m, 2, none⟩ = some (.slice av nv cv)) := fun t => by rw [<- hv]; exact (h1.below t.ok).cells.2.2.1
 have HO : Hid (Own kF w1 0 (.slice av nv cv) s.F) := by rw [<- hv]; exact h1.f
 have HB1 := hid hb1
 have HFK := hid h.ok.fk
 have HQ := hid hq
 have hle : nv <= 256 := by have := h.ok.fl; have := HN.out; omega
 obtain ⟨P, HP⟩ : ∃ P, Hid (P = pz (ix Fd.mac s.F q)) := ⟨_, rfl⟩
 rw [<- HP.out]
 clear h h1 hv hb1 r1 hq
 go_enter Tryz.func67, Tryz.ntmps67
 go_upto_region 1 with fail
 rw [<- HW1.out]
 clear HW1
 go_upto_region 2 with fail
 go_loopw [5] (fun i wr => ∃ (j : Nat) (t : Beh w1), i = .int .i64 (j : Int) /\ j <= nv /\ Hid (∀ i x', i < j -> (s.F)[i]? = some x' -> x'.mac ≠ q) /\ wr = t.wd) (fun i _ => nv - (intOf i).toNat)
 case atStart => exact ⟨0, ⟨w1, bR⟩, rfl, Nat.zero_le _, fun i x hi => absurd hi (by omega), rfl⟩
 case round =>
  obtain ⟨j, t, rfl, hj, HI, rfl⟩ := hrel
  have c00 := HC0.out t
  by_cases hlt : j < nv
  ·have hlt' : (j : Int) < (nv : Int) := int_lt hlt
   have hj0 : decide ((j : Int) < 0) = false := by simp
   have hj1 : (0 : Int) <= (j : Int) := by omega
   obtain ⟨e, HX⟩ : ∃ e, Hid ((s.F)[j]? = some e) := ⟨_, hid (List.getElem?_eq_getElem (by have := HN.out; omega))⟩
   have HEK : Hid (e.mac.Ok) := (HFK.out e (List.mem_of_getElem? HX.out)).1
   obtain ⟨g, rfl, hg, hcl⟩ := cellsF HO.out HX.out
   have ku : ∀ t2 : Beh t.wd, t2.wd.heap[g]? = w1.heap[g]? := fun t2 => (t.ok.trans (t2.ok.mono t.ok.size)).block g hg
   have k0 := fun t2 : Beh t.wd => (hcl t2.wd (ku t2)).1
   have k1 := fun t2 : Beh t.wd => (hcl t2.wd (ku t2)).2.1
   have k2 := fun t2 : Beh t.wd => (hcl t2.wd (ku t2)).2.2.1
   have k3 := fun t2 : Beh t.wd => (hcl t2.wd (ku t2)).2.2.2.1
   have k4 := fun t2 : Beh t.wd => (hcl t2.wd (ku t2)).2.2.2.2.1
   have k5 := fun t2 : Beh t.wd => (hcl t2.wd (ku t2)).2.2.2.2.2.1
   have kq : ∀ t2 : Beh t.wd, t2.wd.heap[w.heap.size]? = _ := fun t2 => HQC.out ⟨t2.wd, t.ok.trans (t2.ok.mono t.ok.size)⟩
   have m0 : ∀ t2 : Beh t.wd, t2.wd.cell? ⟨w.heap.size, 0, none⟩ = some (.int .u8 (q.b0 : Int)) := fun t2 => by rw [cell_of_row _ _ _ _ _ _ (kq t2)]; rfl
   have m1 : ∀ t2 : Beh t.wd, t2.wd.cell? ⟨w.heap.size, 1, none⟩ = some (.int .u8 (q.b1 : Int)) := fun t2 => by rw [cell_of_row _ _ _ _ _ _ (kq t2)]; rfl
   have m2 : ∀ t2 : Beh t.wd, t2.wd.cell? ⟨w.heap.size, 2, none⟩ = some (.int .u8 (q.b2 : Int)) := fun t2 => by rw [cell_of_row _ _ _ _ _ _ (kq t2)]; rfl
   have m3 : ∀ t2 : Beh t.wd, t2.wd.cell? ⟨w.heap.size, 3, none⟩ = some (.int .u8 (q.b3 : Int)) := fun t2 => by rw [cell_of_row _ _ _ _ _ _ (kq t2)]; rfl
   have m4 : ∀ t2 : Beh t.wd, t2.wd.cell? ⟨w.heap.size, 4, none⟩ = some (.int .u8 (q.b4 : Int)) := fun t2 => by rw [cell_of_row _ _ _ _ _ _ (kq t2)]; rfl
   have m5 : ∀ t2 : Beh t.wd, t2.wd.cell? ⟨w.heap.size, 5, none⟩ = some (.int .u8 (q.b5 : Int)) := fun t2 => by rw [cell_of_row _ _ _ _ _ _ (kq t2)]; rfl
   have kc : ∀ t2 : Beh t.wd, t2.wd.cell? ⟨m, 2, none⟩ = some (.slice (some ⟨g, 0, none⟩) nv cv) := fun t2 => HC0.out ⟨t2.wd, t.ok.trans (t2.ok.mono t.ok.size)⟩
   obtain ⟨C, HC⟩ : ∃ C, Hid (C = cpM e.mac q) := ⟨_, rfl⟩
   have HCM : ∀ t2 : Beh t.wd, Hid (Calls Tryz.prog 69 #[.agg #[.int .u8 (e.mac.b0 : Int), .int .u8 (e.mac.b1 : Int), .int .u8 (e.mac.b2 : Int), .int .u8 (e.mac.b3 : Int), .int .u8 (e.mac.b4 : Int), .int .u8 (e.mac.b5 : Int)], .agg #[.int .u8 (q.b0 : Int), .int .u8 (q.b1 : Int), .int .u8 (q.b2 : Int), .int .u8 (q.b3 : Int), .int .u8 (q.b4 : Int), .int .u8 (q.b5 : Int)]] t2.wd fun e w'' => e = .returned (.int .i64 C) /\ ∃ t' : Beh t.wd, w'' = t'.wd) := fun t2 => by
    rw [HC.out]
    exact Calls.beh (compare9 e.mac q _ HEK.out HQ.out)
   clear hcl hg ku kq
   by_cases hk : C = 0
   ·have HE : Hid (P = (j : Int)) := by unfold Hid; rw [HP.out]; exact ix_stop HI.out HX.out (cpM_zero.1 (by rw [<- HC.out]; exact hk))
    go_upto_region 4 with fail
    refine wp_region_beh (by kernel_rfl) (by kernel_rfl) ?_
    repeat (go_big_quiet_step (first | (go_at_call 69; exact (HCM _).out) | fail))
    refine wpQuiet_nil ?_
    rintro _ ⟨t2, rfl⟩
    clear k0 k1 k2 k3 k4 k5 m0 m1 m2 m3 m4 m5 kc c00 HCM
    go_wp2_with fail
    go_ret
    exact ⟨ret_int HE.out.symm, HB1.out.trans ((t.ok.trans (t2.ok.mono t.ok.size)).mono HB1.out.size)⟩
   ·have HI2 : Hid (∀ i x', i < j + 1 -> (s.F)[i]? = some x' -> x'.mac ≠ q) := ahead_more HI.out HX.out (fun e' => hk (by rw [HC.out]; exact cpM_zero.2 e'))
    go_upto_region 4 with fail
    refine wp_region_beh (by kernel_rfl) (by kernel_rfl) ?_
    repeat (go_big_quiet_step (first | (go_at_call 69; exact (HCM _).out) | fail))
    refine wpQuiet_nil ?_
    rintro _ ⟨t2, rfl⟩
    clear k0 k1 k2 k3 k4 k5 m0 m1 m2 m3 m4 m5 kc c00 HCM
    go_wp2_with fail
    go_roundw
    case rel => exact ⟨j + 1, ⟨t2.wd, t.ok.trans (t2.ok.mono t.ok.size)⟩, by go_num, hlt, HI2, rfl⟩
    case measure => simp [intOf]; omega
  ·have hlt' : ¬ (j : Int) < (nv : Int) := int_nlt hlt
   have HE : Hid (P = -1) := by unfold Hid; rw [HP.out]; exact ix_end HI.out (by have := HN.out; omega)
   have HT : Hid (Below w.heap.size w t.wd) := HB1.out.trans (t.ok.mono HB1.out.size)
   go_wp2_with fail
   go_ret
   exact ⟨ret_int HE.out.symm, HT.out⟩
theorem delR_none {s : Ks} {o : Opv} (hk : o.kind = 2) (hb : valB o.r.x o.r.n = true) (hx : ix Tri.Vt.key s.R o.r.key = none) : oneE s o = 0 /\ oneS s o = s := by
 have e : oneE s o = 0 := by unfold oneE; simp [hk, hb]
 exact ⟨e, by unfold oneS; rw [if_neg (by simp [e])]; simp [hk, delK, hx]⟩
theorem delR_some {s : Ks} {o : Opv} {j : Nat} (hk : o.kind = 2) (hb : valB o.r.x o.r.n = true) (hx : ix Tri.Vt.key s.R o.r.key = some j) : oneE s o = 0 /\ oneS s o = { s with R := s.R.eraseIdx j } := by
 have e : oneE s o = 0 := by unfold oneE; simp [hk, hb]
 exact ⟨e, by unfold oneS; rw [if_neg (by simp [e])]; simp [hk, delK, hx]⟩
theorem putR_some {s : Ks} {o : Opv} {j : Nat} (hk : o.kind = 1) (hb : valB o.r.x o.r.n = true) (hl : (o.r.loc && o.r.via != 0) = false) (hx : ix Tri.Vt.key s.R o.r.key = some j) : oneE s o = 0 /\ oneS s o = { s with R := s.R.set j o.r } := by
 have h1 : (lk Tri.Vt.key s.R o.r.key).isSome = true := by rw [<- ix_lk, hx]; rfl
 have e : oneE s o = 0 := by unfold oneE; simp [hk, h1, hb, hl]
 exact ⟨e, by unfold oneS; rw [if_neg (by simp [e])]; simp only [hk, if_true, putK]; rw [hx]⟩
theorem putR_full {s : Ks} {o : Opv} (hk : o.kind = 1) (hb : valB o.r.x o.r.n = true) (hl : (o.r.loc && o.r.via != 0) = false) (hx : ix Tri.Vt.key s.R o.r.key = none) (hf : s.cr <= s.R.length) : oneE s o = 4 /\ oneS s o = s := by
 have h1 : (lk Tri.Vt.key s.R o.r.key).isSome = false := by rw [<- ix_lk, hx]; rfl
 have e : oneE s o = 4 := by unfold oneE; simp [hk, h1, hf, hb, hl]
 exact ⟨e, by unfold oneS; rw [if_pos (by simp [e])]⟩
theorem putR_new {s : Ks} {o : Opv} (hk : o.kind = 1) (hb : valB o.r.x o.r.n = true) (hl : (o.r.loc && o.r.via != 0) = false) (hx : ix Tri.Vt.key s.R o.r.key = none) (hf : ¬ s.cr <= s.R.length) : oneE s o = 0 /\ oneS s o = { s with R := s.R ++ [o.r] } := by
 have h1 : (lk Tri.Vt.key s.R o.r.key).isSome = false := by rw [<- ix_lk, hx]; rfl
 have e : oneE s o = 0 := by unfold oneE; simp [hk, h1, hf, hb, hl]
 exact ⟨e, by unfold oneS; rw [if_neg (by simp [e])]; simp only [hk, if_true, putK]; rw [hx]⟩
theorem delN_none {s : Ks} {o : Opv} (hk : o.kind = 4) (hx : ix Nb.ip s.N o.n.ip = none) : oneE s o = 0 /\ oneS s o = s := by
 have e : oneE s o = 0 := by unfold oneE; simp [hk]
 exact ⟨e, by unfold oneS; rw [if_neg (by simp [e])]; simp [hk, delK, hx]⟩
theorem delN_some {s : Ks} {o : Opv} {j : Nat} (hk : o.kind = 4) (hx : ix Nb.ip s.N o.n.ip = some j) : oneE s o = 0 /\ oneS s o = { s with N := s.N.eraseIdx j } := by
 have e : oneE s o = 0 := by unfold oneE; simp [hk]
 exact ⟨e, by unfold oneS; rw [if_neg (by simp [e])]; simp [hk, delK, hx]⟩
theorem putN_some {s : Ks} {o : Opv} {j : Nat} (hk : o.kind = 3) (hx : ix Nb.ip s.N o.n.ip = some j) : oneE s o = 0 /\ oneS s o = { s with N := s.N.set j o.n } := by
 have h1 : (lk Nb.ip s.N o.n.ip).isSome = true := by rw [<- ix_lk, hx]; rfl
 have e : oneE s o = 0 := by unfold oneE; simp [hk, h1]
 exact ⟨e, by unfold oneS; rw [if_neg (by simp [e])]; simp only [hk, if_true, Int.reduceEq, if_false, putK]; rw [hx]⟩
theorem putN_full {s : Ks} {o : Opv} (hk : o.kind = 3) (hx : ix Nb.ip s.N o.n.ip = none) (hf : s.cn <= s.N.length) : oneE s o = 4 /\ oneS s o = s := by
 have h1 : (lk Nb.ip s.N o.n.ip).isSome = false := by rw [<- ix_lk, hx]; rfl
 have e : oneE s o = 4 := by unfold oneE; simp [hk, h1, hf]
 exact ⟨e, by unfold oneS; rw [if_pos (by simp [e])]⟩
theorem putN_new {s : Ks} {o : Opv} (hk : o.kind = 3) (hx : ix Nb.ip s.N o.n.ip = none) (hf : ¬ s.cn <= s.N.length) : oneE s o = 0 /\ oneS s o = { s with N := s.N ++ [o.n] } := by
 have h1 : (lk Nb.ip s.N o.n.ip).isSome = false := by rw [<- ix_lk, hx]; rfl
 have e : oneE s o = 0 := by unfold oneE; simp [hk, h1, hf]
 exact ⟨e, by unfold oneS; rw [if_neg (by simp [e])]; simp only [hk, if_true, Int.reduceEq, if_false, putK]; rw [hx]⟩
theorem delF_none {s : Ks} {o : Opv} (hk : o.kind = 6) (hx : ix Fd.mac s.F o.f.mac = none) : oneE s o = 0 /\ oneS s o = s := by
 have e : oneE s o = 0 := by unfold oneE; simp [hk]
 exact ⟨e, by unfold oneS; rw [if_neg (by simp [e])]; simp [hk, delK, hx]⟩
theorem delF_some {s : Ks} {o : Opv} {j : Nat} (hk : o.kind = 6) (hx : ix Fd.mac s.F o.f.mac = some j) : oneE s o = 0 /\ oneS s o = { s with F := s.F.eraseIdx j } := by
 have e : oneE s o = 0 := by unfold oneE; simp [hk]
 exact ⟨e, by unfold oneS; rw [if_neg (by simp [e])]; simp [hk, delK, hx]⟩
theorem putF_some {s : Ks} {o : Opv} {j : Nat} (hk : o.kind = 5) (hx : ix Fd.mac s.F o.f.mac = some j) : oneE s o = 0 /\ oneS s o = { s with F := s.F.set j o.f } := by
 have h1 : (lk Fd.mac s.F o.f.mac).isSome = true := by rw [<- ix_lk, hx]; rfl
 have e : oneE s o = 0 := by unfold oneE; simp [hk, h1]
 exact ⟨e, by unfold oneS; rw [if_neg (by simp [e])]; simp only [hk, if_true, Int.reduceEq, if_false, putK]; rw [hx]⟩
theorem putF_full {s : Ks} {o : Opv} (hk : o.kind = 5) (hx : ix Fd.mac s.F o.f.mac = none) (hf : s.cf <= s.F.length) : oneE s o = 4 /\ oneS s o = s := by
 have h1 : (lk Fd.mac s.F o.f.mac).isSome = false := by rw [<- ix_lk, hx]; rfl
 have e : oneE s o = 4 := by unfold oneE; simp [hk, h1, hf]
 exact ⟨e, by unfold oneS; rw [if_pos (by simp [e])]⟩
theorem putF_new {s : Ks} {o : Opv} (hk : o.kind = 5) (hx : ix Fd.mac s.F o.f.mac = none) (hf : ¬ s.cf <= s.F.length) : oneE s o = 0 /\ oneS s o = { s with F := s.F ++ [o.f] } := by
 have h1 : (lk Fd.mac s.F o.f.mac).isSome = false := by rw [<- ix_lk, hx]; rfl
 have e : oneE s o = 0 := by unfold oneE; simp [hk, h1, hf]
 exact ⟨e, by unfold oneS; rw [if_neg (by simp [e])]; simp only [hk, if_true, Int.reduceEq, if_false, putK]; rw [hx]⟩
theorem badR {s : Ks} {o : Opv} (hk : o.kind = 1 \/ o.kind = 2) (hb : valB o.r.x o.r.n = false) : oneE s o = 93 /\ oneS s o = s := by
 have e : oneE s o = 93 := by unfold oneE; rcases hk with hk | hk <;> simp [hk, hb]
 exact ⟨e, by unfold oneS; rw [if_pos (by simp [e])]⟩
theorem badL {s : Ks} {o : Opv} (hk : o.kind = 1) (hl : (o.r.loc && o.r.via != 0) = true) : oneE s o = 93 /\ oneS s o = s := by
 have e : oneE s o = 93 := by unfold oneE; simp only [hk, if_true, hl, Bool.or_true]
 exact ⟨e, by unfold oneS; rw [if_pos (by simp [e])]⟩
theorem step_append_run {P : Program} {ops : Array Oper} {o : Oper} {a : Act} {w : World} {K : Act -> World -> Prop} {Q : Exit -> Act -> World -> Prop} {E : Prop}
  (hg : o.guard = none) (s x : Operand) (t t' : TypeId) (hop : o.op = Op.call { callee := Callee.builtin Builtin.append, args := #[s, x], argTypes := #[t, t'] }) (v u : Value) (hs : a.eval s = v) (hx : a.eval x = u) {v' : Value} {w' : World}
  (hr : (Builtin.append_ #[t, t'] o.type #[v, u]).run P w = .ok v' w') (hK : K (a.put o.dst v') w') :
  if Region.wanted o (yielded ops a.tmps) = true then Oper.wp P o a w K Q else E := by
 have hw : Region.wanted o (yielded ops a.tmps) = true := by simp [Region.wanted, hg]
 rw [if_pos hw]
 unfold Oper.wp
 simp [execOp, hop, resolve, invoke, builtin, hs, hx, hr, Result.andThen]
 exact hK
theorem routeR_any (w : World) {m : Nat} {v : Vs} {s : Ks} (o : Opv) (h : Rf w m v s) (ho : o.Ok) (hk : o.kind = 1 \/ o.kind = 2) :
  Calls Tryz.prog 78 #[.pointer (some ⟨m, 0, none⟩), .agg o.cells] w fun e w' => e = .returned (.int .i64 (oneE s o)) /\ ∃ v', RTurn w w' m v (oneS s o) v' := by
 obtain ⟨vr, vn, vf⟩ := v
 obtain ⟨w1, HW1⟩ : ∃ w1, Hid (w1 = w.alloc (.cells o.cells 46)) := ⟨_, rfl⟩
 have hb1 : Below w.heap.size w w1 := by rw [HW1.out]; exact bR.alloc nL _
 have hop : OpB w1 w.heap.size o := by unfold OpB; rw [HW1.out]; exact heap_alloc_new w _
 have HOP := hid hop
 have HR := hid (h.below hb1)
 have HB1 := hid hb1
 have HOK := hid (h.ok.one ho)
 have HOO := hid ho
 obtain ⟨E, HE⟩ : ∃ E, Hid (E = oneE s o) := ⟨_, rfl⟩
 obtain ⟨S, HS⟩ : ∃ S, Hid (S = oneS s o) := ⟨_, rfl⟩
 rw [<- HE.out, <- HS.out]
 rw [<- HS.out] at HOK
 obtain ⟨av, nv, cv, hv, HN, hnc, hcm⟩ := h.r.shape
 obtain rfl : vr = .slice av nv cv := hv
 have hle : nv <= 256 := by have := h.ok.rl; have := HN.out; omega
 obtain ⟨cp, HCP⟩ : ∃ cp, Hid (cp = s.cr) := ⟨_, rfl⟩
 unfold maxLen at hcm
 have HOPW : Hid (∀ u : World, Below w1.heap.size w1 u -> OpB u w.heap.size o) := fun u hu => hop.below hu
 have HGL : Hid (w.heap.size < w1.heap.size) := (gsl hop)
 clear h hb1 hop ho
 have c0 : w1.cell? ⟨w.heap.size, 0, none⟩ = some (.int .i64 o.kind) := HOP.out.kind
 have c1 : w1.cell? ⟨w.heap.size, 1, none⟩ = some (.int .u32 (o.r.x : Int)) := crw HOP.out rfl
 have c2 : w1.cell? ⟨w.heap.size, 2, none⟩ = some (.int .i64 o.r.n) := crw HOP.out rfl
 have c3 : w1.cell? ⟨w.heap.size, 3, none⟩ = some (.int .u32 (o.r.via : Int)) := crw HOP.out rfl
 have c4 : w1.cell? ⟨w.heap.size, 4, none⟩ = some (.bool o.r.loc) := crw HOP.out rfl
 have HV := hid (valid9 (y := o.r.n) w1 HOO.out.rx)
 cases hvb : valB o.r.x o.r.n with
 | false =>
  have HEE := hid (badR (s := s) hk hvb)
  rw [hvb] at HV
  go_enter Tryz.func78, Tryz.ntmps78
  go_upto_region 1 with fail
  rw [<- HW1.out]
  clear HW1
  go_wp2_with fail
  refine HV.out.mono ?_
  rintro _ w2 ⟨rfl, hb2⟩
  have HB2 : Hid (Below w.heap.size w w2) := HB1.out.trans (hb2.mono HB1.out.size)
  have HT : Hid (RTurn w w2 m ⟨.slice av nv cv, vn, vf⟩ s ⟨.slice av nv cv, vn, vf⟩) := (RTurn.same (v := ⟨.slice av nv cv, vn, vf⟩) HR.out hb2).behind HB1.out
  clear hb2
  go_wp2_with fail
  go_ret
  exact ⟨ret_int (by rw [HE.out, HEE.out.1]), _, by rw [HS.out, HEE.out.2]; exact HT.out⟩
 | true =>
  have HVB := hid hvb
  rw [hvb] at HV
  clear hvb
  cases hlv : (o.r.loc && o.r.via != 0) && decide (o.kind = 1) with
  | true =>
   have hk1 : o.kind = 1 := by simp at hlv; exact hlv.2
   have hl1 : o.r.loc = true := by simp at hlv; exact hlv.1.1
   have hl2 : ¬ o.r.via = 0 := by simp at hlv; exact hlv.1.2
   have hl3 : ((o.r.via : Int) != 0) = true := by simp; omega
   have HEE := hid (badL (s := s) hk1 (by simp [hl1, hl2]))
   rw [hk1] at c0
   rw [hl1] at c4
   clear hlv hl2 hk hl1
   go_enter Tryz.func78, Tryz.ntmps78
   go_upto_region 1 with fail
   rw [<- HW1.out]
   clear HW1
   go_wp2_with fail
   refine HV.out.mono ?_
   rintro _ w2 ⟨rfl, hb2⟩
   have HT : Hid (RTurn w w2 m ⟨.slice av nv cv, vn, vf⟩ s ⟨.slice av nv cv, vn, vf⟩) := (RTurn.same (v := ⟨.slice av nv cv, vn, vf⟩) HR.out hb2).behind HB1.out
   have d0 : w2.cell? ⟨w.heap.size, 0, none⟩ = some (.int .i64 1) := (hb2.cell (p := ⟨w.heap.size, 0, none⟩) HGL.out).trans c0
   have d3 : w2.cell? ⟨w.heap.size, 3, none⟩ = some (.int .u32 (o.r.via : Int)) := (hb2.cell (p := ⟨w.heap.size, 3, none⟩) HGL.out).trans c3
   have d4 : w2.cell? ⟨w.heap.size, 4, none⟩ = some (.bool true) := (hb2.cell (p := ⟨w.heap.size, 4, none⟩) HGL.out).trans c4
   clear hb2 c0 c1 c2 c3 c4
   go_wp2_with fail
   go_ret
   exact ⟨ret_int (by rw [HE.out, HEE.out.1]), _, by rw [HS.out, HEE.out.2]; exact HT.out⟩
  | false =>
   have HLV : Hid (o.kind = 1 -> (o.r.loc && o.r.via != 0) = false) := fun e => by
    rw [e] at hlv
    simpa using hlv
   clear hlv
   have HA : Hid (∀ w2, Below w1.heap.size w1 w2 -> Calls Tryz.prog 95 #[.pointer (some ⟨m, 0, none⟩), .agg #[.int .u32 (o.r.x : Int), .int .i64 o.r.n]] w2 fun e w' => e = .returned (.int .i64 (pz (ix Tri.Vt.key s.R o.r.key))) /\ Below w2.heap.size w2 w') := fun w2 hb2 => routeAt_any w2 o.r.x o.r.n (HR.out.below hb2)
   rcases hk with hk | hk
   ·rw [hk] at c0
    cases hl1 : o.r.loc with
    | false =>
     rw [hl1] at c4
     clear hl1
     go_enter Tryz.func78, Tryz.ntmps78
     go_upto_region 1 with fail
     rw [<- HW1.out]
     clear HW1
     go_wp2_with fail
     refine HV.out.mono ?_
     rintro _ w2 ⟨rfl, hb2⟩
     have HB2 : Hid (Below w1.heap.size w1 w2) := hb2
     have d0 : w2.cell? ⟨w.heap.size, 0, none⟩ = some (.int .i64 1) := (hb2.cell (p := ⟨w.heap.size, 0, none⟩) HGL.out).trans c0
     have d1 : w2.cell? ⟨w.heap.size, 1, none⟩ = some (.int .u32 (o.r.x : Int)) := (hb2.cell (p := ⟨w.heap.size, 1, none⟩) HGL.out).trans c1
     have d2 : w2.cell? ⟨w.heap.size, 2, none⟩ = some (.int .i64 o.r.n) := (hb2.cell (p := ⟨w.heap.size, 2, none⟩) HGL.out).trans c2
     have d4 : w2.cell? ⟨w.heap.size, 4, none⟩ = some (.bool false) := (hb2.cell (p := ⟨w.heap.size, 4, none⟩) HGL.out).trans c4
     clear hb2 c0 c1 c2 c3 c4
     go_wp2_with fail
     refine (HA.out w2 HB2.out).mono ?_
     rintro _ w3 ⟨rfl, hb3⟩
     have HB3 : Hid (Below w1.heap.size w1 w3) := HB2.out.trans (hb3.mono HB2.out.size)
     clear hb3 HA HV d0 d1 d2 d4
     have HR3 := hid (HR.out.below HB3.out)
     have HO3 : Hid (Own kR w3 0 (.slice av nv cv) s.R) := HR3.out.r
     have HBW : Hid (Below w.heap.size w w3) := HB1.out.trans (HB3.out.mono HB1.out.size)
     have hop3 := HOPW.out w3 HB3.out
     have k0 : w3.cell? ⟨w.heap.size, 0, none⟩ = some (.int .i64 1) := by rw [<- hk]; exact hop3.kind
     have m1 : w3.cell? ⟨m, 0, none⟩ = some (.slice av nv cv) := HR3.out.cells.1
     have HSAME : Hid (RTurn w w3 m ⟨.slice av nv cv, vn, vf⟩ s ⟨.slice av nv cv, vn, vf⟩) := (RTurn.same (v := ⟨.slice av nv cv, vn, vf⟩) HR.out HB3.out).behind HB1.out
     cases hix : ix Tri.Vt.key s.R o.r.key with
     | some j =>
      have HEE := hid (putR_some (s := s) hk HVB.out (HLV.out hk) hix)
      obtain ⟨e0, he0, -⟩ := ix_some hix
      obtain ⟨g, rfl, hg, -⟩ := atR HO3.out he0
      have hjl : j < nv := by have := (List.getElem?_eq_some_iff.1 he0).1; have := HN.out; omega
      have HJL : Hid (j < s.R.length) := by have := HN.out; unfold Hid; omega
      have hj1 : (j : Int) < (nv : Int) := int_lt hjl
      have hj2 : ¬ (j : Int) < 0 := by omega
      have hj3 : (0 : Int) <= (j : Int) := by omega
      have b1 : w3.cell? ⟨w.heap.size, 1, none⟩ = some (.int .u32 (o.r.x : Int)) := crw hop3 rfl
      have b2 : w3.cell? ⟨w.heap.size, 2, none⟩ = some (.int .i64 o.r.n) := crw hop3 rfl
      have b3 : w3.cell? ⟨w.heap.size, 3, none⟩ = some (.int .u32 (o.r.via : Int)) := crw hop3 rfl
      have b4 : w3.cell? ⟨w.heap.size, 4, none⟩ = some (.bool o.r.loc) := crw hop3 rfl
      have HTH : Hid (w3.drew.there g (j * 4) 4) := (HO3.out.below (below_drewN bR 1)).there HJL.out
      obtain ⟨zz, HZ⟩ : ∃ zz : Array Value, Hid (zz = o.r.cells) := ⟨_, rfl⟩
      have HZS : Hid (zz.size = 4) := by unfold Hid; rw [HZ.out]; rfl
      have HTZ : Hid (w3.drew.there g (j * 4) zz.size) := by unfold Hid; rw [HZS.out]; exact HTH.out
      have HINF : Hid ((Tryz.prog.info? 38).map (·.size) = some zz.size) := by unfold Hid; rw [HZS.out]; kernel_rfl
      have HONE : Hid (zz.all (·.oneCell') = true) := by unfold Hid; rw [HZ.out]; exact one_cells o.r
      obtain ⟨w4, HW4⟩ : ∃ w4, Hid (w4 = World.setCells { heap := w3.heap, tape := w3.tape, drawn := w3.drawn + 1, os := w3.os, output := w3.output } g (j * 4) zz.toList) := ⟨_, rfl⟩
      have HTU : Hid (RTurn w w4 m ⟨.slice (some ⟨g, 0, none⟩) nv cv, vn, vf⟩ { s with R := s.R.set j o.r } ⟨.slice (some ⟨g, 0, none⟩) nv cv, vn, vf⟩) := by
       have hd : Below w3.heap.size w3 w3.drew := below_drewN bR 1
       have h1 := (HO3.out.below hd).put HJL.out o.r
       have h2 : Me.Keeps (fun k => k = g) w3.drew w4 := by rw [HW4.out]; exact (setCells_heap _ _ _).2
       have h3 : Own kR w4 0 (.slice (some ⟨g, 0, none⟩) nv cv) (s.R.set j o.r) := by rw [HW4.out, HZ.out]; exact h1
       exact ((HR3.out.below hd).putR rfl h2 h3 (by rw [<- HEE.out.2, <- HS.out]; exact HOK.out)).behind (HBW.out.trans (hd.mono HBW.out.size))
      simp only [pz]
      clear hop3 hix he0 hg HO3 HTH
      go_upto_region 9 with fail
      refine wp_region_still_tail 8 (by kernel_rfl) (by kernel_rfl) ?_
      simp only [List.take_succ_cons, List.take_zero, List.drop_succ_cons, List.drop_zero]
      iterate 8 still_step
      refine wpStill_nil ?_
      refine wpList_store_mid rfl 38 (.tmp 63) (.tmp 62) rfl g (j * 4) zz rfl (by rw [HZ.out]; rfl) HTZ.out HINF.out HONE.out ?_
      rw [<- HW4.out]
      clear b1 b2 b3 b4 k0 m1 HTZ HINF HONE HZS HZ HW4
      go_wp2_with fail
      go_ret
      exact ⟨ret_int (by rw [HE.out, HEE.out.1]), _, by rw [HS.out, HEE.out.2]; exact HTU.out⟩
     | none =>
      have hm0 : ∀ t : Beh w3, t.wd.cell? ⟨m, 0, none⟩ = some (.slice av nv cv) := fun t => (HR3.out.below t.ok).cells.1
      have hm3 : ∀ t : Beh w3, t.wd.cell? ⟨m, 3, none⟩ = some (.int .i64 (cp : Int)) := fun t => by rw [HCP.out]; exact (HR3.out.below t.ok).cells.2.2.2.1
      have HOP3 := hid hop3
      by_cases hfl : cp <= nv
      ·have HEE := hid (putR_full (s := s) hk HVB.out (HLV.out hk) hix (by rw [<- HCP.out, <- HN.out]; exact hfl))
       have hfl' : (cp : Int) <= (nv : Int) := by omega
       simp only [pz]
       clear hop3 hix hfl
       go_upto_region 11 with fail
       refine wp_region_beh (by kernel_rfl) (by kernel_rfl) ?_
       repeat (go_big_quiet_step (fail))
       refine wpQuiet_nil ?_
       rintro _ ⟨t, rfl⟩
       have HT := hid (HSAME.out.then t.ok)
       clear hm0 hm3 m1 k0
       go_wp2_with fail
       go_ret
       exact ⟨ret_int (by rw [HE.out, HEE.out.1]), _, by rw [HS.out, HEE.out.2]; exact HT.out⟩
      ·have HEE := hid (putR_new (s := s) hk HVB.out (HLV.out hk) hix (by rw [<- HCP.out, <- HN.out]; exact hfl))
       have hfl' : ¬ (cp : Int) <= (nv : Int) := by omega
       simp only [pz]
       clear hop3 hix hfl
       go_upto_region 11 with fail
       refine wp_region_beh (by kernel_rfl) (by kernel_rfl) ?_
       repeat (go_big_quiet_step (fail))
       refine wpQuiet_nil ?_
       rintro _ ⟨t, rfl⟩
       have HR4 := hid (HR3.out.below t.ok)
       have HO4 := hid (HO3.out.below t.ok)
       have HBT : Hid (Below w.heap.size w t.wd) := HBW.out.trans (t.ok.mono HBW.out.size)
       have hop3 := HOP3.out.below t.ok
       have n1 : t.wd.cell? ⟨m, 0, none⟩ = some (.slice av nv cv) := hm0 t
       clear hm0 hm3 m1 k0 HO3 HR3 HOP3 HSAME
       generalize t.wd = u at *
       have b1 : u.cell? ⟨w.heap.size, 1, none⟩ = some (.int .u32 (o.r.x : Int)) := crw hop3 rfl
       have b2 : u.cell? ⟨w.heap.size, 2, none⟩ = some (.int .i64 o.r.n) := crw hop3 rfl
       have b3 : u.cell? ⟨w.heap.size, 3, none⟩ = some (.int .u32 (o.r.via : Int)) := crw hop3 rfl
       have b4 : u.cell? ⟨w.heap.size, 4, none⟩ = some (.bool o.r.loc) := crw hop3 rfl
       have n1b : (u.alloc (.cells #[.int .u32 (o.r.x : Int), .int .i64 o.r.n, .int .u32 (o.r.via : Int), .bool o.r.loc] 38)).cell? ⟨m, 0, none⟩ = some (.slice av nv cv) := (Below.cell (bR.alloc nL _) (p := ⟨m, 0, none⟩) (HR4.out.lt (.inl rfl))).trans n1
       obtain ⟨w4, HW4⟩ : ∃ w4, Hid (w4 = (u.alloc (.cells #[.int .u32 (o.r.x : Int), .int .i64 o.r.n, .int .u32 (o.r.via : Int), .bool o.r.loc] 38)).drew) := ⟨_, rfl⟩
       have hb4 : Below u.heap.size u w4 := by rw [HW4.out]; exact below_drewN (bR.alloc nL _) 1
       have r4 : w4.heap[u.heap.size]? = some (.cells o.r.cells 38 (0, 0)) := by rw [HW4.out]; exact heap_alloc_new u _
       obtain ⟨v', w5, hap, ho5, hg5, hn5⟩ := append_one (K := kR) 47 o.r u.heap.size (HO4.out.below hb4) r4 (Nat.zero_le _) (by have := HN.out; omega)
       obtain ⟨av', nv', cv', rfl, -, -, -⟩ := ho5.shape
       have hk5 : Me.Keeps (fun k => Value.ownBlock (.slice av nv cv) = some k) u w5 := (Me.Keeps.of hb4).trans (Me.Keeps.grown hg5 fun k e => e)
       have HAP : Hid ((Builtin.append_ #[47, 47] 47 #[.slice av nv cv, .slice (some ⟨u.heap.size, 0, none⟩) 1 1]).run Tryz.prog w4 = .ok (.slice av' nv' cv') w5) := hap
       obtain ⟨w6, HW6⟩ : ∃ w6, Hid (w6 = w5.setCell ⟨m, 0, none⟩ (.slice av' nv' cv')) := ⟨_, rfl⟩
       have HTU : Hid (RTurn w w6 m ⟨.slice av nv cv, vn, vf⟩ { s with R := s.R ++ [o.r] } ⟨.slice av' nv' cv', vn, vf⟩) := by
        unfold Hid
        rw [HW6.out]
        exact (HR4.out.storeR (x := .slice av' nv' cv') hk5 ho5 (fun k e => (hn5 k e).imp id fun h => Nat.le_trans hb4.size h) (by rw [<- HEE.out.2, <- HS.out]; exact HOK.out)).behind HBT.out
       have r5 : w5.heap[m]? = some (.cells (rkC ⟨.slice av nv cv, vn, vf⟩ s) 142) := (hk5.block m (HR4.out.lt (.inl rfl)) HR4.out.apart.1).trans HR4.out.row
       obtain ⟨v5, m5⟩ : ∃ v, w5.cell? ⟨m, 0, none⟩ = some v := ⟨_, crw r5 rfl⟩
       have m6 : w5.frozen? ⟨m, 0, none⟩ = false := frozen_of_row _ _ _ _ _ r5
       clear hop3 hb4 r4 hap ho5 hg5 hn5 hk5 r5 HO4 HR4
       go_upto_region 13 with fail
       go_region_law (first | (rw [<- HW4.out]; refine step_append_run rfl _ _ _ _ rfl _ _ rfl rfl HAP.out ?_))
       all_goals (
        rw [<- HW6.out]
        clear b1 b2 b3 b4 n1 n1b m5 m6
        go_wp2_with fail
        go_ret
        exact ⟨ret_int (by rw [HE.out, HEE.out.1]), _, by rw [HS.out, HEE.out.2]; exact HTU.out⟩)
    | true =>
     rw [hl1] at c4
     have hl2 : o.r.via = 0 := by have := HLV.out hk; rw [hl1] at this; simpa using this
     have hl3 : ((o.r.via : Int) != 0) = false := by simp; omega
     clear hl2 hl1
     go_enter Tryz.func78, Tryz.ntmps78
     go_upto_region 1 with fail
     rw [<- HW1.out]
     clear HW1
     go_wp2_with fail
     refine HV.out.mono ?_
     rintro _ w2 ⟨rfl, hb2⟩
     have HB2 : Hid (Below w1.heap.size w1 w2) := hb2
     have d0 : w2.cell? ⟨w.heap.size, 0, none⟩ = some (.int .i64 1) := (hb2.cell (p := ⟨w.heap.size, 0, none⟩) HGL.out).trans c0
     have d1 : w2.cell? ⟨w.heap.size, 1, none⟩ = some (.int .u32 (o.r.x : Int)) := (hb2.cell (p := ⟨w.heap.size, 1, none⟩) HGL.out).trans c1
     have d2 : w2.cell? ⟨w.heap.size, 2, none⟩ = some (.int .i64 o.r.n) := (hb2.cell (p := ⟨w.heap.size, 2, none⟩) HGL.out).trans c2
     have d3 : w2.cell? ⟨w.heap.size, 3, none⟩ = some (.int .u32 (o.r.via : Int)) := (hb2.cell (p := ⟨w.heap.size, 3, none⟩) HGL.out).trans c3
     have d4 : w2.cell? ⟨w.heap.size, 4, none⟩ = some (.bool true) := (hb2.cell (p := ⟨w.heap.size, 4, none⟩) HGL.out).trans c4
     clear hb2 c0 c1 c2 c3 c4
     go_wp2_with fail
     refine (HA.out w2 HB2.out).mono ?_
     rintro _ w3 ⟨rfl, hb3⟩
     have HB3 : Hid (Below w1.heap.size w1 w3) := HB2.out.trans (hb3.mono HB2.out.size)
     clear hb3 HA HV d0 d1 d2 d3 d4 hl3
     have HR3 := hid (HR.out.below HB3.out)
     have HO3 : Hid (Own kR w3 0 (.slice av nv cv) s.R) := HR3.out.r
     have HBW : Hid (Below w.heap.size w w3) := HB1.out.trans (HB3.out.mono HB1.out.size)
     have hop3 := HOPW.out w3 HB3.out
     have k0 : w3.cell? ⟨w.heap.size, 0, none⟩ = some (.int .i64 1) := by rw [<- hk]; exact hop3.kind
     have m1 : w3.cell? ⟨m, 0, none⟩ = some (.slice av nv cv) := HR3.out.cells.1
     have HSAME : Hid (RTurn w w3 m ⟨.slice av nv cv, vn, vf⟩ s ⟨.slice av nv cv, vn, vf⟩) := (RTurn.same (v := ⟨.slice av nv cv, vn, vf⟩) HR.out HB3.out).behind HB1.out
     cases hix : ix Tri.Vt.key s.R o.r.key with
     | some j =>
      have HEE := hid (putR_some (s := s) hk HVB.out (HLV.out hk) hix)
      obtain ⟨e0, he0, -⟩ := ix_some hix
      obtain ⟨g, rfl, hg, -⟩ := atR HO3.out he0
      have hjl : j < nv := by have := (List.getElem?_eq_some_iff.1 he0).1; have := HN.out; omega
      have HJL : Hid (j < s.R.length) := by have := HN.out; unfold Hid; omega
      have hj1 : (j : Int) < (nv : Int) := int_lt hjl
      have hj2 : ¬ (j : Int) < 0 := by omega
      have hj3 : (0 : Int) <= (j : Int) := by omega
      have b1 : w3.cell? ⟨w.heap.size, 1, none⟩ = some (.int .u32 (o.r.x : Int)) := crw hop3 rfl
      have b2 : w3.cell? ⟨w.heap.size, 2, none⟩ = some (.int .i64 o.r.n) := crw hop3 rfl
      have b3 : w3.cell? ⟨w.heap.size, 3, none⟩ = some (.int .u32 (o.r.via : Int)) := crw hop3 rfl
      have b4 : w3.cell? ⟨w.heap.size, 4, none⟩ = some (.bool o.r.loc) := crw hop3 rfl
      have HTH : Hid (w3.drew.there g (j * 4) 4) := (HO3.out.below (below_drewN bR 1)).there HJL.out
      obtain ⟨zz, HZ⟩ : ∃ zz : Array Value, Hid (zz = o.r.cells) := ⟨_, rfl⟩
      have HZS : Hid (zz.size = 4) := by unfold Hid; rw [HZ.out]; rfl
      have HTZ : Hid (w3.drew.there g (j * 4) zz.size) := by unfold Hid; rw [HZS.out]; exact HTH.out
      have HINF : Hid ((Tryz.prog.info? 38).map (·.size) = some zz.size) := by unfold Hid; rw [HZS.out]; kernel_rfl
      have HONE : Hid (zz.all (·.oneCell') = true) := by unfold Hid; rw [HZ.out]; exact one_cells o.r
      obtain ⟨w4, HW4⟩ : ∃ w4, Hid (w4 = World.setCells { heap := w3.heap, tape := w3.tape, drawn := w3.drawn + 1, os := w3.os, output := w3.output } g (j * 4) zz.toList) := ⟨_, rfl⟩
      have HTU : Hid (RTurn w w4 m ⟨.slice (some ⟨g, 0, none⟩) nv cv, vn, vf⟩ { s with R := s.R.set j o.r } ⟨.slice (some ⟨g, 0, none⟩) nv cv, vn, vf⟩) := by
       have hd : Below w3.heap.size w3 w3.drew := below_drewN bR 1
       have h1 := (HO3.out.below hd).put HJL.out o.r
       have h2 : Me.Keeps (fun k => k = g) w3.drew w4 := by rw [HW4.out]; exact (setCells_heap _ _ _).2
       have h3 : Own kR w4 0 (.slice (some ⟨g, 0, none⟩) nv cv) (s.R.set j o.r) := by rw [HW4.out, HZ.out]; exact h1
       exact ((HR3.out.below hd).putR rfl h2 h3 (by rw [<- HEE.out.2, <- HS.out]; exact HOK.out)).behind (HBW.out.trans (hd.mono HBW.out.size))
      simp only [pz]
      clear hop3 hix he0 hg HO3 HTH
      go_upto_region 9 with fail
      refine wp_region_still_tail 8 (by kernel_rfl) (by kernel_rfl) ?_
      simp only [List.take_succ_cons, List.take_zero, List.drop_succ_cons, List.drop_zero]
      iterate 8 still_step
      refine wpStill_nil ?_
      refine wpList_store_mid rfl 38 (.tmp 63) (.tmp 62) rfl g (j * 4) zz rfl (by rw [HZ.out]; rfl) HTZ.out HINF.out HONE.out ?_
      rw [<- HW4.out]
      clear b1 b2 b3 b4 k0 m1 HTZ HINF HONE HZS HZ HW4
      go_wp2_with fail
      go_ret
      exact ⟨ret_int (by rw [HE.out, HEE.out.1]), _, by rw [HS.out, HEE.out.2]; exact HTU.out⟩
     | none =>
      have hm0 : ∀ t : Beh w3, t.wd.cell? ⟨m, 0, none⟩ = some (.slice av nv cv) := fun t => (HR3.out.below t.ok).cells.1
      have hm3 : ∀ t : Beh w3, t.wd.cell? ⟨m, 3, none⟩ = some (.int .i64 (cp : Int)) := fun t => by rw [HCP.out]; exact (HR3.out.below t.ok).cells.2.2.2.1
      have HOP3 := hid hop3
      by_cases hfl : cp <= nv
      ·have HEE := hid (putR_full (s := s) hk HVB.out (HLV.out hk) hix (by rw [<- HCP.out, <- HN.out]; exact hfl))
       have hfl' : (cp : Int) <= (nv : Int) := by omega
       simp only [pz]
       clear hop3 hix hfl
       go_upto_region 11 with fail
       refine wp_region_beh (by kernel_rfl) (by kernel_rfl) ?_
       repeat (go_big_quiet_step (fail))
       refine wpQuiet_nil ?_
       rintro _ ⟨t, rfl⟩
       have HT := hid (HSAME.out.then t.ok)
       clear hm0 hm3 m1 k0
       go_wp2_with fail
       go_ret
       exact ⟨ret_int (by rw [HE.out, HEE.out.1]), _, by rw [HS.out, HEE.out.2]; exact HT.out⟩
      ·have HEE := hid (putR_new (s := s) hk HVB.out (HLV.out hk) hix (by rw [<- HCP.out, <- HN.out]; exact hfl))
       have hfl' : ¬ (cp : Int) <= (nv : Int) := by omega
       simp only [pz]
       clear hop3 hix hfl
       go_upto_region 11 with fail
       refine wp_region_beh (by kernel_rfl) (by kernel_rfl) ?_
       repeat (go_big_quiet_step (fail))
       refine wpQuiet_nil ?_
       rintro _ ⟨t, rfl⟩
       have HR4 := hid (HR3.out.below t.ok)
       have HO4 := hid (HO3.out.below t.ok)
       have HBT : Hid (Below w.heap.size w t.wd) := HBW.out.trans (t.ok.mono HBW.out.size)
       have hop3 := HOP3.out.below t.ok
       have n1 : t.wd.cell? ⟨m, 0, none⟩ = some (.slice av nv cv) := hm0 t
       clear hm0 hm3 m1 k0 HO3 HR3 HOP3 HSAME
       generalize t.wd = u at *
       have b1 : u.cell? ⟨w.heap.size, 1, none⟩ = some (.int .u32 (o.r.x : Int)) := crw hop3 rfl
       have b2 : u.cell? ⟨w.heap.size, 2, none⟩ = some (.int .i64 o.r.n) := crw hop3 rfl
       have b3 : u.cell? ⟨w.heap.size, 3, none⟩ = some (.int .u32 (o.r.via : Int)) := crw hop3 rfl
       have b4 : u.cell? ⟨w.heap.size, 4, none⟩ = some (.bool o.r.loc) := crw hop3 rfl
       have n1b : (u.alloc (.cells #[.int .u32 (o.r.x : Int), .int .i64 o.r.n, .int .u32 (o.r.via : Int), .bool o.r.loc] 38)).cell? ⟨m, 0, none⟩ = some (.slice av nv cv) := (Below.cell (bR.alloc nL _) (p := ⟨m, 0, none⟩) (HR4.out.lt (.inl rfl))).trans n1
       obtain ⟨w4, HW4⟩ : ∃ w4, Hid (w4 = (u.alloc (.cells #[.int .u32 (o.r.x : Int), .int .i64 o.r.n, .int .u32 (o.r.via : Int), .bool o.r.loc] 38)).drew) := ⟨_, rfl⟩
       have hb4 : Below u.heap.size u w4 := by rw [HW4.out]; exact below_drewN (bR.alloc nL _) 1
       have r4 : w4.heap[u.heap.size]? = some (.cells o.r.cells 38 (0, 0)) := by rw [HW4.out]; exact heap_alloc_new u _
       obtain ⟨v', w5, hap, ho5, hg5, hn5⟩ := append_one (K := kR) 47 o.r u.heap.size (HO4.out.below hb4) r4 (Nat.zero_le _) (by have := HN.out; omega)
       obtain ⟨av', nv', cv', rfl, -, -, -⟩ := ho5.shape
       have hk5 : Me.Keeps (fun k => Value.ownBlock (.slice av nv cv) = some k) u w5 := (Me.Keeps.of hb4).trans (Me.Keeps.grown hg5 fun k e => e)
       have HAP : Hid ((Builtin.append_ #[47, 47] 47 #[.slice av nv cv, .slice (some ⟨u.heap.size, 0, none⟩) 1 1]).run Tryz.prog w4 = .ok (.slice av' nv' cv') w5) := hap
       obtain ⟨w6, HW6⟩ : ∃ w6, Hid (w6 = w5.setCell ⟨m, 0, none⟩ (.slice av' nv' cv')) := ⟨_, rfl⟩
       have HTU : Hid (RTurn w w6 m ⟨.slice av nv cv, vn, vf⟩ { s with R := s.R ++ [o.r] } ⟨.slice av' nv' cv', vn, vf⟩) := by
        unfold Hid
        rw [HW6.out]
        exact (HR4.out.storeR (x := .slice av' nv' cv') hk5 ho5 (fun k e => (hn5 k e).imp id fun h => Nat.le_trans hb4.size h) (by rw [<- HEE.out.2, <- HS.out]; exact HOK.out)).behind HBT.out
       have r5 : w5.heap[m]? = some (.cells (rkC ⟨.slice av nv cv, vn, vf⟩ s) 142) := (hk5.block m (HR4.out.lt (.inl rfl)) HR4.out.apart.1).trans HR4.out.row
       obtain ⟨v5, m5⟩ : ∃ v, w5.cell? ⟨m, 0, none⟩ = some v := ⟨_, crw r5 rfl⟩
       have m6 : w5.frozen? ⟨m, 0, none⟩ = false := frozen_of_row _ _ _ _ _ r5
       clear hop3 hb4 r4 hap ho5 hg5 hn5 hk5 r5 HO4 HR4
       go_upto_region 13 with fail
       go_region_law (first | (rw [<- HW4.out]; refine step_append_run rfl _ _ _ _ rfl _ _ rfl rfl HAP.out ?_))
       all_goals (
        rw [<- HW6.out]
        clear b1 b2 b3 b4 n1 n1b m5 m6
        go_wp2_with fail
        go_ret
        exact ⟨ret_int (by rw [HE.out, HEE.out.1]), _, by rw [HS.out, HEE.out.2]; exact HTU.out⟩)
   ·rw [hk] at c0
    go_enter Tryz.func78, Tryz.ntmps78
    go_upto_region 1 with fail
    rw [<- HW1.out]
    clear HW1
    go_wp2_with fail
    refine HV.out.mono ?_
    rintro _ w2 ⟨rfl, hb2⟩
    have HB2 : Hid (Below w1.heap.size w1 w2) := hb2
    have d0 : w2.cell? ⟨w.heap.size, 0, none⟩ = some (.int .i64 2) := (hb2.cell (p := ⟨w.heap.size, 0, none⟩) HGL.out).trans c0
    have d1 : w2.cell? ⟨w.heap.size, 1, none⟩ = some (.int .u32 (o.r.x : Int)) := (hb2.cell (p := ⟨w.heap.size, 1, none⟩) HGL.out).trans c1
    have d2 : w2.cell? ⟨w.heap.size, 2, none⟩ = some (.int .i64 o.r.n) := (hb2.cell (p := ⟨w.heap.size, 2, none⟩) HGL.out).trans c2
    clear hb2 c0 c1 c2 c3 c4
    go_wp2_with fail
    refine (HA.out w2 HB2.out).mono ?_
    rintro _ w3 ⟨rfl, hb3⟩
    have HB3 : Hid (Below w1.heap.size w1 w3) := HB2.out.trans (hb3.mono HB2.out.size)
    clear hb3 HA HV d0 d1 d2
    have HR3 := hid (HR.out.below HB3.out)
    have HO3 : Hid (Own kR w3 0 (.slice av nv cv) s.R) := HR3.out.r
    have HBW : Hid (Below w.heap.size w w3) := HB1.out.trans (HB3.out.mono HB1.out.size)
    have hop3 := HOPW.out w3 HB3.out
    have k0 : w3.cell? ⟨w.heap.size, 0, none⟩ = some (.int .i64 2) := by rw [<- hk]; exact hop3.kind
    have m1 : w3.cell? ⟨m, 0, none⟩ = some (.slice av nv cv) := HR3.out.cells.1
    have HSAME : Hid (RTurn w w3 m ⟨.slice av nv cv, vn, vf⟩ s ⟨.slice av nv cv, vn, vf⟩) := (RTurn.same (v := ⟨.slice av nv cv, vn, vf⟩) HR.out HB3.out).behind HB1.out
    cases hix : ix Tri.Vt.key s.R o.r.key with
    | none =>
     have HEE := hid (delR_none (s := s) hk HVB.out hix)
     simp only [pz]
     clear hop3 hix
     go_wp2_with fail
     go_ret
     exact ⟨ret_int (by rw [HE.out, HEE.out.1]), _, by rw [HS.out, HEE.out.2]; exact HSAME.out⟩
    | some j =>
     have HEE := hid (delR_some (s := s) hk HVB.out hix)
     obtain ⟨e0, he0, -⟩ := ix_some hix
     obtain ⟨g, rfl, hg, -⟩ := atR HO3.out he0
     have hjl : j < nv := by have := (List.getElem?_eq_some_iff.1 he0).1; have := HN.out; omega
     have HJL : Hid (j < s.R.length) := by have := HN.out; unfold Hid; omega
     have hj1 : (j : Int) < (nv : Int) := int_lt hjl
     have hj2 : ¬ (j : Int) < 0 := by omega
     have hj3 : (0 : Int) <= (j : Int) := by omega
     obtain ⟨A, hA1, HAA⟩ : ∃ A : Addr, (if cv = j + 1 then some (⟨g, 0, none⟩ : Addr) else some ⟨g, (j + 1) * 4, none⟩) = some A /\ (j + 1 < nv -> A = ⟨g, (j + 1) * 4, none⟩) := by
      by_cases e : cv = j + 1
      ·exact ⟨_, if_pos e, fun h => by omega⟩
      ·exact ⟨_, if_neg e, fun _ => rfl⟩
     have hdr : Below w3.heap.size w3 w3.drew := below_drewN bR 1
     obtain ⟨w4, hap, ho4, hg4, hs4⟩ := erase_run (K := kR) 47 (HO3.out.below hdr) HJL.out HN.out HAA
     have HAP : Hid ((Builtin.append_ #[47, 47] 47 #[.slice (some ⟨g, 0, none⟩) j cv, .slice (some A) (nv - (j + 1)) (cv - (j + 1))]).run Tryz.prog w3.drew = .ok (.slice (some ⟨g, 0, none⟩) (j + (nv - (j + 1))) cv) w4) := hap
     have HK4 : Hid (Me.Keeps (fun k => Value.ownBlock (.slice (some ⟨g, 0, none⟩) nv cv) = some k) w3 w4) := (Me.Keeps.of hdr).trans (Me.Keeps.grown hg4 fun k e => e)
     have HTU : Hid (RTurn w (w4.setCell ⟨m, 0, none⟩ (.slice (some ⟨g, 0, none⟩) (j + (nv - (j + 1))) cv)) m ⟨.slice (some ⟨g, 0, none⟩) nv cv, vn, vf⟩ { s with R := s.R.eraseIdx j } ⟨.slice (some ⟨g, 0, none⟩) (j + (nv - (j + 1))) cv, vn, vf⟩) := (HR3.out.storeR (x := .slice (some ⟨g, 0, none⟩) (j + (nv - (j + 1))) cv) HK4.out ho4 (fun k e => .inl e) (by rw [<- HEE.out.2, <- HS.out]; exact HOK.out)).behind HBW.out
     have hr4 : w4.heap[m]? = some (.cells (rkC ⟨.slice (some ⟨g, 0, none⟩) nv cv, vn, vf⟩ s) 142) := (HK4.out.block m (HR3.out.lt (.inl rfl)) HR3.out.apart.1).trans HR3.out.row
     obtain ⟨v2, e2⟩ : ∃ v, w4.cell? ⟨m, 0, none⟩ = some v := ⟨_, crw hr4 rfl⟩
     have e3 : w4.frozen? ⟨m, 0, none⟩ = false := frozen_of_row _ _ _ _ _ hr4
     have hw1 : IntKind.i64.wrap ((j : Int) + 1) = (j : Int) + 1 := by rw [IntKind.wrap_i64]; omega
     have hw2 : ((j : Int) + 1).toNat = j + 1 := by omega
     have hw3 : (j : Int) + 1 <= (nv : Int) := by omega
     have hw4 : (0 : Int) <= (j : Int) + 1 := by omega
     have hw5 : j <= cv := by omega
     simp only [pz]
     clear hop3 hix he0 hg hdr hap ho4 hg4 hs4 HAA HK4 hr4 HO3
     go_upto_region 6 with fail
     go_region_law (first | (refine step_append_run rfl _ _ _ _ rfl _ _ rfl rfl HAP.out ?_) | fail)
     all_goals (
      go_wp2_with fail
      go_ret
      exact ⟨ret_int (by rw [HE.out, HEE.out.1]), _, by rw [HS.out, HEE.out.2]; exact HTU.out⟩)
theorem neighR_any (w : World) {m : Nat} {v : Vs} {s : Ks} (o : Opv) (h : Rf w m v s) (ho : o.Ok) (hk : o.kind = 3 \/ o.kind = 4) :
  Calls Tryz.prog 79 #[.pointer (some ⟨m, 0, none⟩), .agg o.cells] w fun e w' => e = .returned (.int .i64 (oneE s o)) /\ ∃ v', RTurn w w' m v (oneS s o) v' := by
 obtain ⟨vr, vn, vf⟩ := v
 obtain ⟨w1, HW1⟩ : ∃ w1, Hid (w1 = w.alloc (.cells o.cells 46)) := ⟨_, rfl⟩
 have hb1 : Below w.heap.size w w1 := by rw [HW1.out]; exact bR.alloc nL _
 have hop : OpB w1 w.heap.size o := by unfold OpB; rw [HW1.out]; exact heap_alloc_new w _
 have HOP := hid hop
 have HR := hid (h.below hb1)
 have HB1 := hid hb1
 have HOK := hid (h.ok.one ho)
 have HOO := hid ho
 obtain ⟨E, HE⟩ : ∃ E, Hid (E = oneE s o) := ⟨_, rfl⟩
 obtain ⟨S, HS⟩ : ∃ S, Hid (S = oneS s o) := ⟨_, rfl⟩
 rw [<- HE.out, <- HS.out]
 rw [<- HS.out] at HOK
 obtain ⟨av, nv, cv, hv, HN, hnc, hcm⟩ := h.n.shape
 obtain rfl : vn = .slice av nv cv := hv
 have hle : nv <= 256 := by have := h.ok.nl; have := HN.out; omega
 obtain ⟨cp, HCP⟩ : ∃ cp, Hid (cp = s.cn) := ⟨_, rfl⟩
 unfold maxLen at hcm
 have HOPW : Hid (∀ u : World, Below w1.heap.size w1 u -> OpB u w.heap.size o) := fun u hu => hop.below hu
 have HGL : Hid (w.heap.size < w1.heap.size) := (gsl hop)
 clear h hb1 hop ho
 have c0 : w1.cell? ⟨w.heap.size, 0, none⟩ = some (.int .i64 o.kind) := HOP.out.kind
 have c5 : w1.cell? ⟨w.heap.size, 5, none⟩ = some (.int .u32 (o.n.ip : Int)) := crw HOP.out rfl
 have c6 : w1.cell? ⟨w.heap.size, 6, none⟩ = some (.int .u8 (o.n.mac.b0 : Int)) := crw HOP.out rfl
 have c7 : w1.cell? ⟨w.heap.size, 7, none⟩ = some (.int .u8 (o.n.mac.b1 : Int)) := crw HOP.out rfl
 have c8 : w1.cell? ⟨w.heap.size, 8, none⟩ = some (.int .u8 (o.n.mac.b2 : Int)) := crw HOP.out rfl
 have c9 : w1.cell? ⟨w.heap.size, 9, none⟩ = some (.int .u8 (o.n.mac.b3 : Int)) := crw HOP.out rfl
 have c10 : w1.cell? ⟨w.heap.size, 10, none⟩ = some (.int .u8 (o.n.mac.b4 : Int)) := crw HOP.out rfl
 have c11 : w1.cell? ⟨w.heap.size, 11, none⟩ = some (.int .u8 (o.n.mac.b5 : Int)) := crw HOP.out rfl
 have HA : Hid (Calls Tryz.prog 66 #[.pointer (some ⟨m, 0, none⟩), .int .u32 (o.n.ip : Int)] w1 fun e w' => e = .returned (.int .i64 (pz (ix Nb.ip s.N o.n.ip))) /\ Below w1.heap.size w1 w') := (neighAt_any w1 o.n.ip HR.out).mono fun e w' h => ⟨h.1, h.2 ▸ bR⟩
 go_enter Tryz.func79, Tryz.ntmps79
 go_upto_region 1 with fail
 rw [<- HW1.out]
 clear HW1
 go_wp2_with fail
 refine HA.out.mono ?_
 rintro _ w3 ⟨rfl, hb3⟩
 have HB3 : Hid (Below w1.heap.size w1 w3) := hb3
 clear hb3 HA c5 c6 c7 c8 c9 c10 c11 c0
 rcases hk with hk | hk
 ·have HK1 := hid hk
  have HR3 := hid (HR.out.below HB3.out)
  have HO3 : Hid (Own kN w3 0 (.slice av nv cv) s.N) := HR3.out.n
  have HBW : Hid (Below w.heap.size w w3) := HB1.out.trans (HB3.out.mono HB1.out.size)
  have hop3 := HOPW.out w3 HB3.out
  have k0 : w3.cell? ⟨w.heap.size, 0, none⟩ = some (.int .i64 3) := by rw [<- hk]; exact hop3.kind
  have m1 : w3.cell? ⟨m, 1, none⟩ = some (.slice av nv cv) := HR3.out.cells.2.1
  have HSAME : Hid (RTurn w w3 m ⟨vr, .slice av nv cv, vf⟩ s ⟨vr, .slice av nv cv, vf⟩) := (RTurn.same (v := ⟨vr, .slice av nv cv, vf⟩) HR.out HB3.out).behind HB1.out
  cases hix : ix Nb.ip s.N o.n.ip with
  | some j =>
   have HEE := hid (putN_some (s := s) hk hix)
   obtain ⟨e0, he0, -⟩ := ix_some hix
   obtain ⟨g, rfl, hg, -⟩ := atN HO3.out he0
   have hjl : j < nv := by have := (List.getElem?_eq_some_iff.1 he0).1; have := HN.out; omega
   have HJL : Hid (j < s.N.length) := by have := HN.out; unfold Hid; omega
   have hj1 : (j : Int) < (nv : Int) := int_lt hjl
   have hj2 : ¬ (j : Int) < 0 := by omega
   have hj3 : (0 : Int) <= (j : Int) := by omega
   have b5 : w3.cell? ⟨w.heap.size, 5, none⟩ = some (.int .u32 (o.n.ip : Int)) := crw hop3 rfl
   have b6 : w3.cell? ⟨w.heap.size, 6, none⟩ = some (.int .u8 (o.n.mac.b0 : Int)) := crw hop3 rfl
   have b7 : w3.cell? ⟨w.heap.size, 7, none⟩ = some (.int .u8 (o.n.mac.b1 : Int)) := crw hop3 rfl
   have b8 : w3.cell? ⟨w.heap.size, 8, none⟩ = some (.int .u8 (o.n.mac.b2 : Int)) := crw hop3 rfl
   have b9 : w3.cell? ⟨w.heap.size, 9, none⟩ = some (.int .u8 (o.n.mac.b3 : Int)) := crw hop3 rfl
   have b10 : w3.cell? ⟨w.heap.size, 10, none⟩ = some (.int .u8 (o.n.mac.b4 : Int)) := crw hop3 rfl
   have b11 : w3.cell? ⟨w.heap.size, 11, none⟩ = some (.int .u8 (o.n.mac.b5 : Int)) := crw hop3 rfl
   have HTH : Hid (w3.drew.there g (j * 7) 7) := (HO3.out.below (below_drewN bR 1)).there HJL.out
   obtain ⟨zz, HZ⟩ : ∃ zz : Array Value, Hid (zz = o.n.cells) := ⟨_, rfl⟩
   have HZS : Hid (zz.size = 7) := by unfold Hid; rw [HZ.out]; rfl
   have HTZ : Hid (w3.drew.there g (j * 7) zz.size) := by unfold Hid; rw [HZS.out]; exact HTH.out
   have HINF : Hid ((Tryz.prog.info? 42).map (·.size) = some zz.size) := by unfold Hid; rw [HZS.out]; kernel_rfl
   have HONE : Hid (zz.all (·.oneCell') = true) := by unfold Hid; rw [HZ.out]; exact one_cells o.n
   obtain ⟨w4, HW4⟩ : ∃ w4, Hid (w4 = World.setCells { heap := w3.heap, tape := w3.tape, drawn := w3.drawn + 1, os := w3.os, output := w3.output } g (j * 7) zz.toList) := ⟨_, rfl⟩
   have HTU : Hid (RTurn w w4 m ⟨vr, .slice (some ⟨g, 0, none⟩) nv cv, vf⟩ { s with N := s.N.set j o.n } ⟨vr, .slice (some ⟨g, 0, none⟩) nv cv, vf⟩) := by
    have hd : Below w3.heap.size w3 w3.drew := below_drewN bR 1
    have h1 := (HO3.out.below hd).put HJL.out o.n
    have h2 : Me.Keeps (fun k => k = g) w3.drew w4 := by rw [HW4.out]; exact (setCells_heap _ _ _).2
    have h3 : Own kN w4 0 (.slice (some ⟨g, 0, none⟩) nv cv) (s.N.set j o.n) := by rw [HW4.out, HZ.out]; exact h1
    exact ((HR3.out.below hd).putN rfl h2 h3 (by rw [<- HEE.out.2, <- HS.out]; exact HOK.out)).behind (HBW.out.trans (hd.mono HBW.out.size))
   simp only [pz]
   clear hop3 hix he0 hg HO3 HTH
   go_upto_region 7 with fail
   refine wp_region_still_tail 8 (by kernel_rfl) (by kernel_rfl) ?_
   simp only [List.take_succ_cons, List.take_zero, List.drop_succ_cons, List.drop_zero]
   iterate 8 still_step
   refine wpStill_nil ?_
   refine wpList_store_mid rfl 42 (.tmp 42) (.tmp 41) rfl g (j * 7) zz rfl (by rw [HZ.out]; rfl) HTZ.out HINF.out HONE.out ?_
   rw [<- HW4.out]
   clear b5 b6 b7 b8 b9 b10 b11 k0 m1 HTZ HINF HONE HZS HZ HW4
   go_wp2_with fail
   go_ret
   exact ⟨ret_int (by rw [HE.out, HEE.out.1]), _, by rw [HS.out, HEE.out.2]; exact HTU.out⟩
  | none =>
   have hm0 : ∀ t : Beh w3, t.wd.cell? ⟨m, 1, none⟩ = some (.slice av nv cv) := fun t => (HR3.out.below t.ok).cells.2.1
   have hm3 : ∀ t : Beh w3, t.wd.cell? ⟨m, 4, none⟩ = some (.int .i64 (cp : Int)) := fun t => by rw [HCP.out]; exact (HR3.out.below t.ok).cells.2.2.2.2.1
   have HOP3 := hid hop3
   by_cases hfl : cp <= nv
   ·have HEE := hid (putN_full (s := s) hk hix (by rw [<- HCP.out, <- HN.out]; exact hfl))
    have hfl' : (cp : Int) <= (nv : Int) := by omega
    simp only [pz]
    clear hop3 hix hfl
    go_upto_region 9 with fail
    refine wp_region_beh (by kernel_rfl) (by kernel_rfl) ?_
    repeat (go_big_quiet_step (fail))
    refine wpQuiet_nil ?_
    rintro _ ⟨t, rfl⟩
    have HT := hid (HSAME.out.then t.ok)
    clear hm0 hm3 m1 k0
    go_wp2_with fail
    go_ret
    exact ⟨ret_int (by rw [HE.out, HEE.out.1]), _, by rw [HS.out, HEE.out.2]; exact HT.out⟩
   ·have HEE := hid (putN_new (s := s) hk hix (by rw [<- HCP.out, <- HN.out]; exact hfl))
    have hfl' : ¬ (cp : Int) <= (nv : Int) := by omega
    simp only [pz]
    clear hop3 hix hfl
    go_upto_region 9 with fail
    refine wp_region_beh (by kernel_rfl) (by kernel_rfl) ?_
    repeat (go_big_quiet_step (fail))
    refine wpQuiet_nil ?_
    rintro _ ⟨t, rfl⟩
    have HR4 := hid (HR3.out.below t.ok)
    have HO4 := hid (HO3.out.below t.ok)
    have HBT : Hid (Below w.heap.size w t.wd) := HBW.out.trans (t.ok.mono HBW.out.size)
    have hop3 := HOP3.out.below t.ok
    have n1 : t.wd.cell? ⟨m, 1, none⟩ = some (.slice av nv cv) := hm0 t
    clear hm0 hm3 m1 k0 HO3 HR3 HOP3 HSAME
    generalize t.wd = u at *
    have b5 : u.cell? ⟨w.heap.size, 5, none⟩ = some (.int .u32 (o.n.ip : Int)) := crw hop3 rfl
    have b6 : u.cell? ⟨w.heap.size, 6, none⟩ = some (.int .u8 (o.n.mac.b0 : Int)) := crw hop3 rfl
    have b7 : u.cell? ⟨w.heap.size, 7, none⟩ = some (.int .u8 (o.n.mac.b1 : Int)) := crw hop3 rfl
    have b8 : u.cell? ⟨w.heap.size, 8, none⟩ = some (.int .u8 (o.n.mac.b2 : Int)) := crw hop3 rfl
    have b9 : u.cell? ⟨w.heap.size, 9, none⟩ = some (.int .u8 (o.n.mac.b3 : Int)) := crw hop3 rfl
    have b10 : u.cell? ⟨w.heap.size, 10, none⟩ = some (.int .u8 (o.n.mac.b4 : Int)) := crw hop3 rfl
    have b11 : u.cell? ⟨w.heap.size, 11, none⟩ = some (.int .u8 (o.n.mac.b5 : Int)) := crw hop3 rfl
    have n1b : (u.alloc (.cells #[.int .u32 (o.n.ip : Int), .int .u8 (o.n.mac.b0 : Int), .int .u8 (o.n.mac.b1 : Int), .int .u8 (o.n.mac.b2 : Int), .int .u8 (o.n.mac.b3 : Int), .int .u8 (o.n.mac.b4 : Int), .int .u8 (o.n.mac.b5 : Int)] 42)).cell? ⟨m, 1, none⟩ = some (.slice av nv cv) := (Below.cell (bR.alloc nL _) (p := ⟨m, 1, none⟩) (HR4.out.lt (.inl rfl))).trans n1
    obtain ⟨w4, HW4⟩ : ∃ w4, Hid (w4 = (u.alloc (.cells #[.int .u32 (o.n.ip : Int), .int .u8 (o.n.mac.b0 : Int), .int .u8 (o.n.mac.b1 : Int), .int .u8 (o.n.mac.b2 : Int), .int .u8 (o.n.mac.b3 : Int), .int .u8 (o.n.mac.b4 : Int), .int .u8 (o.n.mac.b5 : Int)] 42)).drew) := ⟨_, rfl⟩
    have hb4 : Below u.heap.size u w4 := by rw [HW4.out]; exact below_drewN (bR.alloc nL _) 1
    have r4 : w4.heap[u.heap.size]? = some (.cells o.n.cells 42 (0, 0)) := by rw [HW4.out]; exact heap_alloc_new u _
    obtain ⟨v', w5, hap, ho5, hg5, hn5⟩ := append_one (K := kN) 48 o.n u.heap.size (HO4.out.below hb4) r4 (Nat.zero_le _) (by have := HN.out; omega)
    obtain ⟨av', nv', cv', rfl, -, -, -⟩ := ho5.shape
    have hk5 : Me.Keeps (fun k => Value.ownBlock (.slice av nv cv) = some k) u w5 := (Me.Keeps.of hb4).trans (Me.Keeps.grown hg5 fun k e => e)
    have HAP : Hid ((Builtin.append_ #[48, 48] 48 #[.slice av nv cv, .slice (some ⟨u.heap.size, 0, none⟩) 1 1]).run Tryz.prog w4 = .ok (.slice av' nv' cv') w5) := hap
    obtain ⟨w6, HW6⟩ : ∃ w6, Hid (w6 = w5.setCell ⟨m, 1, none⟩ (.slice av' nv' cv')) := ⟨_, rfl⟩
    have HTU : Hid (RTurn w w6 m ⟨vr, .slice av nv cv, vf⟩ { s with N := s.N ++ [o.n] } ⟨vr, .slice av' nv' cv', vf⟩) := by
     unfold Hid
     rw [HW6.out]
     exact (HR4.out.storeN (x := .slice av' nv' cv') hk5 ho5 (fun k e => (hn5 k e).imp id fun h => Nat.le_trans hb4.size h) (by rw [<- HEE.out.2, <- HS.out]; exact HOK.out)).behind HBT.out
    have r5 : w5.heap[m]? = some (.cells (rkC ⟨vr, .slice av nv cv, vf⟩ s) 142) := (hk5.block m (HR4.out.lt (.inl rfl)) HR4.out.apart.2.1).trans HR4.out.row
    obtain ⟨v5, m5⟩ : ∃ v, w5.cell? ⟨m, 1, none⟩ = some v := ⟨_, crw r5 rfl⟩
    have m6 : w5.frozen? ⟨m, 1, none⟩ = false := frozen_of_row _ _ _ _ _ r5
    clear hop3 hb4 r4 hap ho5 hg5 hn5 hk5 r5 HO4 HR4
    go_upto_region 11 with fail
    go_region_law (first | (rw [<- HW4.out]; refine step_append_run rfl _ _ _ _ rfl _ _ rfl rfl HAP.out ?_))
    all_goals (
     rw [<- HW6.out]
     clear b5 b6 b7 b8 b9 b10 b11 n1 n1b m5 m6
     go_wp2_with fail
     go_ret
     exact ⟨ret_int (by rw [HE.out, HEE.out.1]), _, by rw [HS.out, HEE.out.2]; exact HTU.out⟩)
 ·have HK1 := hid hk
  have HR3 := hid (HR.out.below HB3.out)
  have HO3 : Hid (Own kN w3 0 (.slice av nv cv) s.N) := HR3.out.n
  have HBW : Hid (Below w.heap.size w w3) := HB1.out.trans (HB3.out.mono HB1.out.size)
  have hop3 := HOPW.out w3 HB3.out
  have k0 : w3.cell? ⟨w.heap.size, 0, none⟩ = some (.int .i64 4) := by rw [<- hk]; exact hop3.kind
  have m1 : w3.cell? ⟨m, 1, none⟩ = some (.slice av nv cv) := HR3.out.cells.2.1
  have HSAME : Hid (RTurn w w3 m ⟨vr, .slice av nv cv, vf⟩ s ⟨vr, .slice av nv cv, vf⟩) := (RTurn.same (v := ⟨vr, .slice av nv cv, vf⟩) HR.out HB3.out).behind HB1.out
  cases hix : ix Nb.ip s.N o.n.ip with
  | none =>
   have HEE := hid (delN_none (s := s) hk hix)
   simp only [pz]
   clear hop3 hix
   go_wp2_with fail
   go_ret
   exact ⟨ret_int (by rw [HE.out, HEE.out.1]), _, by rw [HS.out, HEE.out.2]; exact HSAME.out⟩
  | some j =>
   have HEE := hid (delN_some (s := s) hk hix)
   obtain ⟨e0, he0, -⟩ := ix_some hix
   obtain ⟨g, rfl, hg, -⟩ := atN HO3.out he0
   have hjl : j < nv := by have := (List.getElem?_eq_some_iff.1 he0).1; have := HN.out; omega
   have HJL : Hid (j < s.N.length) := by have := HN.out; unfold Hid; omega
   have hj1 : (j : Int) < (nv : Int) := int_lt hjl
   have hj2 : ¬ (j : Int) < 0 := by omega
   have hj3 : (0 : Int) <= (j : Int) := by omega
   obtain ⟨A, hA1, HAA⟩ : ∃ A : Addr, (if cv = j + 1 then some (⟨g, 0, none⟩ : Addr) else some ⟨g, (j + 1) * 7, none⟩) = some A /\ (j + 1 < nv -> A = ⟨g, (j + 1) * 7, none⟩) := by
    by_cases e : cv = j + 1
    ·exact ⟨_, if_pos e, fun h => by omega⟩
    ·exact ⟨_, if_neg e, fun _ => rfl⟩
   have hdr : Below w3.heap.size w3 w3.drew := below_drewN bR 1
   obtain ⟨w4, hap, ho4, hg4, hs4⟩ := erase_run (K := kN) 48 (HO3.out.below hdr) HJL.out HN.out HAA
   have HAP : Hid ((Builtin.append_ #[48, 48] 48 #[.slice (some ⟨g, 0, none⟩) j cv, .slice (some A) (nv - (j + 1)) (cv - (j + 1))]).run Tryz.prog w3.drew = .ok (.slice (some ⟨g, 0, none⟩) (j + (nv - (j + 1))) cv) w4) := hap
   have HK4 : Hid (Me.Keeps (fun k => Value.ownBlock (.slice (some ⟨g, 0, none⟩) nv cv) = some k) w3 w4) := (Me.Keeps.of hdr).trans (Me.Keeps.grown hg4 fun k e => e)
   have HTU : Hid (RTurn w (w4.setCell ⟨m, 1, none⟩ (.slice (some ⟨g, 0, none⟩) (j + (nv - (j + 1))) cv)) m ⟨vr, .slice (some ⟨g, 0, none⟩) nv cv, vf⟩ { s with N := s.N.eraseIdx j } ⟨vr, .slice (some ⟨g, 0, none⟩) (j + (nv - (j + 1))) cv, vf⟩) := (HR3.out.storeN (x := .slice (some ⟨g, 0, none⟩) (j + (nv - (j + 1))) cv) HK4.out ho4 (fun k e => .inl e) (by rw [<- HEE.out.2, <- HS.out]; exact HOK.out)).behind HBW.out
   have hr4 : w4.heap[m]? = some (.cells (rkC ⟨vr, .slice (some ⟨g, 0, none⟩) nv cv, vf⟩ s) 142) := (HK4.out.block m (HR3.out.lt (.inl rfl)) HR3.out.apart.2.1).trans HR3.out.row
   obtain ⟨v2, e2⟩ : ∃ v, w4.cell? ⟨m, 1, none⟩ = some v := ⟨_, crw hr4 rfl⟩
   have e3 : w4.frozen? ⟨m, 1, none⟩ = false := frozen_of_row _ _ _ _ _ hr4
   have hw1 : IntKind.i64.wrap ((j : Int) + 1) = (j : Int) + 1 := by rw [IntKind.wrap_i64]; omega
   have hw2 : ((j : Int) + 1).toNat = j + 1 := by omega
   have hw3 : (j : Int) + 1 <= (nv : Int) := by omega
   have hw4 : (0 : Int) <= (j : Int) + 1 := by omega
   have hw5 : j <= cv := by omega
   simp only [pz]
   clear hop3 hix he0 hg hdr hap ho4 hg4 hs4 HAA HK4 hr4 HO3
   go_upto_region 4 with fail
   go_region_law (first | (refine step_append_run rfl _ _ _ _ rfl _ _ rfl rfl HAP.out ?_) | fail)
   all_goals (
    go_wp2_with fail
    go_ret
    exact ⟨ret_int (by rw [HE.out, HEE.out.1]), _, by rw [HS.out, HEE.out.2]; exact HTU.out⟩)
theorem fdbR_any (w : World) {m : Nat} {v : Vs} {s : Ks} (o : Opv) (h : Rf w m v s) (ho : o.Ok) (hk : o.kind = 5 \/ o.kind = 6) :
  Calls Tryz.prog 80 #[.pointer (some ⟨m, 0, none⟩), .agg o.cells] w fun e w' => e = .returned (.int .i64 (oneE s o)) /\ ∃ v', RTurn w w' m v (oneS s o) v' := by
 obtain ⟨vr, vn, vf⟩ := v
 obtain ⟨w1, HW1⟩ : ∃ w1, Hid (w1 = w.alloc (.cells o.cells 46)) := ⟨_, rfl⟩
 have hb1 : Below w.heap.size w w1 := by rw [HW1.out]; exact bR.alloc nL _
 have hop : OpB w1 w.heap.size o := by unfold OpB; rw [HW1.out]; exact heap_alloc_new w _
 have HOP := hid hop
 have HR := hid (h.below hb1)
 have HB1 := hid hb1
 have HOK := hid (h.ok.one ho)
 have HOO := hid ho
 obtain ⟨E, HE⟩ : ∃ E, Hid (E = oneE s o) := ⟨_, rfl⟩
 obtain ⟨S, HS⟩ : ∃ S, Hid (S = oneS s o) := ⟨_, rfl⟩
 rw [<- HE.out, <- HS.out]
 rw [<- HS.out] at HOK
 obtain ⟨av, nv, cv, hv, HN, hnc, hcm⟩ := h.f.shape
 obtain rfl : vf = .slice av nv cv := hv
 have hle : nv <= 256 := by have := h.ok.fl; have := HN.out; omega
 obtain ⟨cp, HCP⟩ : ∃ cp, Hid (cp = s.cf) := ⟨_, rfl⟩
 unfold maxLen at hcm
 have HOPW : Hid (∀ u : World, Below w1.heap.size w1 u -> OpB u w.heap.size o) := fun u hu => hop.below hu
 have HGL : Hid (w.heap.size < w1.heap.size) := (gsl hop)
 clear h hb1 hop ho
 have c0 : w1.cell? ⟨w.heap.size, 0, none⟩ = some (.int .i64 o.kind) := HOP.out.kind
 have c12 : w1.cell? ⟨w.heap.size, 12, none⟩ = some (.int .u8 (o.f.mac.b0 : Int)) := crw HOP.out rfl
 have c13 : w1.cell? ⟨w.heap.size, 13, none⟩ = some (.int .u8 (o.f.mac.b1 : Int)) := crw HOP.out rfl
 have c14 : w1.cell? ⟨w.heap.size, 14, none⟩ = some (.int .u8 (o.f.mac.b2 : Int)) := crw HOP.out rfl
 have c15 : w1.cell? ⟨w.heap.size, 15, none⟩ = some (.int .u8 (o.f.mac.b3 : Int)) := crw HOP.out rfl
 have c16 : w1.cell? ⟨w.heap.size, 16, none⟩ = some (.int .u8 (o.f.mac.b4 : Int)) := crw HOP.out rfl
 have c17 : w1.cell? ⟨w.heap.size, 17, none⟩ = some (.int .u8 (o.f.mac.b5 : Int)) := crw HOP.out rfl
 have c18 : w1.cell? ⟨w.heap.size, 18, none⟩ = some (.int .u32 (o.f.dest : Int)) := crw HOP.out rfl
 have HA : Hid (Calls Tryz.prog 67 #[.pointer (some ⟨m, 0, none⟩), .agg #[.int .u8 (o.f.mac.b0 : Int), .int .u8 (o.f.mac.b1 : Int), .int .u8 (o.f.mac.b2 : Int), .int .u8 (o.f.mac.b3 : Int), .int .u8 (o.f.mac.b4 : Int), .int .u8 (o.f.mac.b5 : Int)]] w1 fun e w' => e = .returned (.int .i64 (pz (ix Fd.mac s.F o.f.mac))) /\ Below w1.heap.size w1 w') := (fdbAt_any w1 o.f.mac HOO.out.fm HR.out).mono fun e w' h => ⟨h.1, h.2⟩
 go_enter Tryz.func80, Tryz.ntmps80
 go_upto_region 1 with fail
 rw [<- HW1.out]
 clear HW1
 go_wp2_with fail
 refine HA.out.mono ?_
 rintro _ w3 ⟨rfl, hb3⟩
 have HB3 : Hid (Below w1.heap.size w1 w3) := hb3
 clear hb3 HA c12 c13 c14 c15 c16 c17 c18 c0
 rcases hk with hk | hk
 ·have HK1 := hid hk
  have HR3 := hid (HR.out.below HB3.out)
  have HO3 : Hid (Own kF w3 0 (.slice av nv cv) s.F) := HR3.out.f
  have HBW : Hid (Below w.heap.size w w3) := HB1.out.trans (HB3.out.mono HB1.out.size)
  have hop3 := HOPW.out w3 HB3.out
  have k0 : w3.cell? ⟨w.heap.size, 0, none⟩ = some (.int .i64 5) := by rw [<- hk]; exact hop3.kind
  have m1 : w3.cell? ⟨m, 2, none⟩ = some (.slice av nv cv) := HR3.out.cells.2.2.1
  have HSAME : Hid (RTurn w w3 m ⟨vr, vn, .slice av nv cv⟩ s ⟨vr, vn, .slice av nv cv⟩) := (RTurn.same (v := ⟨vr, vn, .slice av nv cv⟩) HR.out HB3.out).behind HB1.out
  cases hix : ix Fd.mac s.F o.f.mac with
  | some j =>
   have HEE := hid (putF_some (s := s) hk hix)
   obtain ⟨e0, he0, -⟩ := ix_some hix
   obtain ⟨g, rfl, hg, -⟩ := atF HO3.out he0
   have hjl : j < nv := by have := (List.getElem?_eq_some_iff.1 he0).1; have := HN.out; omega
   have HJL : Hid (j < s.F.length) := by have := HN.out; unfold Hid; omega
   have hj1 : (j : Int) < (nv : Int) := int_lt hjl
   have hj2 : ¬ (j : Int) < 0 := by omega
   have hj3 : (0 : Int) <= (j : Int) := by omega
   have b12 : w3.cell? ⟨w.heap.size, 12, none⟩ = some (.int .u8 (o.f.mac.b0 : Int)) := crw hop3 rfl
   have b13 : w3.cell? ⟨w.heap.size, 13, none⟩ = some (.int .u8 (o.f.mac.b1 : Int)) := crw hop3 rfl
   have b14 : w3.cell? ⟨w.heap.size, 14, none⟩ = some (.int .u8 (o.f.mac.b2 : Int)) := crw hop3 rfl
   have b15 : w3.cell? ⟨w.heap.size, 15, none⟩ = some (.int .u8 (o.f.mac.b3 : Int)) := crw hop3 rfl
   have b16 : w3.cell? ⟨w.heap.size, 16, none⟩ = some (.int .u8 (o.f.mac.b4 : Int)) := crw hop3 rfl
   have b17 : w3.cell? ⟨w.heap.size, 17, none⟩ = some (.int .u8 (o.f.mac.b5 : Int)) := crw hop3 rfl
   have b18 : w3.cell? ⟨w.heap.size, 18, none⟩ = some (.int .u32 (o.f.dest : Int)) := crw hop3 rfl
   have HTH : Hid (w3.drew.there g (j * 7) 7) := (HO3.out.below (below_drewN bR 1)).there HJL.out
   obtain ⟨zz, HZ⟩ : ∃ zz : Array Value, Hid (zz = o.f.cells) := ⟨_, rfl⟩
   have HZS : Hid (zz.size = 7) := by unfold Hid; rw [HZ.out]; rfl
   have HTZ : Hid (w3.drew.there g (j * 7) zz.size) := by unfold Hid; rw [HZS.out]; exact HTH.out
   have HINF : Hid ((Tryz.prog.info? 44).map (·.size) = some zz.size) := by unfold Hid; rw [HZS.out]; kernel_rfl
   have HONE : Hid (zz.all (·.oneCell') = true) := by unfold Hid; rw [HZ.out]; exact one_cells o.f
   obtain ⟨w4, HW4⟩ : ∃ w4, Hid (w4 = World.setCells { heap := w3.heap, tape := w3.tape, drawn := w3.drawn + 1, os := w3.os, output := w3.output } g (j * 7) zz.toList) := ⟨_, rfl⟩
   have HTU : Hid (RTurn w w4 m ⟨vr, vn, .slice (some ⟨g, 0, none⟩) nv cv⟩ { s with F := s.F.set j o.f } ⟨vr, vn, .slice (some ⟨g, 0, none⟩) nv cv⟩) := by
    have hd : Below w3.heap.size w3 w3.drew := below_drewN bR 1
    have h1 := (HO3.out.below hd).put HJL.out o.f
    have h2 : Me.Keeps (fun k => k = g) w3.drew w4 := by rw [HW4.out]; exact (setCells_heap _ _ _).2
    have h3 : Own kF w4 0 (.slice (some ⟨g, 0, none⟩) nv cv) (s.F.set j o.f) := by rw [HW4.out, HZ.out]; exact h1
    exact ((HR3.out.below hd).putF rfl h2 h3 (by rw [<- HEE.out.2, <- HS.out]; exact HOK.out)).behind (HBW.out.trans (hd.mono HBW.out.size))
   simp only [pz]
   clear hop3 hix he0 hg HO3 HTH
   go_upto_region 7 with fail
   refine wp_region_still_tail 8 (by kernel_rfl) (by kernel_rfl) ?_
   simp only [List.take_succ_cons, List.take_zero, List.drop_succ_cons, List.drop_zero]
   iterate 8 still_step
   refine wpStill_nil ?_
   refine wpList_store_mid rfl 44 (.tmp 42) (.tmp 41) rfl g (j * 7) zz rfl (by rw [HZ.out]; rfl) HTZ.out HINF.out HONE.out ?_
   rw [<- HW4.out]
   clear b12 b13 b14 b15 b16 b17 b18 k0 m1 HTZ HINF HONE HZS HZ HW4
   go_wp2_with fail
   go_ret
   exact ⟨ret_int (by rw [HE.out, HEE.out.1]), _, by rw [HS.out, HEE.out.2]; exact HTU.out⟩
  | none =>
   have hm0 : ∀ t : Beh w3, t.wd.cell? ⟨m, 2, none⟩ = some (.slice av nv cv) := fun t => (HR3.out.below t.ok).cells.2.2.1
   have hm3 : ∀ t : Beh w3, t.wd.cell? ⟨m, 5, none⟩ = some (.int .i64 (cp : Int)) := fun t => by rw [HCP.out]; exact (HR3.out.below t.ok).cells.2.2.2.2.2
   have HOP3 := hid hop3
   by_cases hfl : cp <= nv
   ·have HEE := hid (putF_full (s := s) hk hix (by rw [<- HCP.out, <- HN.out]; exact hfl))
    have hfl' : (cp : Int) <= (nv : Int) := by omega
    simp only [pz]
    clear hop3 hix hfl
    go_upto_region 9 with fail
    refine wp_region_beh (by kernel_rfl) (by kernel_rfl) ?_
    repeat (go_big_quiet_step (fail))
    refine wpQuiet_nil ?_
    rintro _ ⟨t, rfl⟩
    have HT := hid (HSAME.out.then t.ok)
    clear hm0 hm3 m1 k0
    go_wp2_with fail
    go_ret
    exact ⟨ret_int (by rw [HE.out, HEE.out.1]), _, by rw [HS.out, HEE.out.2]; exact HT.out⟩
   ·have HEE := hid (putF_new (s := s) hk hix (by rw [<- HCP.out, <- HN.out]; exact hfl))
    have hfl' : ¬ (cp : Int) <= (nv : Int) := by omega
    simp only [pz]
    clear hop3 hix hfl
    go_upto_region 9 with fail
    refine wp_region_beh (by kernel_rfl) (by kernel_rfl) ?_
    repeat (go_big_quiet_step (fail))
    refine wpQuiet_nil ?_
    rintro _ ⟨t, rfl⟩
    have HR4 := hid (HR3.out.below t.ok)
    have HO4 := hid (HO3.out.below t.ok)
    have HBT : Hid (Below w.heap.size w t.wd) := HBW.out.trans (t.ok.mono HBW.out.size)
    have hop3 := HOP3.out.below t.ok
    have n1 : t.wd.cell? ⟨m, 2, none⟩ = some (.slice av nv cv) := hm0 t
    clear hm0 hm3 m1 k0 HO3 HR3 HOP3 HSAME
    generalize t.wd = u at *
    have b12 : u.cell? ⟨w.heap.size, 12, none⟩ = some (.int .u8 (o.f.mac.b0 : Int)) := crw hop3 rfl
    have b13 : u.cell? ⟨w.heap.size, 13, none⟩ = some (.int .u8 (o.f.mac.b1 : Int)) := crw hop3 rfl
    have b14 : u.cell? ⟨w.heap.size, 14, none⟩ = some (.int .u8 (o.f.mac.b2 : Int)) := crw hop3 rfl
    have b15 : u.cell? ⟨w.heap.size, 15, none⟩ = some (.int .u8 (o.f.mac.b3 : Int)) := crw hop3 rfl
    have b16 : u.cell? ⟨w.heap.size, 16, none⟩ = some (.int .u8 (o.f.mac.b4 : Int)) := crw hop3 rfl
    have b17 : u.cell? ⟨w.heap.size, 17, none⟩ = some (.int .u8 (o.f.mac.b5 : Int)) := crw hop3 rfl
    have b18 : u.cell? ⟨w.heap.size, 18, none⟩ = some (.int .u32 (o.f.dest : Int)) := crw hop3 rfl
    have n1b : (u.alloc (.cells #[.int .u8 (o.f.mac.b0 : Int), .int .u8 (o.f.mac.b1 : Int), .int .u8 (o.f.mac.b2 : Int), .int .u8 (o.f.mac.b3 : Int), .int .u8 (o.f.mac.b4 : Int), .int .u8 (o.f.mac.b5 : Int), .int .u32 (o.f.dest : Int)] 44)).cell? ⟨m, 2, none⟩ = some (.slice av nv cv) := (Below.cell (bR.alloc nL _) (p := ⟨m, 2, none⟩) (HR4.out.lt (.inl rfl))).trans n1
    obtain ⟨w4, HW4⟩ : ∃ w4, Hid (w4 = (u.alloc (.cells #[.int .u8 (o.f.mac.b0 : Int), .int .u8 (o.f.mac.b1 : Int), .int .u8 (o.f.mac.b2 : Int), .int .u8 (o.f.mac.b3 : Int), .int .u8 (o.f.mac.b4 : Int), .int .u8 (o.f.mac.b5 : Int), .int .u32 (o.f.dest : Int)] 44)).drew) := ⟨_, rfl⟩
    have hb4 : Below u.heap.size u w4 := by rw [HW4.out]; exact below_drewN (bR.alloc nL _) 1
    have r4 : w4.heap[u.heap.size]? = some (.cells o.f.cells 44 (0, 0)) := by rw [HW4.out]; exact heap_alloc_new u _
    obtain ⟨v', w5, hap, ho5, hg5, hn5⟩ := append_one (K := kF) 49 o.f u.heap.size (HO4.out.below hb4) r4 (Nat.zero_le _) (by have := HN.out; omega)
    obtain ⟨av', nv', cv', rfl, -, -, -⟩ := ho5.shape
    have hk5 : Me.Keeps (fun k => Value.ownBlock (.slice av nv cv) = some k) u w5 := (Me.Keeps.of hb4).trans (Me.Keeps.grown hg5 fun k e => e)
    have HAP : Hid ((Builtin.append_ #[49, 49] 49 #[.slice av nv cv, .slice (some ⟨u.heap.size, 0, none⟩) 1 1]).run Tryz.prog w4 = .ok (.slice av' nv' cv') w5) := hap
    obtain ⟨w6, HW6⟩ : ∃ w6, Hid (w6 = w5.setCell ⟨m, 2, none⟩ (.slice av' nv' cv')) := ⟨_, rfl⟩
    have HTU : Hid (RTurn w w6 m ⟨vr, vn, .slice av nv cv⟩ { s with F := s.F ++ [o.f] } ⟨vr, vn, .slice av' nv' cv'⟩) := by
     unfold Hid
     rw [HW6.out]
     exact (HR4.out.storeF (x := .slice av' nv' cv') hk5 ho5 (fun k e => (hn5 k e).imp id fun h => Nat.le_trans hb4.size h) (by rw [<- HEE.out.2, <- HS.out]; exact HOK.out)).behind HBT.out
    have r5 : w5.heap[m]? = some (.cells (rkC ⟨vr, vn, .slice av nv cv⟩ s) 142) := (hk5.block m (HR4.out.lt (.inl rfl)) HR4.out.apart.2.2.1).trans HR4.out.row
    obtain ⟨v5, m5⟩ : ∃ v, w5.cell? ⟨m, 2, none⟩ = some v := ⟨_, crw r5 rfl⟩
    have m6 : w5.frozen? ⟨m, 2, none⟩ = false := frozen_of_row _ _ _ _ _ r5
    clear hop3 hb4 r4 hap ho5 hg5 hn5 hk5 r5 HO4 HR4
    go_upto_region 11 with fail
    go_region_law (first | (rw [<- HW4.out]; refine step_append_run rfl _ _ _ _ rfl _ _ rfl rfl HAP.out ?_))
    all_goals (
     rw [<- HW6.out]
     clear b12 b13 b14 b15 b16 b17 b18 n1 n1b m5 m6
     go_wp2_with fail
     go_ret
     exact ⟨ret_int (by rw [HE.out, HEE.out.1]), _, by rw [HS.out, HEE.out.2]; exact HTU.out⟩)
 ·have HK1 := hid hk
  have HR3 := hid (HR.out.below HB3.out)
  have HO3 : Hid (Own kF w3 0 (.slice av nv cv) s.F) := HR3.out.f
  have HBW : Hid (Below w.heap.size w w3) := HB1.out.trans (HB3.out.mono HB1.out.size)
  have hop3 := HOPW.out w3 HB3.out
  have k0 : w3.cell? ⟨w.heap.size, 0, none⟩ = some (.int .i64 6) := by rw [<- hk]; exact hop3.kind
  have m1 : w3.cell? ⟨m, 2, none⟩ = some (.slice av nv cv) := HR3.out.cells.2.2.1
  have HSAME : Hid (RTurn w w3 m ⟨vr, vn, .slice av nv cv⟩ s ⟨vr, vn, .slice av nv cv⟩) := (RTurn.same (v := ⟨vr, vn, .slice av nv cv⟩) HR.out HB3.out).behind HB1.out
  cases hix : ix Fd.mac s.F o.f.mac with
  | none =>
   have HEE := hid (delF_none (s := s) hk hix)
   simp only [pz]
   clear hop3 hix
   go_wp2_with fail
   go_ret
   exact ⟨ret_int (by rw [HE.out, HEE.out.1]), _, by rw [HS.out, HEE.out.2]; exact HSAME.out⟩
  | some j =>
   have HEE := hid (delF_some (s := s) hk hix)
   obtain ⟨e0, he0, -⟩ := ix_some hix
   obtain ⟨g, rfl, hg, -⟩ := atF HO3.out he0
   have hjl : j < nv := by have := (List.getElem?_eq_some_iff.1 he0).1; have := HN.out; omega
   have HJL : Hid (j < s.F.length) := by have := HN.out; unfold Hid; omega
   have hj1 : (j : Int) < (nv : Int) := int_lt hjl
   have hj2 : ¬ (j : Int) < 0 := by omega
   have hj3 : (0 : Int) <= (j : Int) := by omega
   obtain ⟨A, hA1, HAA⟩ : ∃ A : Addr, (if cv = j + 1 then some (⟨g, 0, none⟩ : Addr) else some ⟨g, (j + 1) * 7, none⟩) = some A /\ (j + 1 < nv -> A = ⟨g, (j + 1) * 7, none⟩) := by
    by_cases e : cv = j + 1
    ·exact ⟨_, if_pos e, fun h => by omega⟩
    ·exact ⟨_, if_neg e, fun _ => rfl⟩
   have hdr : Below w3.heap.size w3 w3.drew := below_drewN bR 1
   obtain ⟨w4, hap, ho4, hg4, hs4⟩ := erase_run (K := kF) 49 (HO3.out.below hdr) HJL.out HN.out HAA
   have HAP : Hid ((Builtin.append_ #[49, 49] 49 #[.slice (some ⟨g, 0, none⟩) j cv, .slice (some A) (nv - (j + 1)) (cv - (j + 1))]).run Tryz.prog w3.drew = .ok (.slice (some ⟨g, 0, none⟩) (j + (nv - (j + 1))) cv) w4) := hap
   have HK4 : Hid (Me.Keeps (fun k => Value.ownBlock (.slice (some ⟨g, 0, none⟩) nv cv) = some k) w3 w4) := (Me.Keeps.of hdr).trans (Me.Keeps.grown hg4 fun k e => e)
   have HTU : Hid (RTurn w (w4.setCell ⟨m, 2, none⟩ (.slice (some ⟨g, 0, none⟩) (j + (nv - (j + 1))) cv)) m ⟨vr, vn, .slice (some ⟨g, 0, none⟩) nv cv⟩ { s with F := s.F.eraseIdx j } ⟨vr, vn, .slice (some ⟨g, 0, none⟩) (j + (nv - (j + 1))) cv⟩) := (HR3.out.storeF (x := .slice (some ⟨g, 0, none⟩) (j + (nv - (j + 1))) cv) HK4.out ho4 (fun k e => .inl e) (by rw [<- HEE.out.2, <- HS.out]; exact HOK.out)).behind HBW.out
   have hr4 : w4.heap[m]? = some (.cells (rkC ⟨vr, vn, .slice (some ⟨g, 0, none⟩) nv cv⟩ s) 142) := (HK4.out.block m (HR3.out.lt (.inl rfl)) HR3.out.apart.2.2.1).trans HR3.out.row
   obtain ⟨v2, e2⟩ : ∃ v, w4.cell? ⟨m, 2, none⟩ = some v := ⟨_, crw hr4 rfl⟩
   have e3 : w4.frozen? ⟨m, 2, none⟩ = false := frozen_of_row _ _ _ _ _ hr4
   have hw1 : IntKind.i64.wrap ((j : Int) + 1) = (j : Int) + 1 := by rw [IntKind.wrap_i64]; omega
   have hw2 : ((j : Int) + 1).toNat = j + 1 := by omega
   have hw3 : (j : Int) + 1 <= (nv : Int) := by omega
   have hw4 : (0 : Int) <= (j : Int) + 1 := by omega
   have hw5 : j <= cv := by omega
   simp only [pz]
   clear hop3 hix he0 hg hdr hap ho4 hg4 hs4 HAA HK4 hr4 HO3
   go_upto_region 4 with fail
   go_region_law (first | (refine step_append_run rfl _ _ _ _ rfl _ _ rfl rfl HAP.out ?_) | fail)
   all_goals (
    go_wp2_with fail
    go_ret
    exact ⟨ret_int (by rw [HE.out, HEE.out.1]), _, by rw [HS.out, HEE.out.2]; exact HTU.out⟩)
end Go.Proofs.YtpdnnikkaojnkaaGreat.Rt
