import Derived.Test.YtpdnnikkaojnkaaGreatYLG
namespace Go.Proofs.YtpdnnikkaojnkaaGreat.Rt
open Go.Proofs.YtpdnnikkaojnkaaGreat Go.ChangeShapes Go.WideShapes Go.ChangeAt Go.RowKit Go.Maps Tri N
set_option maxHeartbeats 4000000
set_option maxRecDepth 100000
def insA {α : Type} (A : List α) (j : Nat) (p : α) : List α := A.take j ++ p :: A.drop j
theorem insA_at {α : Type} {A : List α} {j : Nat} {p : α} (h : j <= A.length) : (insA A j p)[j]? = some p := by
 unfold insA
 rw [List.getElem?_append_right (by rw [List.length_take]; omega), List.length_take, Nat.min_eq_left h, Nat.sub_self]; rfl
theorem insA_ahead {α : Type} {A : List α} {k : Nat} {p : α} (h : k < A.length) : (insA A (k + 1) p)[k]? = A[k]? := by
 unfold insA
 rw [List.getElem?_append_left (by rw [List.length_take]; omega), List.getElem?_take, if_pos (by omega)]
theorem insA_swap {α : Type} {A : List α} {k : Nat} {p q : α} (hq : A[k]? = some q) : ((insA A (k + 1) p).set (k + 1) q).set k p = insA A k p := by
 have hk := (List.getElem?_eq_some_iff.1 hq).1
 have e1 : A.take (k + 1) = A.take k ++ [q] := take_snoc hq
 have e2 : A.drop k = q :: A.drop (k + 1) := by
  rw [List.drop_eq_getElem_cons hk]
  have := (List.getElem?_eq_some_iff.1 hq).2
  rw [this]
 have hl : (A.take k).length = k := by rw [List.length_take]; omega
 unfold insA
 rw [e1, e2, List.append_assoc, List.set_append_right _ _ (by omega), List.set_append_right _ _ (by omega), hl, Nat.sub_self, show k + 1 - k = 1 by omega]
 rfl
theorem insA_end {α : Type} (A : List α) (p : α) : insA A A.length p = A ++ [p] := by unfold insA; simp
theorem insA_mem {α : Type} {A : List α} {j : Nat} {p e : α} : e ∈ insA A j p ↔ e ∈ A \/ e = p := by
 unfold insA
 rw [List.mem_append, List.mem_cons]
 constructor
 ·rintro (h | h | h)
  ·exact .inl (List.mem_of_mem_take h)
  ·exact .inr h
  ·exact .inl (List.mem_of_mem_drop h)
 ·rintro (h | h)
  ·rw [<- List.take_append_drop j A, List.mem_append] at h
   rcases h with h | h
   ·exact .inl h
   ·exact .inr (.inr h)
  ·exact .inr (.inl h)
theorem insA_ris {α : Type} {num : α -> Nat} {A : List α} {j : Nat} {p : α} (hj : j <= A.length) (hA : RisBy num A) (hlo : ∀ k q, j = k + 1 -> A[k]? = some q -> num q < num p) (hhi : ∀ q ∈ A.drop j, num p < num q) : RisBy num (insA A j p) := by
 unfold RisBy Ris at hA ⊢
 rw [List.pairwise_map] at hA ⊢
 unfold insA
 have hA' := hA
 rw [<- List.take_append_drop j A, List.pairwise_append] at hA'
 obtain ⟨h1, h2, h3⟩ := hA'
 have hta : ∀ q ∈ A.take j, num q < num p := fun q hq => by
  cases j with
  | zero => simp at hq
  | succ k =>
   have hk : k < A.length := by omega
   have hl := hlo k A[k] rfl (List.getElem?_eq_getElem hk)
   obtain ⟨m, hm, e⟩ := List.mem_iff_getElem.1 hq
   have hm2 : m < k + 1 := by rw [List.length_take] at hm; omega
   rw [List.getElem_take] at e
   rcases Nat.lt_or_ge m k with h | h
   ·have := (List.pairwise_iff_getElem.1 hA) m k (by omega) hk h
    rw [<- e]; omega
   ·have : m = k := by omega
    subst this
    rw [<- e]; exact hl
 rw [List.pairwise_append]
 refine ⟨h1, List.pairwise_cons.2 ⟨hhi, h2⟩, fun a ha b hb => ?_⟩
 rcases List.mem_cons.1 hb with rfl | hb
 ·exact hta a ha
 ·exact h3 a ha b hb
theorem srt_ins {α : Type} {num : α -> Nat} {A L : List α} {j k : Nat} {p : α} (hs : SrtK num A (L.take j)) (hp : L[j]? = some p) (hk : k <= A.length) (hlo : ∀ m q, k = m + 1 -> A[m]? = some q -> num q < num p) (hhi : ∀ q ∈ A.drop k, num p < num q) : SrtK num (insA A k p) (L.take (j + 1)) := by
 refine ⟨insA_ris hk hs.1 hlo hhi, fun e => ?_⟩
 rw [insA_mem, hs.2 e, take_snoc hp, List.mem_append, List.mem_singleton]
theorem nod_take {α κ : Type} {key : α -> κ} {L : List α} (hn : Nod key L) {j : Nat} {p q : α} (hp : L[j]? = some p) (hq : q ∈ L.take j) : key q ≠ key p := fun e => by
 obtain ⟨i, hi, rfl⟩ := List.mem_iff_getElem.1 hq
 rw [List.length_take] at hi
 rw [List.getElem_take] at e
 have := nod_at hn (List.getElem?_eq_getElem (by omega)) hp e
 omega
theorem srt_len {α κ : Type} {key : α -> κ} {num : α -> Nat} {A L : List α} {j : Nat} (hn : Nod key L) (hs : SrtK num A (L.take j)) (hj : j <= L.length) : A.length = j := by
 have h1 : (L.take j).Nodup := by
  have : L.Nodup := by
   unfold Nod at hn
   exact (List.pairwise_map.1 hn).imp fun h e => h (by rw [e])
  exact this.sublist (List.take_sublist _ _)
 rw [hs.len h1, List.length_take]
 omega
def tbZ : Array Value := #[.slice none 0 0, .slice none 0 0, .slice none 0 0]
structure Tb (w u : World) (x y z : Value) (A : List Vt) (B : List Nb) (C : List Fd) : Prop where
 bel : Below w.heap.size w u
 res : u.heap[w.heap.size]? = some (.cells tbZ 51)
 row : u.heap[w.heap.size + 1]? = some (.cells #[x, y, z] 51)
 r : Own kR u w.heap.size x A
 n : Own kN u w.heap.size y B
 f : Own kF u w.heap.size z C
theorem Tb.lt {w u : World} {x y z : Value} {A : List Vt} {B : List Nb} {C : List Fd} (h : Tb w u x y z A B C) : w.heap.size + 1 < u.heap.size := (gsl h.row)
theorem Tb.more {w u u' : World} {x y z : Value} {A : List Vt} {B : List Nb} {C : List Fd} (h : Tb w u x y z A B C) (hb : Below u.heap.size u u') : Tb w u' x y z A B C :=
 ⟨h.bel.trans (hb.mono h.bel.size), below_keeps hb h.res (gsl h.res), below_keeps hb h.row h.lt, h.r.below hb, h.n.below hb, h.f.below hb⟩
theorem Tb.cells {w u : World} {x y z : Value} {A : List Vt} {B : List Nb} {C : List Fd} (h : Tb w u x y z A B C) : u.cell? ⟨w.heap.size + 1, 0, none⟩ = some x /\ u.cell? ⟨w.heap.size + 1, 1, none⟩ = some y /\ u.cell? ⟨w.heap.size + 1, 2, none⟩ = some z := by
 refine ⟨?_, ?_, ?_⟩ <;> rw [cell_of_row _ _ _ _ _ _ h.row] <;> rfl
theorem Tb.apart {w u : World} {x y z : Value} {A : List Vt} {B : List Nb} {C : List Fd} (h : Tb w u x y z A B C) : (∀ k, x.ownBlock = some k -> k ≠ w.heap.size /\ k ≠ w.heap.size + 1 /\ y.ownBlock ≠ some k /\ z.ownBlock ≠ some k) /\ (∀ k, y.ownBlock = some k -> k ≠ w.heap.size /\ k ≠ w.heap.size + 1 /\ x.ownBlock ≠ some k /\ z.ownBlock ≠ some k) /\ ∀ k, z.ownBlock = some k -> k ≠ w.heap.size /\ k ≠ w.heap.size + 1 /\ x.ownBlock ≠ some k /\ y.ownBlock ≠ some k := by
 have hx := fun k (e : x.ownBlock = some k) => h.r.kind e
 have hy := fun k (e : y.ownBlock = some k) => h.n.kind e
 have hz := fun k (e : z.ownBlock = some k) => h.f.kind e
 refine ⟨fun k e => ?_, fun k e => ?_, fun k e => ?_⟩
 ·obtain ⟨cs, hc⟩ := hx k e
  exact ⟨fun e' => ty_ne (e' ▸ hc) h.res (by decide), fun e' => ty_ne (e' ▸ hc) h.row (by decide), fun e' => by obtain ⟨cs', hc'⟩ := hy k e'; exact ty_ne hc hc' (by decide), fun e' => by obtain ⟨cs', hc'⟩ := hz k e'; exact ty_ne hc hc' (by decide)⟩
 ·obtain ⟨cs, hc⟩ := hy k e
  exact ⟨fun e' => ty_ne (e' ▸ hc) h.res (by decide), fun e' => ty_ne (e' ▸ hc) h.row (by decide), fun e' => by obtain ⟨cs', hc'⟩ := hx k e'; exact ty_ne hc hc' (by decide), fun e' => by obtain ⟨cs', hc'⟩ := hz k e'; exact ty_ne hc hc' (by decide)⟩
 ·obtain ⟨cs, hc⟩ := hz k e
  exact ⟨fun e' => ty_ne (e' ▸ hc) h.res (by decide), fun e' => ty_ne (e' ▸ hc) h.row (by decide), fun e' => by obtain ⟨cs', hc'⟩ := hx k e'; exact ty_ne hc hc' (by decide), fun e' => by obtain ⟨cs', hc'⟩ := hy k e'; exact ty_ne hc hc' (by decide)⟩
theorem keeps_below {w u u' : World} {S : Nat -> Prop} (hb : Below w.heap.size w u) (hk : Me.Keeps S u u') (hS : ∀ k, S k -> w.heap.size <= k) : Below w.heap.size w u' :=
 hb.trans (hk.below hb.size hS)
theorem Tb.setR {w u u1 : World} {x y z x' : Value} {A A' : List Vt} {B : List Nb} {C : List Fd} (h : Tb w u x y z A B C) (hk : Me.Keeps (fun k => x.ownBlock = some k) u u1) (ho : Own kR u1 w.heap.size x' A') : Tb w (u1.setCell ⟨w.heap.size + 1, 0, none⟩ x') x' y z A' B C := by
 obtain ⟨a1, a2, a3⟩ := h.apart
 have hr1 : u1.heap[w.heap.size + 1]? = some (.cells #[x, y, z] 51) := (hk.block _ h.lt fun e => (a1 _ e).2.1 rfl).trans h.row
 have hr0 : u1.heap[w.heap.size]? = some (.cells tbZ 51) := (hk.block _ (gsl h.res) fun e => (a1 _ e).1 rfl).trans h.res
 have hks : Me.Keeps (fun k => k = w.heap.size + 1) u1 (u1.setCell ⟨w.heap.size + 1, 0, none⟩ x') := Me.Keeps.set (S := fun k => k = w.heap.size + 1) (Me.Keeps.refl _ _) ⟨w.heap.size + 1, 0, none⟩ rfl _
 have hx' : ∀ k, x'.ownBlock = some k -> k ≠ w.heap.size + 1 := fun k e e' => by obtain ⟨cs, hc⟩ := ho.kind e; exact ty_ne (e' ▸ hc) hr1 (by decide)
 refine ⟨keeps_below (keeps_below h.bel hk fun k e => (h.r.lt e).1) hks (fun k e => by omega), (hks.block _ (gsl hr0) (by omega)).trans hr0, ?_, ho.keeps hks hx', (h.n.keeps hk fun k e e' => (a1 k e').2.2.1 e).keeps hks fun k e => (a2 k e).2.1, (h.f.keeps hk fun k e e' => (a1 k e').2.2.2 e).keeps hks fun k e => (a3 k e).2.1⟩
 rw [Me.set_cells hr1]; rfl
theorem Tb.setN {w u u1 : World} {x y z x' : Value} {A : List Vt} {B B' : List Nb} {C : List Fd} (h : Tb w u x y z A B C) (hk : Me.Keeps (fun k => y.ownBlock = some k) u u1) (ho : Own kN u1 w.heap.size x' B') : Tb w (u1.setCell ⟨w.heap.size + 1, 1, none⟩ x') x x' z A B' C := by
 obtain ⟨a1, a2, a3⟩ := h.apart
 have hr1 : u1.heap[w.heap.size + 1]? = some (.cells #[x, y, z] 51) := (hk.block _ h.lt fun e => (a2 _ e).2.1 rfl).trans h.row
 have hr0 : u1.heap[w.heap.size]? = some (.cells tbZ 51) := (hk.block _ (gsl h.res) fun e => (a2 _ e).1 rfl).trans h.res
 have hks : Me.Keeps (fun k => k = w.heap.size + 1) u1 (u1.setCell ⟨w.heap.size + 1, 1, none⟩ x') := Me.Keeps.set (S := fun k => k = w.heap.size + 1) (Me.Keeps.refl _ _) ⟨w.heap.size + 1, 1, none⟩ rfl _
 have hx' : ∀ k, x'.ownBlock = some k -> k ≠ w.heap.size + 1 := fun k e e' => by obtain ⟨cs, hc⟩ := ho.kind e; exact ty_ne (e' ▸ hc) hr1 (by decide)
 refine ⟨keeps_below (keeps_below h.bel hk fun k e => (h.n.lt e).1) hks (fun k e => by omega), (hks.block _ (gsl hr0) (by omega)).trans hr0, ?_, (h.r.keeps hk fun k e e' => (a2 k e').2.2.1 e).keeps hks fun k e => (a1 k e).2.1, ho.keeps hks hx', (h.f.keeps hk fun k e e' => (a2 k e').2.2.2 e).keeps hks fun k e => (a3 k e).2.1⟩
 rw [Me.set_cells hr1]; rfl
theorem Tb.setF {w u u1 : World} {x y z x' : Value} {A : List Vt} {B : List Nb} {C C' : List Fd} (h : Tb w u x y z A B C) (hk : Me.Keeps (fun k => z.ownBlock = some k) u u1) (ho : Own kF u1 w.heap.size x' C') : Tb w (u1.setCell ⟨w.heap.size + 1, 2, none⟩ x') x y x' A B C' := by
 obtain ⟨a1, a2, a3⟩ := h.apart
 have hr1 : u1.heap[w.heap.size + 1]? = some (.cells #[x, y, z] 51) := (hk.block _ h.lt fun e => (a3 _ e).2.1 rfl).trans h.row
 have hr0 : u1.heap[w.heap.size]? = some (.cells tbZ 51) := (hk.block _ (gsl h.res) fun e => (a3 _ e).1 rfl).trans h.res
 have hks : Me.Keeps (fun k => k = w.heap.size + 1) u1 (u1.setCell ⟨w.heap.size + 1, 2, none⟩ x') := Me.Keeps.set (S := fun k => k = w.heap.size + 1) (Me.Keeps.refl _ _) ⟨w.heap.size + 1, 2, none⟩ rfl _
 have hx' : ∀ k, x'.ownBlock = some k -> k ≠ w.heap.size + 1 := fun k e e' => by obtain ⟨cs, hc⟩ := ho.kind e; exact ty_ne (e' ▸ hc) hr1 (by decide)
 refine ⟨keeps_below (keeps_below h.bel hk fun k e => (h.f.lt e).1) hks (fun k e => by omega), (hks.block _ (gsl hr0) (by omega)).trans hr0, ?_, (h.r.keeps hk fun k e e' => (a3 k e').2.2.1 e).keeps hks fun k e => (a1 k e).2.1, (h.n.keeps hk fun k e e' => (a3 k e').2.2.2 e).keeps hks fun k e => (a2 k e).2.1, ho.keeps hks hx'⟩
 rw [Me.set_cells hr1]; rfl
theorem Tb.putR {w u u1 : World} {g n c : Nat} {y z : Value} {A A' : List Vt} {B : List Nb} {C : List Fd} (h : Tb w u (.slice (some ⟨g, 0, none⟩) n c) y z A B C) (hk : Me.Keeps (fun k => k = g) u u1) (ho : Own kR u1 w.heap.size (.slice (some ⟨g, 0, none⟩) n c) A') : Tb w u1 (.slice (some ⟨g, 0, none⟩) n c) y z A' B C := by
 obtain ⟨a1, a2, a3⟩ := h.apart
 obtain ⟨b1, b2, b3, b4⟩ := a1 g rfl
 exact ⟨keeps_below h.bel hk fun k e => by rw [e]; exact (h.r.lt rfl).1, (hk.block _ (gsl h.res) fun e => b1 e.symm).trans h.res, (hk.block _ h.lt fun e => b2 e.symm).trans h.row, ho, h.n.keeps hk fun k e e' => b3 (by rw [<- e']; exact e), h.f.keeps hk fun k e e' => b4 (by rw [<- e']; exact e)⟩
theorem Tb.putN {w u u1 : World} {g n c : Nat} {x z : Value} {A : List Vt} {B B' : List Nb} {C : List Fd} (h : Tb w u x (.slice (some ⟨g, 0, none⟩) n c) z A B C) (hk : Me.Keeps (fun k => k = g) u u1) (ho : Own kN u1 w.heap.size (.slice (some ⟨g, 0, none⟩) n c) B') : Tb w u1 x (.slice (some ⟨g, 0, none⟩) n c) z A B' C := by
 obtain ⟨a1, a2, a3⟩ := h.apart
 obtain ⟨b1, b2, b3, b4⟩ := a2 g rfl
 exact ⟨keeps_below h.bel hk fun k e => by rw [e]; exact (h.n.lt rfl).1, (hk.block _ (gsl h.res) fun e => b1 e.symm).trans h.res, (hk.block _ h.lt fun e => b2 e.symm).trans h.row, h.r.keeps hk fun k e e' => b3 (by rw [<- e']; exact e), ho, h.f.keeps hk fun k e e' => b4 (by rw [<- e']; exact e)⟩
theorem Tb.putF {w u u1 : World} {g n c : Nat} {x y : Value} {A : List Vt} {B : List Nb} {C C' : List Fd} (h : Tb w u x y (.slice (some ⟨g, 0, none⟩) n c) A B C) (hk : Me.Keeps (fun k => k = g) u u1) (ho : Own kF u1 w.heap.size (.slice (some ⟨g, 0, none⟩) n c) C') : Tb w u1 x y (.slice (some ⟨g, 0, none⟩) n c) A B C' := by
 obtain ⟨a1, a2, a3⟩ := h.apart
 obtain ⟨b1, b2, b3, b4⟩ := a3 g rfl
 exact ⟨keeps_below h.bel hk fun k e => by rw [e]; exact (h.f.lt rfl).1, (hk.block _ (gsl h.res) fun e => b1 e.symm).trans h.res, (hk.block _ h.lt fun e => b2 e.symm).trans h.row, h.r.keeps hk fun k e e' => b3 (by rw [<- e']; exact e), h.n.keeps hk fun k e e' => b4 (by rw [<- e']; exact e), ho⟩
theorem own_some {α : Type} {K : Rk α} {w : World} {B : Nat} {v : Value} {L : List α} {x : α} (h : Own K w B v (L ++ [x])) : ∃ g n c, v = .slice (some ⟨g, 0, none⟩) n c /\ n = L.length + 1 := by
 rcases h.2 with ⟨_, h0⟩ | ⟨g, cap, cur, h0, _⟩
 ·simp at h0
 ·exact ⟨g, _, cap, h0, by simp⟩
theorem cellsR {w : World} {B : Nat} {a : Option Addr} {n c : Nat} {L : List Vt} (h : Own kR w B (.slice a n c) L) {j : Nat} {e : Vt} (hx : L[j]? = some e) :
  ∃ g, a = some ⟨g, 0, none⟩ /\ g < w.heap.size /\ ∀ u : World, u.heap[g]? = w.heap[g]? -> u.cell? ⟨g, j * 4, none⟩ = some (.int .u32 (e.x : Int)) /\ u.cell? ⟨g, j * 4 + 1, none⟩ = some (.int .i64 e.n) /\ u.cell? ⟨g, j * 4 + 2, none⟩ = some (.int .u32 (e.via : Int)) /\ u.cell? ⟨g, j * 4 + 3, none⟩ = some (.bool e.loc) := by
 obtain ⟨g, h1, h2, h3⟩ := atR h hx
 exact ⟨g, h1, h2, fun u hu => ⟨(h3 u hu).1, (h3 u hu).2.1, (h3 u hu).2.2.1, (h3 u hu).2.2.2.1⟩⟩
def zN7 : Array Value := #[.int .u32 0, .int .u8 0, .int .u8 0, .int .u8 0, .int .u8 0, .int .u8 0, .int .u8 0]
def zF7 : Array Value := #[.int .u8 0, .int .u8 0, .int .u8 0, .int .u8 0, .int .u8 0, .int .u8 0, .int .u32 0]
theorem alloc_nb (u : World) : (Instr.alloc 42 true (.tuple #[])).run Tryz.prog u = .ok (.pointer (some ⟨u.heap.size, 0, none⟩)) (u.alloc (.cells zN7 42)) := by kernel_rfl
theorem alloc_fd (u : World) : (Instr.alloc 44 true (.tuple #[])).run Tryz.prog u = .ok (.pointer (some ⟨u.heap.size, 0, none⟩)) (u.alloc (.cells zF7 44)) := by kernel_rfl
theorem box_load {u : World} {b : Nat} {cs : Array Value} {T : TypeId} {d : TypeDesc} (h : u.heap[b]? = some (.cells cs T)) (hu : Tryz.prog.underlying T = some d) (hd : d.isRow = true) (hi : (Tryz.prog.info? T).map (·.size) = some cs.size) : (Instr.loadAt T (.pointer (some ⟨b, 0, none⟩))).run Tryz.prog u = .ok (.agg cs) u := by
 have := load_at (cs := cs.toList) (off := 0) h (by rw [List.drop_zero, List.take_of_length_le nL]) hu hd (by simpa using hi)
 simpa using this
theorem numR {s : Ks} (h : s.Ok) {j : Nat} {p : Vt} (hp : s.R[j]? = some p) : ∀ q ∈ s.R.take j, q.num ≠ p.num := fun q hq e =>
 nod_take h.rn hp hq (Vt_num_inj (h.rk q (List.mem_of_mem_take hq)) (h.rk p (List.mem_of_getElem? hp)) e)
theorem numN {s : Ks} (h : s.Ok) {j : Nat} {p : Nb} (hp : s.N[j]? = some p) : ∀ q ∈ s.N.take j, q.ip ≠ p.ip := fun _ hq e => nod_take h.nn hp hq e
theorem numF {s : Ks} (h : s.Ok) {j : Nat} {p : Fd} (hp : (s.F)[j]? = some p) : ∀ q ∈ s.F.take j, q.mac.num ≠ p.mac.num := fun q hq e =>
 nod_take h.fn hp hq (Mc.num_inj (h.fk q (List.mem_of_mem_take hq)).1 (h.fk p (List.mem_of_getElem? hp)).1 e)
def FB9 (l : List Value) (cs : Array Value) (T : TypeId) (B : Nat) (i : Nat) (v : Value) (w : World) : Prop :=
 (i = 9 -> ∃ b, v = .slice (some ⟨b, 0, none⟩) 1 1 /\ B <= b /\ w.heap[b]? = some (.cells cs T)) /\ (i ≠ 9 -> l[i]? = some v)
theorem FB9.keeps (l : List Value) (cs : Array Value) (T : TypeId) (B : Nat) : ∀ (i : Nat) (v : Value) (w w' : World), FB9 l cs T B i v w -> Below w.heap.size w w' -> FB9 l cs T B i v w' := fun _ _ _ _ h hb =>
 ⟨fun h9 => by
  obtain ⟨b, h1, h2, h3⟩ := h.1 h9
  exact ⟨b, h1, h2, below_keeps hb h3 (gsl h3)⟩, h.2⟩
theorem FB9.dep {l : List Value} {cs : Array Value} {T : TypeId} {B i : Nat} {a : Act} {t : Operand} {x y : Value} {w : World} (h : a.eval t = x /\ FB9 l cs T B i x w) (h9 : i ≠ 9) (hy : l[i]? = some y) : a.eval t = y := by
 have := h.2.2 h9
 rw [hy] at this
 exact h.1.trans (Option.some.inj this).symm
theorem FB9.is {l : List Value} {cs : Array Value} {T : TypeId} {B i : Nat} {v y : Value} {w : World} (h : FB9 l cs T B i v w) (h9 : i ≠ 9) (hy : l[i]? = some y) : v = y := by
 have := h.2 h9
 rw [hy] at this
 exact (Option.some.inj this).symm
theorem fb9_still {P : Program} {o : Oper} {a : Act} {W w : World} {Q : Exit -> Act -> World -> Prop} {l : List Value} {cs : Array Value} {T : TypeId} {B i : Nat} {t : Tmp} (v : Value) (hr : (execOp a.eval o).run P w = .ok (.value v) w) (ht : o.dst = some t) (h9 : i ≠ 9) (hl : l[i]? = some v) (hW : Below W.heap.size W w) :
  o.wp P a w (fun a' w' => ∃ v', a' = a.put (some t) v' /\ FB9 l cs T B i v' w' /\ Below W.heap.size W w' /\ Below w.heap.size w w') Q :=
 wp_val hr (by rw [ht]; exact ⟨v, rfl, ⟨fun e => absurd e h9, fun _ => hl⟩, hW, bR⟩)
theorem build1R (e : Vt) (u : World) : (Instr.buildSlice 47 1 #[(0, .agg e.cells)]).run Tryz.prog u = .ok (.slice (some ⟨u.heap.size, 0, none⟩) 1 1) (u.alloc (.cells e.cells 38)) := by
 obtain ⟨ie, hi, hz, hs, -⟩ := kR.info_at
 refine run_buildSlice u _ _ 1 _ _ ie _ (by kernel_rfl) hi hz (by rw [hs]; decide) (by rw [hs]; decide) ?_
 simp only [hs, Nat.one_mul, show Array.range 4 = #[0, 1, 2, 3] from rfl]
 simp [Instr.fill, Value.cells, Tri.Vt.cells]
theorem build1N (e : Nb) (u : World) : (Instr.buildSlice 48 1 #[(0, .agg e.cells)]).run Tryz.prog u = .ok (.slice (some ⟨u.heap.size, 0, none⟩) 1 1) (u.alloc (.cells e.cells 42)) := by
 obtain ⟨ie, hi, hz, hs, -⟩ := kN.info_at
 refine run_buildSlice u _ _ 1 _ _ ie _ (by kernel_rfl) hi hz (by rw [hs]; decide) (by rw [hs]; decide) ?_
 simp only [hs, Nat.one_mul, show Array.range 7 = #[0, 1, 2, 3, 4, 5, 6] from rfl]
 simp [Instr.fill, Value.cells, Nb.cells]
theorem idxR {n cap g j : Nat} (hm : j < n) (u : World) : (Instr.indexAt 47 (.slice (some ⟨g, 0, none⟩) n cap) (.int .i64 (j : Int))).run Tryz.prog u = .ok (.pointer (some ⟨g, j * 4, none⟩)) u := by
 have hu : Tryz.prog.underlying 47 = some (.slice 38) := by kernel_rfl
 have hsz : (sizeOf 38).run Tryz.prog u = .ok 4 u := by kernel_rfl
 simp [Instr.indexAt, run_underlying hu, asIntOf, go_sem, hsz, Result.andThen]
 omega
theorem idxN {n cap g j : Nat} (hm : j < n) (u : World) : (Instr.indexAt 48 (.slice (some ⟨g, 0, none⟩) n cap) (.int .i64 (j : Int))).run Tryz.prog u = .ok (.pointer (some ⟨g, j * 7, none⟩)) u := by
 have hu : Tryz.prog.underlying 48 = some (.slice 42) := by kernel_rfl
 have hsz : (sizeOf 42).run Tryz.prog u = .ok 7 u := by kernel_rfl
 simp [Instr.indexAt, run_underlying hu, asIntOf, go_sem, hsz, Result.andThen]
 omega
theorem idxF {n cap g j : Nat} (hm : j < n) (u : World) : (Instr.indexAt 49 (.slice (some ⟨g, 0, none⟩) n cap) (.int .i64 (j : Int))).run Tryz.prog u = .ok (.pointer (some ⟨g, j * 7, none⟩)) u := by
 have hu : Tryz.prog.underlying 49 = some (.slice 44) := by kernel_rfl
 have hsz : (sizeOf 44).run Tryz.prog u = .ok 7 u := by kernel_rfl
 simp [Instr.indexAt, run_underlying hu, asIntOf, go_sem, hsz, Result.andThen]
 omega
theorem wpList_append_run {P : Program} (w : World) {ops : Array Oper} {rest : List Oper} {o : Oper} {a : Act} {Q : Exit -> Act -> World -> Prop} (hgd : o.guard = none) (d s : Operand) (t t' : TypeId)
  (ho : o.op = .call { callee := .builtin .append, args := #[d, s], argTypes := #[t, t'] }) (v u : Value) (hd : a.eval d = v) (hs : a.eval s = u) {v' : Value} {w' : World}
  (hr : (Builtin.append_ #[t, t'] o.type #[v, u]).run P w = .ok v' w') (h : wpList P ops Q rest (a.put o.dst v') w') : wpList P ops Q (o :: rest) a w :=
 wpList_plain hgd fun _ hK => by
  unfold Oper.wp execOp
  simp only [ho, resolve, invoke, builtin, Sem.run_bind, Sem.run_pure, Result.andThen_ok, List.map_toArray, List.map_cons, List.map_nil, hd, hs, hr]
  exact hK _ _ h
end Go.Proofs.YtpdnnikkaojnkaaGreat.Rt
