/-
  TimerMemory: views of lists, and a book of them.
-/
import Derived.Test.YthbjfbalgejndaaZE
namespace Go.Proofs.Ythbjfbalgejndaa
open Go.ChangeShapes Go.WideShapes Go.ChangeAt Go.RowKit Go.Maps H
set_option maxHeartbeats 1000000
set_option maxRecDepth 100000

/-- A Timers, a book, and all lists in view. -/
structure Wk (w0 w : World) (b bm : Nat) (go : Option Nat) (S L : List Dl) (vb : Value) (Rs : List (Value × Value)) (Xs : List (Value × List Int)) : Prop where
  tb : TB w0 w b bm go S L
  ow : OwnH w w0.heap.size vb Rs
  vs : ∀ e ∈ Xs, OwnI w w0.heap.size e.1 e.2 ∧ ∀ x ∈ e.2, In64 x
  rs : ∀ r ∈ Rs, ∃ K, (r.1, K) ∈ Xs ∧ (r.2, K) ∈ Xs
/-- Nothing in its block is longer. -/
def Top (v : Value) (n : Nat) (Xs : List (Value × List Int)) : Prop := ∀ e ∈ Xs, ∀ k, v.ownBlock = some k → e.1.ownBlock = some k → e.2.length ≤ n
def Dis (v u : Value) : Prop := ∀ k, v.ownBlock = some k → u.ownBlock ≠ some k
/-- Nothing is in its block. -/
def Aln (v : Value) (Xs : List (Value × List Int)) : Prop := ∀ e ∈ Xs, Dis v e.1

section
variable {w0 w w' : World} {b bm : Nat} {go : Option Nat} {S L : List Dl} {vb : Value} {Rs : List (Value × Value)} {Xs : List (Value × List Int)}
theorem Dis.symm {v u : Value} (h : Dis v u) : Dis u v := fun k hk hk' => h k hk' hk
theorem Aln.top {v : Value} (h : Aln v Xs) (n : Nat) : Top v n Xs := fun e he k hk hk' => absurd hk' (h e he k hk)
theorem Wk.fr {go' : Option Nat} {S' : List Dl} (h : Wk w0 w b bm go S L vb Rs Xs) (hf : Fr (fp b bm go) w w') (ht : TB w0 w' b bm go' S' L) : Wk w0 w' b bm go' S' L vb Rs Xs :=
  ⟨ht, row_tm h.ow h.tb.tm hf (by decide), fun e he => ⟨row_tm (h.vs e he).1 h.tb.tm hf (by decide), (h.vs e he).2⟩, h.rs⟩
theorem Wk.below (h : Wk w0 w b bm go S L vb Rs Xs) (hb : Below w.heap.size w w') : Wk w0 w' b bm go S L vb Rs Xs := h.fr (Fr.of_below hb _) (h.tb.below hb)
theorem Wk.more (h : Wk w0 w b bm go S L vb Rs Xs) {v : Value} {A : List Int} (hv : OwnI w w0.heap.size v A) (hA : ∀ x ∈ A, In64 x) : Wk w0 w b bm go S L vb Rs ((v, A) :: Xs) :=
  ⟨h.tb, h.ow, fun e he => by
    rcases List.mem_cons.1 he with rfl | he
    · exact ⟨hv, hA⟩
    · exact h.vs e he, fun r hr => by
    obtain ⟨K, h1, h2⟩ := h.rs r hr
    exact ⟨K, List.mem_cons_of_mem _ h1, List.mem_cons_of_mem _ h2⟩⟩
theorem Wk.lt (h : Wk w0 w b bm go S L vb Rs Xs) {e : Value × List Int} (he : e ∈ Xs) {k : Nat} (hk : e.1.ownBlock = some k) : k < w.heap.size := (World.ownsRow.lt (h.vs e he).1 k hk).2
theorem kindH_ne {B B' : Nat} {v u : Value} {K : List Int} (h : OwnH w B v Rs) (h' : OwnI w B' u K) : ∀ k, u.ownBlock = some k → v.ownBlock ≠ some k := fun _ hk => Me.row_ne h' h (by decide) hk

/-- append to one that is in view. -/
theorem Wk.app (h : Wk w0 w b bm go S L vb Rs Xs) {v : Value} {A M : List Int} {m : Nat} (hv : (v, A) ∈ Xs) (ht : Top v A.length Xs) (hm : M.length = m) (hm0 : 0 < m) (hM : ∀ x ∈ M, In64 x) (hbig : A.length + m ≤ 4294967296) (cs : Array Value) (hcs : cs = (is' M).toArray) :
    ∃ a' c' w', (Builtin.append_ #[37, 37] 37 #[v, .slice (some ⟨w.heap.size, 0, none⟩) m m]).run Try.prog (w.alloc (.cells cs 3)) = .ok (.slice a' (A.length + m) c') w' ∧ Wk w0 w' b bm go S L vb Rs ((.slice a' (A.length + m) c', A ++ M) :: Xs) ∧ Top (.slice a' (A.length + m) c') (A.length + m) ((.slice a' (A.length + m) c', A ++ M) :: Xs) ∧
      (∀ u n, (∀ k, u.ownBlock = some k → k < w.heap.size) → Dis v u → Top u n Xs → Dis (.slice a' (A.length + m) c') u ∧ Top u n ((.slice a' (A.length + m) c', A ++ M) :: Xs)) := by
  have hB1 : Below w.heap.size w (w.alloc (.cells cs 3)) := (Below.refl _ _).alloc (Nat.le_refl _) _
  have hz1 := hB1.size
  have hB := h.tb.be.size
  have r1 := heap_alloc_new w (.cells cs 3 (0, 0))
  have hA := h.below hB1
  have hvo := (hA.vs _ hv).1
  obtain ⟨v', w', hr, ho, hg, hn, hkp, -⟩ := append_i _ w0.heap.size v A M w.heap.size m m hvo hm hm0 (fun j x hj => by
    rw [cell_of_row _ _ _ _ _ _ r1, hcs, ← Array.getElem?_toList, is_get, hj]
    rfl) (by omega) hbig
  obtain ⟨a', c', e, -⟩ := ownI_len ho
  rw [List.length_append, hm] at e
  subst e
  have hlt : ∀ k, v.ownBlock = some k → k < w.heap.size := fun k hk => h.lt hv hk
  refine ⟨a', c', w', hr, ⟨hA.tb.grownR hvo (Nat.le_refl _) hg (by decide), row_grown hA.ow hg (fun k hk e => kindH_ne hA.ow hvo k e hk), fun e he => ?_, fun r hr => ?_⟩, fun e he k hk hk' => ?_, fun u n hu hd ht' => ⟨fun k hk hk' => ?_, fun e he k hk hk' => ?_⟩⟩
  · rcases List.mem_cons.1 he with rfl | he
    · refine ⟨ho, fun x hx => ?_⟩
      rcases List.mem_append.1 hx with hx | hx
      · exact (h.vs _ hv).2 x hx
      · exact hM x hx
    · exact ⟨hkp _ _ _ (hA.vs e he).1 fun k hk hk' => ht e he k hk hk', (h.vs e he).2⟩
  · obtain ⟨K, h1, h2⟩ := h.rs r hr
    exact ⟨K, List.mem_cons_of_mem _ h1, List.mem_cons_of_mem _ h2⟩
  · rcases List.mem_cons.1 he with rfl | he
    · show (A ++ M).length ≤ _
      rw [List.length_append, hm]
      exact Nat.le_refl _
    · rcases hn k hk with e1 | e1
      · have := ht e he k e1 hk'
        omega
      · have := h.lt he hk'
        omega
  · rcases hn k hk with e1 | e1
    · exact hd k e1 hk'
    · have := hu k hk'
      omega
  · rcases List.mem_cons.1 he with rfl | he
    · rcases hn k hk' with e1 | e1
      · exact absurd hk (hd k e1)
      · have := hu k hk
        omega
    · exact ht' e he k hk hk'

/-- A copy of one that is in view. -/
theorem Wk.copy (h : Wk w0 w b bm go S L vb Rs Xs) {v : Value} {A : List Int} (hv : (v, A) ∈ Xs) (hbig : A.length ≤ 4294967296) :
    ∃ a' c' w', (Builtin.append_ #[37, 37] 37 #[.slice none 0 0, v]).run Try.prog w = .ok (.slice a' A.length c') w' ∧ Wk w0 w' b bm go S L vb Rs ((.slice a' A.length c', A) :: Xs) ∧ Top (.slice a' A.length c') A.length ((.slice a' A.length c', A) :: Xs) ∧ w.heap.size ≤ w'.heap.size ∧
      (∀ u n, (∀ k, u.ownBlock = some k → k < w.heap.size) → Dis u (.slice a' A.length c') ∧ (Top u n Xs → Top u n ((.slice a' A.length c', A) :: Xs))) := by
  have hB := h.tb.be.size
  obtain ⟨v', w', hr, ho, hg⟩ := copy_i w w0.heap.size v A (h.vs _ hv).1 hbig
  obtain ⟨a', c', e, -⟩ := ownI_len ho
  subst e
  have new : ∀ k, (Value.slice a' A.length c').ownBlock = some k → w.heap.size ≤ k := fun k hk => (World.ownsRow.lt ho k hk).1
  refine ⟨a', c', w', hr, Wk.more ⟨h.tb.grown hg (fun _ e => by cases e) (fun _ e => by cases e), row_grown h.ow hg (fun _ _ e => by cases e), fun e he => ⟨row_grown (h.vs e he).1 hg (fun _ _ e => by cases e), (h.vs e he).2⟩, h.rs⟩ (Me.row_low ho hB) (h.vs _ hv).2, fun e he k hk hk' => ?_, hg.size, fun u n hu => ⟨fun k hk hk' => ?_, fun ht e he k hk hk' => ?_⟩⟩
  · rcases List.mem_cons.1 he with rfl | he
    · exact Nat.le_refl _
    · have := new k hk
      have := h.lt he hk'
      omega
  · have := new k hk'
    have := hu k hk
    omega
  · rcases List.mem_cons.1 he with rfl | he
    · have := new k hk'
      have := hu k hk
      omega
    · exact ht e he k hk hk'

/-- A row more in the book. -/
theorem Wk.row (h : Wk w0 w b bm go S L vb Rs Xs) {a1 a2 : Option Addr} {n1 n2 c1 c2 : Nat} {K : List Int} (h1 : (.slice a1 n1 c1, K) ∈ Xs) (h2 : (.slice a2 n2 c2, K) ∈ Xs) (hbig : Rs.length < 4294967296) :
    ∃ a' n' c' w', (Builtin.append_ #[32, 32] 32 #[vb, .slice (some ⟨w.heap.size, 0, none⟩) 1 1]).run Try.prog (w.alloc (.cells #[.slice a1 n1 c1, .slice a2 n2 c2] 42)) = .ok (.slice a' n' c') w' ∧ Wk w0 w' b bm go S L (.slice a' n' c') (Rs ++ [(.slice a1 n1 c1, .slice a2 n2 c2)]) Xs ∧ w.heap.size ≤ w'.heap.size := by
  have hB1 : Below w.heap.size w (w.alloc (.cells #[.slice a1 n1 c1, .slice a2 n2 c2] 42)) := (Below.refl _ _).alloc (Nat.le_refl _) _
  have hz1 := hB1.size
  have hB := h.tb.be.size
  have hA := h.below hB1
  obtain ⟨v', w', hr, ho, hg⟩ := append_h _ w0.heap.size vb Rs w.heap.size 1 a1 a2 n1 n2 c1 c2 hA.ow (heap_alloc_new w _) (by omega) hbig
  obtain ⟨a', c', e, -⟩ := Me.row_len ho
  subst e
  have hz2 := hg.size
  refine ⟨a', _, c', w', hr, ⟨hA.tb.grownR hA.ow (Nat.le_refl _) hg (by decide), ho, fun e he => ⟨row_grown (hA.vs e he).1 hg (kindH_ne hA.ow (hA.vs e he).1), (h.vs e he).2⟩, fun r hr => ?_⟩, by omega⟩
  rcases List.mem_append.1 hr with hr | hr
  · exact h.rs r hr
  · simp only [List.mem_cons, List.not_mem_nil, or_false] at hr
    subst hr
    exact ⟨K, h1, h2⟩
theorem Wk.setI (h : Wk w0 w b bm go S L vb Rs Xs) {i : Nat} {d : Dl} (hd : L[i]? = some d) (hi : i < 300) (h1 : In64 d.1) (h2 : In64 d.2) :
    Calls Try.prog 13 #[.pointer (some ⟨b, 0, none⟩), .int .i64 d.1, .int .i64 d.2] w fun e w' => e = .returned (.int .i64 0) ∧ ∃ go' S', Wk w0 w' b bm go' S' L vb Rs Xs := by
  refine (h.tb.set hd hi h1 h2).mono ?_
  rintro e w' ⟨go', rfl, ⟨S', hT⟩, hf⟩
  exact ⟨rfl, go', S', h.fr hf hT⟩

/-- While a list is marked: those ahead of i hold m. -/
structure P4 (w0 w : World) (b bm : Nat) (go : Option Nat) (S L : List Dl) (vb : Value) (Rs : List (Value × Value)) (v : Value) (D : List Int) (m : Int) (u : Value) (i : Nat) (Xs : List (Value × List Int)) : Prop where
  wk : Wk w0 w b bm go S L vb Rs Xs
  ov : OwnI w w0.heap.size v (List.replicate i m ++ D.drop i)
  al : Aln v Xs
  mu : (u, List.replicate i m) ∈ Xs
  tu : Top u i Xs
  inD : ∀ x ∈ D, In64 x
  inm : In64 m
  le : i ≤ D.length
theorem P4.start {v : Value} {D : List Int} {m : Int} (h : Wk w0 w b bm go S L vb Rs Xs) (ho : OwnI w w0.heap.size v D) (hal : Aln v Xs) (hD : ∀ x ∈ D, In64 x) (hm : In64 m) : P4 w0 w b bm go S L vb Rs v D m (.slice none 0 0) 0 ((.slice none 0 0, []) :: Xs) :=
  ⟨h.more (ownI_nil _ _) (fun x hx => by cases hx), ho, (fun e he k hk hk' => by
    rcases List.mem_cons.1 he with rfl | he
    · cases hk'
    · exact hal e he k hk hk'), List.mem_cons_self, (fun e _ k hk => by cases hk), hD, hm, Nat.zero_le _⟩
theorem P4.step {D : List Int} {m : Int} {u : Value} {i n c : Nat} {a : Option Addr} (h : P4 w0 w b bm go S L vb Rs (.slice a n c) D m u i Xs) (hi : i < D.length) (hz : D.length ≤ 4294967295) :
    ∃ q x, a = some ⟨q, 0, none⟩ ∧ D[i]? = some x ∧ w.cell? ⟨q, i, none⟩ = some (.int .i64 x) ∧ w.frozen? ⟨q, i, none⟩ = false ∧ (w.setCell ⟨q, i, none⟩ (.int .i64 m)).cell? ⟨q, i, none⟩ = some (.int .i64 m) ∧
      Hid (∃ a' n' c' w', Hid ((Builtin.append_ #[37, 37] 37 #[u, .slice (some ⟨w.heap.size, 0, none⟩) 1 1]).run Try.prog ((w.setCell ⟨q, i, none⟩ (.int .i64 m)).alloc (.cells #[.int .i64 m] 3)) = .ok (.slice a' n' c') w') ∧ Hid (∃ Xs', P4 w0 w' b bm go S L vb Rs (.slice (some ⟨q, 0, none⟩) n c) D m (.slice a' n' c') (i + 1) Xs')) := by
  have hlen : (List.replicate i m ++ D.drop i).length = D.length := by
    have := h.le
    simp
    omega
  obtain ⟨a1, c1, e1, -, -, k0, k1⟩ := ownI_len h.ov
  rw [hlen] at e1 k0
  simp only [Value.slice.injEq] at e1
  obtain ⟨rfl, rfl, rfl⟩ := e1
  cases a with
  | none => have := (k0 rfl).1; omega
  | some p =>
    obtain ⟨q, rfl, hqB, hqz⟩ := k1 p rfl
    have hx : (List.replicate i m ++ D.drop i)[i]? = some D[i] := by
      rw [List.getElem?_append_right (by simp), List.length_replicate, Nat.sub_self, List.getElem?_drop, Nat.add_zero, List.getElem?_eq_getElem hi]
    obtain ⟨hc, hf⟩ := own_cell h.ov hx
    have hg := grown_set w q i (.int .i64 m)
    have hov := h.ov
    rw [← hlen] at hov
    have ho2 := own_set hov i m
    rw [hlen] at ho2
    have hset : (List.replicate i m ++ D.drop i).set i m = List.replicate (i + 1) m ++ D.drop (i + 1) := by
      rw [List.set_append_right _ _ (by simp), List.length_replicate, Nat.sub_self, List.drop_eq_getElem_cons hi, List.set_cons_zero, List.replicate_succ']
      simp
    rw [hset] at ho2
    have hc2 : (w.setCell ⟨q, i, none⟩ (.int .i64 m)).cell? ⟨q, i, none⟩ = some (.int .i64 m) := (own_cell ho2 (by rw [List.getElem?_append_left (by simp), List.getElem?_replicate, if_pos (by omega)])).1
    have hwk : Wk w0 (w.setCell ⟨q, i, none⟩ (.int .i64 m)) b bm go S L vb Rs Xs :=
      ⟨h.wk.tb.grown hg (fun k e => by
        cases e
        obtain ⟨cs, hcs⟩ := Me.row_kind h.ov (k := q) rfl
        exact ⟨cs, 3, hcs, by decide, by decide⟩) (fun k e => by cases e; exact hqB), row_grown h.wk.ow hg (fun k hk e => by cases e; exact kindH_ne h.wk.ow h.ov q rfl hk), fun e he => ⟨row_grown (h.wk.vs e he).1 hg (fun k hk e' => by cases e'; exact h.al e he q rfl hk), (h.wk.vs e he).2⟩, h.wk.rs⟩
    have hB1 : Below (w.setCell ⟨q, i, none⟩ (.int .i64 m)).heap.size (w.setCell ⟨q, i, none⟩ (.int .i64 m)) ((w.setCell ⟨q, i, none⟩ (.int .i64 m)).alloc (.cells #[.int .i64 m] 3)) := (Below.refl _ _).alloc (Nat.le_refl _) _
    have hqz2 : q < (w.setCell ⟨q, i, none⟩ (.int .i64 m)).heap.size := Nat.lt_of_lt_of_le hqz hg.size
    obtain ⟨a', c', w', hr, hw, ht, hoth⟩ := hwk.app (M := [m]) (m := 1) h.mu (by rw [List.length_replicate]; exact h.tu) rfl (by decide) (fun x hx => by
      simp only [List.mem_cons, List.not_mem_nil, or_false] at hx
      subst hx
      exact h.inm) (by rw [List.length_replicate]; omega) #[.int .i64 m] rfl
    rw [List.length_replicate] at hr hw ht hoth
    have hsz : (w.setCell ⟨q, i, none⟩ (.int .i64 m)).heap.size = w.heap.size := by simp [World.setCell]
    rw [hsz] at hr
    have hrep : List.replicate i m ++ [m] = List.replicate (i + 1) m := by rw [List.replicate_succ']
    rw [hrep] at hw ht hoth
    -- v stays
    have hdis : Dis u (.slice (some ⟨q, 0, none⟩) D.length c) := (h.al _ h.mu).symm
    have hn := (hoth (.slice (some ⟨q, 0, none⟩) D.length c) 0 (fun k hk => by cases hk; exact hqz2) hdis (fun e he k hk hk' => absurd hk' (h.al e he k hk)))
    refine ⟨q, D[i], rfl, List.getElem?_eq_getElem hi, hc, hf, hc2, a', i + 1, c', w', hr, _, hw, ?_, fun e he k hk hk' => ?_, List.mem_cons_self, ht, h.inD, h.inm, hi⟩
    · obtain ⟨v2, w2, hr2, -, -, -, hkp, -⟩ := append_i ((w.setCell ⟨q, i, none⟩ (.int .i64 m)).alloc (.cells #[.int .i64 m] 3)) w0.heap.size u (List.replicate i m) [m] (w.setCell ⟨q, i, none⟩ (.int .i64 m)).heap.size 1 1 ((hwk.below hB1).vs _ h.mu).1 rfl (by decide) (fun j x hj => by
        rw [cell_of_row _ _ _ _ _ _ (heap_alloc_new _ _), ← Array.getElem?_toList]
        match j with
        | 0 => simp at hj; subst hj; rfl
        | j + 1 => simp at hj) (Nat.le_trans hwk.tb.be.size hB1.size) (by rw [List.length_replicate]; show i + 1 ≤ _; omega)
      rw [hsz, hr] at hr2
      simp only [Result.ok.injEq] at hr2
      obtain ⟨-, rfl⟩ := hr2
      exact hkp _ _ _ (Me.row_below ho2 hB1) fun k hk hk' => absurd hk' (hdis k hk)
    · rcases List.mem_cons.1 he with rfl | he
      · exact hn.1 k hk' hk
      · exact h.al e he k hk hk'
end
end Go.Proofs.Ythbjfbalgejndaa
