/-
  keep: what lies between its steps.
-/
import Derived.Test.YtjilahbkolcekabGG1
namespace Go.Proofs.Ytjilahbkolcekab
open Go.ChangeShapes Go.WideShapes Go.ChangeAt Go.RowKit Go.Maps Tri N
set_option maxHeartbeats 1000000
set_option maxRecDepth 100000

/-- Lists of the mark, beside the mark. -/
structure Kv (w wr : World) (B : Nat) (v : Value) (p : Pod) (q : Nat) (Us : List (Value × Nat)) : Prop where
  row : wr.heap[q]? = some (.cells #[.string p.nm, .int .u32 (p.ad : Int)] 80 (0, 0))
  low : w.heap.size ≤ q
  kp : Keeps (fun k => v.ownBlock = some k) w wr
  us : ∀ x ∈ Us, OwnD wr B x.1 (List.replicate x.2 p) ∧ (∀ g, x.1.ownBlock = some g → v.ownBlock = some g ∨ w.heap.size ≤ g) ∧ x.1.ownBlock ≠ some q

section
variable {w wr : World} {B : Nat} {v : Value} {p : Pod} {q : Nat} {Us : List (Value × Nat)}
theorem Kv.sub (h : Kv w wr B v p q Us) {Us' : List (Value × Nat)} (hs : ∀ x ∈ Us', x ∈ Us) : Kv w wr B v p q Us' := ⟨h.row, h.low, h.kp, fun x hx => h.us x (hs x hx)⟩
theorem Kv.cells (h : Kv w wr B v p q Us) : wr.cell? ⟨q, 0, none⟩ = some (.string p.nm) ∧ wr.cell? ⟨q, 1, none⟩ = some (.int .u32 (p.ad : Int)) := by
  refine ⟨?_, ?_⟩ <;> (rw [cell_of_row _ _ _ _ _ _ h.row]; rfl)
theorem Kv.more (h : Kv w wr B v p q Us) {u : Value} {k : Nat} (hx : (u, k) ∈ Us) (m : Nat) (hm0 : 0 < m) (hbig : k + m ≤ 4294967296) (hB : B ≤ w.heap.size) (C : Array Value) (hC : C.toList = pd (List.replicate m p)) :
    ∃ v' w3, (Builtin.append_ #[49, 49] 49 #[u, .slice (some ⟨wr.heap.size, 0, none⟩) m m]).run Try.prog (wr.alloc (.cells C 80)) = .ok v' w3 ∧ Kv w w3 B v p q ((v', k + m) :: Us) ∧ ∀ g cap, u = .slice (some ⟨g, 0, none⟩) k cap → k + m ≤ cap → v' = .slice (some ⟨g, 0, none⟩) (k + m) cap := by
  obtain ⟨hu, hnu, hqu⟩ := h.us _ hx
  have hb2 : Below wr.heap.size wr (wr.alloc (.cells C 80)) := (Below.refl _ _).alloc (Nat.le_refl _) _
  have r2 := heap_alloc_new wr (.cells C 80 (0, 0))
  have hsz := h.kp.size
  have hql := (Array.getElem?_eq_some_iff.1 h.row).1
  obtain ⟨v', w3, hr, ho, hg, hn, hall, hroom⟩ := append_mark (wr.alloc (.cells C 80)) 49 B u k p wr.heap.size m m (hu.below hb2) (fun j x hj => by
    rw [cell_of_row _ _ _ _ _ _ r2, ← Array.getElem?_toList, hC]; exact hj) hm0 (by have := hb2.size; omega) hbig
  have hk3 : Keeps (fun k => u.ownBlock = some k) wr w3 := (Keeps.of hb2).trans (Keeps.grown hg fun k e => e)
  refine ⟨v', w3, hr, ⟨(hk3.block q hql (fun e => hqu e)).trans h.row, h.low, ⟨hk3.os.trans h.kp.os, hk3.tape.trans h.kp.tape, hk3.output.trans h.kp.output, Nat.le_trans h.kp.size hk3.size, fun k hk hnk => (hk3.block k (by omega) (fun e => ?_)).trans (h.kp.block k hk hnk)⟩, fun x hxm => ?_⟩, hroom⟩
  · rcases hnu k e with h1 | h1
    · exact hnk h1
    · omega
  · have hw2 := hb2.size
    rcases List.mem_cons.1 hxm with rfl | hxm
    · refine ⟨ho, fun g hgg => ?_, fun e => ?_⟩
      · rcases hn g hgg with h1 | h1
        · exact hnu g h1
        · exact .inr (by omega)
      · rcases hn q e with h1 | h1
        · exact hqu h1
        · omega
    · obtain ⟨h1, h2, h3⟩ := h.us x hxm
      exact ⟨hall B x.1 x.2 (h1.below hb2), h2, h3⟩
end

section
variable {w : World} {B bb : Nat} {vl vm : Value} {Vs : List Value} {Ps : List Pod}
theorem Bk.ne (h : Bk w B bb vl vm Vs Ps) {B' : Nat} {u : Value} {L : List Pod} (hu : OwnD w B' u L) : u.ownBlock ≠ some bb ∧ ∀ k, vl.ownBlock = some k → u.ownBlock ≠ some k := by
  refine ⟨fun e => ?_, fun k hk e => ?_⟩
  · obtain ⟨cs, hc⟩ := hu.kind e
    rw [h.row] at hc
    simp at hc
  · obtain ⟨cs, hc⟩ := hu.kind e
    obtain ⟨cs', hc'⟩ := h.ls.kind hk
    rw [hc'] at hc
    simp at hc
theorem Bk.nel (h : Bk w B bb vl vm Vs Ps) : vl.ownBlock ≠ some bb := fun e => by
  obtain ⟨cs, hc⟩ := h.ls.kind e
  rw [h.row] at hc
  simp at hc

/-- The lists are laid into the book. -/
theorem Bk.lists (h : Bk w B bb vl vm Vs Ps) (Us : List Value) (C : Array Value) (hC : C.toList = Us) (hU : AllS Us) (m : Nat) (hm : Us.length = m) (hm0 : 0 < m) (hB : B ≤ w.heap.size) (hbig : Vs.length + m ≤ 4294967296) :
    ∃ vl' w3, (Builtin.append_ #[52, 52] 52 #[vl, .slice (some ⟨w.heap.size, 0, none⟩) m m]).run Try.prog (w.alloc (.cells C 49)) = .ok vl' w3 ∧
      (∃ x, w3.cell? ⟨bb, 0, none⟩ = some x) ∧ w3.frozen? ⟨bb, 0, none⟩ = false ∧ (w3.setCell ⟨bb, 0, none⟩ vl').heap[bb]? = some (.cells #[vl', vm] 54 (0, 0)) ∧
      OwnS (w3.setCell ⟨bb, 0, none⟩ vl') B vl' (Vs ++ Us) ∧ NwB vl vl' w.heap.size ∧ Keeps (fun k => k = bb ∨ vl.ownBlock = some k) w (w3.setCell ⟨bb, 0, none⟩ vl') := by
  have hb2 : Below w.heap.size w (w.alloc (.cells C 49)) := (Below.refl _ _).alloc (Nat.le_refl _) _
  have r2 := heap_alloc_new w (.cells C 49 (0, 0))
  obtain ⟨vl', w3, hr, ho, hg, hn⟩ := append_sl2 (w.alloc (.cells C 49)) 52 B w.heap.size m m vl Vs Us (h.ls.below hb2) hm hm0 (fun j x hj => by
    rw [cell_of_row _ _ _ _ _ _ r2, ← Array.getElem?_toList, hC]; exact hj) hU (by have := hb2.size; omega) hbig
  have hk3 : Keeps (fun k => vl.ownBlock = some k) w w3 := (Keeps.of hb2).trans (Keeps.grown hg fun k e => e)
  have r3 := (hk3.block bb (h.lt (.inl rfl)).2 h.nel).trans h.row
  refine ⟨vl', w3, hr, ⟨vl, by rw [cell_of_row _ _ _ _ _ _ r3]; rfl⟩, frozen_of_row _ _ _ _ _ r3, by rw [set_cells r3]; rfl, ?_, fun g hgg => (hn g hgg).imp id fun h => by have := hb2.size; omega, (hk3.mono fun k _ hk => .inr hk).set _ (.inl rfl) _⟩
  refine ho.keeps (S := fun k => k = bb) (Keeps.set (S := fun k => k = bb) (Keeps.refl _ _) ⟨bb, 0, none⟩ rfl vl') fun k hk e => ?_
  subst e
  obtain ⟨cs, hc⟩ := ho.kind hk
  rw [r3] at hc
  simp at hc

theorem OwnD.set {w : World} {B b i : Nat} {v x : Value} {L : List Pod} {cs : Array Value} {t : TypeId} (h : OwnD w B v L) (hb : w.heap[b]? = some (.cells cs t (0, 0))) (ht : t ≠ 80) : OwnD (w.setCell ⟨b, i, none⟩ x) B v L := by
  refine h.keeps (S := fun k => k = b) (Keeps.set (S := fun k => k = b) (Keeps.refl _ _) ⟨b, i, none⟩ rfl x) fun k hk e => ?_
  subst e
  obtain ⟨cs', hc⟩ := h.kind hk
  rw [hb] at hc
  simp at hc
  exact ht hc.2

/-- The book holds the lists and their marks. -/
theorem Bk.done {w7 u : World} {vl' vm' : Value} {Us : List Value} {p : Pod} (h : Bk w B bb vl vm Vs Ps) (hus : ∀ x ∈ Us, ∃ n, OwnD w B x (List.replicate n p)) (hap : ∀ x ∈ Us, ∀ k, x.ownBlock = some k → ¬ fpB bb vl vm Vs k)
    (hr7 : w7.heap[bb]? = some (.cells #[vl', vm] 54 (0, 0))) (ho7 : OwnS w7 B vl' (Vs ++ Us)) (hk7 : Keeps (fun k => k = bb ∨ vl.ownBlock = some k) w w7) (hku : Keeps (fun k => vm.ownBlock = some k) w7 u)
    (hm : OwnD u B vm' (Ps ++ List.replicate Us.length p)) (hnm : NwB vm vm' w7.heap.size) : Bk (u.setCell ⟨bb, 1, none⟩ vm') B bb vl' vm' (Vs ++ Us) (Ps ++ List.replicate Us.length p) := by
  have hto : ∀ {x : Value} {L : List Pod}, OwnD w B x L → OwnD w7 B x L := fun hx => hx.keeps hk7 fun k hk e => by
    rcases e with rfl | e
    · exact (h.ne hx).1 hk
    · exact (h.ne hx).2 k e hk
  have hm7 := hto h.ms
  have hbb7 : vm.ownBlock ≠ some bb := (h.ne h.ms).1
  have hru := (hku.block bb (Array.getElem?_eq_some_iff.1 hr7).1 hbb7).trans hr7
  have hof : ∀ {x : Value} {L : List Pod}, OwnD w B x L → (∀ k, x.ownBlock = some k → vm.ownBlock ≠ some k) → OwnD (u.setCell ⟨bb, 1, none⟩ vm') B x L := fun hx hne => ((hto hx).keeps hku fun k hk e => hne k hk e).set hru (by decide)
  have hvm : ∀ x ∈ Vs ++ Us, ∀ k, x.ownBlock = some k → vm.ownBlock ≠ some k := fun x hx k hk e => by
    rcases List.mem_append.1 hx with hx | hx
    · exact h.apart x hx k hk e
    · exact hap x hx k hk (.inr (.inr (.inl e)))
  refine ⟨by rw [set_cells hru]; rfl, h.low, ?_, hm.set hru (by decide), by rw [List.length_append, List.length_append, List.length_replicate, h.len], fun i x y hx hy => ?_, fun x hx k hk e => ?_⟩
  · have h1 : OwnS u B vl' (Vs ++ Us) := ho7.keeps hku fun k hk e => by
      obtain ⟨cs, hc⟩ := ho7.kind hk
      obtain ⟨cs', hc'⟩ := hm7.kind e
      rw [hc] at hc'
      simp at hc'
    refine h1.keeps (S := fun k => k = bb) (Keeps.set (S := fun k => k = bb) (Keeps.refl _ _) ⟨bb, 1, none⟩ rfl vm') fun k hk e => ?_
    subst e
    obtain ⟨cs, hc⟩ := h1.kind hk
    rw [hru] at hc
    simp at hc
  · by_cases hi : i < Vs.length
    · rw [List.getElem?_append_left hi] at hx
      rw [List.getElem?_append_left (by rw [← h.len]; exact hi)] at hy
      obtain ⟨n, hn⟩ := h.full i x y hx hy
      exact ⟨n, hof hn (hvm x (List.mem_append_left _ (List.mem_of_getElem? hx)))⟩
    · rw [List.getElem?_append_right (by omega)] at hx
      rw [List.getElem?_append_right (by rw [← h.len]; omega)] at hy
      have hxm := List.mem_of_getElem? hx
      obtain ⟨n, hn⟩ := hus x hxm
      have hyp := (List.mem_replicate.1 (List.mem_of_getElem? hy)).2
      subst hyp
      exact ⟨n, hof hn (hvm x (List.mem_append_right _ hxm))⟩
  · rcases hnm k e with e | e
    · exact hvm x hx k hk e
    · have hlt : k < w.heap.size := by
        rcases List.mem_append.1 hx with hx | hx
        · obtain ⟨n, p', hn⟩ := h.mem hx
          exact (hn.lt hk).2
        · obtain ⟨n, hn⟩ := hus x hx
          exact (hn.lt hk).2
      have := hk7.size
      omega
end
end Go.Proofs.Ytjilahbkolcekab
