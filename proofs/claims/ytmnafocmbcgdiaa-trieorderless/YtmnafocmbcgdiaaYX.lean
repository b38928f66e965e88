/-
  TrieNested.
-/
import Derived.Test.YtmnafocmbcgdiaaYN
import Derived.Test.YtmnafocmbcgdiaaYW
import Derived.Test.YtmnafocmbcgdiaaYTA
import Derived.Test.YtmnafocmbcgdiaaWLSA
namespace Go.Proofs.Ytmnafocmbcgdiaa
open Go.ChangeShapes Go.WideShapes Go.ChangeAt Go.RowKit Go.Shelf Tri N
set_option maxHeartbeats 16000000
set_option maxRecDepth 100000

/-- The tree m hangs at tb. -/
structure TrB (u : World) (tb : Nat) (m : MT) : Prop where
  ls : Lies u (fun b => b = tb) m
  rt : u.heap[tb]? = some (.cells #[m.ptr] 77)

theorem TrB.below {u u' : World} {tb : Nat} {m : MT} (h : TrB u tb m) (hb : Below u.heap.size u u') : TrB u' tb m := ⟨h.ls.below hb, below_keeps hb h.rt (Array.getElem?_eq_some_iff.1 h.rt).1⟩

theorem seq_boxes {tb x : Nat} {y : Int} {m : MT} {u : World} (h : TrB u tb m) :
    SeqB ((u.alloc (.cells #[.pointer (some ⟨tb, 0, none⟩)] 25)).alloc (.cells #[.int .u32 (x : Int), .int .i64 y] 32)) (fun b => b = tb) (u.heap.size + 1) u.heap.size tb x y m ∧ Below u.heap.size u ((u.alloc (.cells #[.pointer (some ⟨tb, 0, none⟩)] 25)).alloc (.cells #[.int .u32 (x : Int), .int .i64 y] 32)) := by
  have hb : Below u.heap.size u ((u.alloc (.cells #[.pointer (some ⟨tb, 0, none⟩)] 25)).alloc (.cells #[.int .u32 (x : Int), .int .i64 y] 32)) := ((Below.refl _ _).alloc (Nat.le_refl _) _).alloc (by simp) _
  have h' := h.below hb
  refine ⟨⟨h'.ls, ?_, ?_, h'.rt⟩, hb⟩
  · have q := heap_alloc_new (u.alloc (.cells #[.pointer (some ⟨tb, 0, none⟩)] 25)) (.cells #[.int .u32 (x : Int), .int .i64 y] 32)
    rw [World.size_alloc] at q
    exact q
  · rw [Below.heap_alloc _ _ _ (by simp)]; exact heap_alloc_new u _

theorem all_seq {tb : Nat} {m : MT} (u : World) (h : TrB u tb m) :
    Calls Try.prog 25 #[.pointer (some ⟨tb, 0, none⟩)] u fun e u' => ∃ p t, e = .returned (.func (.func 43) #[] #[.pointer (some ⟨p, 0, none⟩), .pointer (some ⟨t, 0, none⟩)]) ∧ SeqB u' (fun b => b = tb) p t tb 0 0 m ∧ Below u.heap.size u u' := by
  refine (all_new u).mono ?_
  rintro _ _ ⟨rfl, rfl⟩
  exact ⟨_, _, rfl, (seq_boxes h).1, (seq_boxes h).2⟩

theorem within_seq {tb x : Nat} {y : Int} {m : MT} (u : World) (h : TrB u tb m) :
    Calls Try.prog 30 #[.pointer (some ⟨tb, 0, none⟩), qv x y] u fun e u' => ∃ p t, e = .returned (.func (.func 43) #[] #[.pointer (some ⟨p, 0, none⟩), .pointer (some ⟨t, 0, none⟩)]) ∧ SeqB u' (fun b => b = tb) p t tb x y m ∧ Below u.heap.size u u' := by
  refine (within_new u).mono ?_
  rintro _ _ ⟨rfl, rfl⟩
  exact ⟨_, _, rfl, (seq_boxes h).1, (seq_boxes h).2⟩

theorem ris_one {A : List (K × Int)} {p : K} (h : Ris A) (ha : ∀ e ∈ A, e.1 = p) : A.length ≤ 1 := by
  match A, h, ha with
  | [], _, _ => simp
  | [a], _, _ => simp
  | a :: b :: A, h, ha =>
    have h1 := (Ris.cons.1 h).1 b (by simp)
    rw [ha a (by simp), ha b (by simp)] at h1
    exact h1.irr.elim

/-- A prefix more makes at most one entry more. -/
theorem hang_len {t : Tr} (hW : WF top.x (top.x + top.s) t) {k : K} (hk : k.Ok) (v : Int) : (ents (hang t k (some v))).length ≤ (ents t).length + 1 ∧ ents (hang t k (some v)) ≠ [] := by
  obtain ⟨hW2, hm⟩ := hang_facts (v := some v) top_ok hW hk hk.top
  have r1 := ents_ris hW
  have r2 := ents_ris hW2
  have e1 : (ents (hang t k (some v))).filter (fun e => decide (e.1 ≠ k)) = (ents t).filter (fun e => decide (e.1 ≠ k)) := by
    refine ris_ext (r2.but _) (r1.but _) fun e => ?_
    simp only [List.mem_filter, hm e, decide_eq_true_eq]
    constructor
    · rintro ⟨⟨h1, _⟩ | ⟨_, h2⟩, h3⟩
      · exact absurd h1 h3
      · exact ⟨h2, h3⟩
    · rintro ⟨h1, h2⟩
      exact ⟨.inr ⟨h2, h1⟩, h2⟩
  have e2 : ((ents (hang t k (some v))).filter (fun e => decide (e.1 = k))).length ≤ 1 := ris_one (p := k) (r2.but _) (fun e he => by simpa using (List.mem_filter.1 he).2)
  have e3 := List.length_eq_countP_add_countP (fun e : K × Int => decide (e.1 = k)) (l := ents (hang t k (some v)))
  have e4 : List.countP (fun e : K × Int => decide ¬(decide (e.1 = k)) = true) (ents (hang t k (some v))) = ((ents t).filter (fun e => decide (e.1 ≠ k))).length := by
    rw [← e1, ← List.countP_eq_length_filter]
    exact List.countP_congr (fun e _ => by simp)
  rw [← List.countP_eq_length_filter] at e2
  have e5 := List.length_filter_le (fun e : K × Int => decide (e.1 ≠ k)) (ents t)
  refine ⟨by omega, fun h0 => ?_⟩
  have := (hm (k, v)).2 (.inl ⟨rfl, rfl⟩)
  rw [h0] at this
  cases this

theorem sees_cut {w : World} {ao : Option Addr} {n cap : Nat} {P : List (Nat × Int)} (h : Sees w (.slice ao n cap) P) {i : Nat} (hi : i ≤ n) : Sees w (.slice ao i cap) (P.take i) := by
  obtain ⟨ao', cap', hv, h1, h2, h3⟩ := h
  simp at hv
  obtain ⟨rfl, rfl, rfl⟩ := hv
  have hl : (P.take i).length = i := by simp; omega
  refine ⟨ao, cap, by rw [hl], by omega, h2, fun j hj => ?_⟩
  obtain ⟨g, off, q1, q2, q3, q4⟩ := h3 j (by omega)
  refine ⟨g, off, q1, q2, ?_, ?_⟩
  · rw [List.getElem_take]; exact q3
  · rw [List.getElem_take]; exact q4

theorem two_sees {u : World} (xa : Nat) (ya : Int) (xb : Nat) (yb : Int) : Sees (u.alloc (.cells #[.int .u32 (xa : Int), .int .i64 ya, .int .u32 (xb : Int), .int .i64 yb] 32)) (.slice (some ⟨u.heap.size, 0, none⟩) 2 2) [(xa, ya), (xb, yb)] := by
  have r := heap_alloc_new u (.cells #[.int .u32 (xa : Int), .int .i64 ya, .int .u32 (xb : Int), .int .i64 yb] 32)
  refine ⟨_, 2, rfl, by simp, by unfold maxLen; omega, fun j hj => ⟨u.heap.size, 0, rfl, by simp, ?_, ?_⟩⟩
  · rw [cell_of_row _ _ _ _ _ _ r]
    match j, hj with
    | 0, _ => rfl
    | 1, _ => rfl
  · rw [cell_of_row _ _ _ _ _ _ r]
    match j, hj with
    | 0, _ => rfl
    | 1, _ => rfl

/-- The keys of what an iterator hands out. -/
theorem keys_in {L : List (K × Int)} {q : K} (hq : q.Ok) : (entsIn L q.x (q.n : Int)).map Prod.fst = (L.map Prod.fst).filter (inK q) := by
  unfold entsIn
  rw [valB_ok hq, if_pos rfl, List.filter_map]
  rfl
end Go.Proofs.Ytmnafocmbcgdiaa
