/-
  The law's untouched: what lies in memory while it works.
-/
import Derived.Test.YthbjfbalgejndaaZB
namespace Go.Proofs.Ythbjfbalgejndaa
open Go.ChangeShapes Go.WideShapes Go.ChangeAt Go.RowKit Go.Maps H
set_option maxHeartbeats 1000000
set_option maxRecDepth 100000

/-- Only ids of the first items. -/
def Few (L S : List Dl) : Prop := ∀ x ∈ S, ∃ y ∈ L.take 300, y.1 = x.1

/-- A Timers of the law's own that holds some of the items. -/
structure TB (w0 w : World) (b bm : Nat) (go : Option Nat) (S L : List Dl) : Prop where
  tm : Tm w b bm go 65536 S
  few : Few L S
  fpB : ∀ x ∈ fp b bm go, w0.heap.size ≤ x
  be : Below w0.heap.size w0 w

section
variable {w0 w w' : World} {b bm : Nat} {go : Option Nat} {S L : List Dl}
theorem TB.len (h : TB w0 w b bm go S L) : S.length ≤ 300 := by
  have h1 : (S.map (·.1)).Nodup := by
    have hs := sorted_nodup h.tm.sorted
    have hi := h.tm.ids
    unfold List.Nodup at hs ⊢
    rw [List.pairwise_map]
    exact List.Pairwise.imp_of_mem (fun {a b} ha hb hne e => hne (hi a ha b hb e)) hs
  have h2 := nodup_len (S.map (·.1)) ((L.take 300).map (·.1)) h1 fun x hx => by
    obtain ⟨y, hy, rfl⟩ := List.mem_map.1 hx
    obtain ⟨z, hz, e⟩ := h.few y hy
    exact List.mem_map.2 ⟨z, hz, e⟩
  rw [List.length_map, List.length_map, List.length_take] at h2
  omega
theorem TB.below (h : TB w0 w b bm go S L) (hb : Below w.heap.size w w') : TB w0 w' b bm go S L := ⟨h.tm.below hb, h.few, h.fpB, h.be.trans (hb.mono h.be.size)⟩
theorem TB.drew (h : TB w0 w b bm go S L) : TB w0 w.drew b bm go S L := h.below (below_drew (Below.refl _ _))
theorem TB.grown {row : Option Nat} (h : TB w0 w b bm go S L) (hg : w.grownBy w' row) (hr : ∀ k, row = some k → ∃ cs e, w.heap[k]? = some (.cells cs e (0, 0)) ∧ e ≠ 63 ∧ e ≠ 67) (hB : ∀ k, row = some k → w0.heap.size ≤ k) : TB w0 w' b bm go S L := ⟨h.tm.grown hg hr, h.few, h.fpB, below_grown h.be hg hB h.be.size⟩
theorem TB.grownR {B : Nat} {e : TypeId} {sz n : Nat} {v : Value} {xs : List Value} (h : TB w0 w b bm go S L) (hr : w.ownsRow B e sz v n xs) (hB : w0.heap.size ≤ B) (hg : w.grownBy w' v.ownBlock) (he : e ≠ 63 ∧ e ≠ 67) : TB w0 w' b bm go S L :=
  h.grown hg (fun k hk => by
    obtain ⟨cs, hc⟩ := Me.row_kind hr hk
    exact ⟨cs, e, hc, he.1, he.2⟩) fun k hk => Nat.le_trans hB (World.ownsRow.lt hr k hk).1
theorem TB.set (h : TB w0 w b bm go S L) {i : Nat} {d : Dl} (hd : L[i]? = some d) (hi : i < 300) (h1 : In64 d.1) (h2 : In64 d.2) :
    Calls Try.prog 13 #[.pointer (some ⟨b, 0, none⟩), .int .i64 d.1, .int .i64 d.2] w fun e w' => ∃ go', e = .returned (.int .i64 0) ∧ (∃ S', TB w0 w' b bm go' S' L) ∧ Fr (fp b bm go) w w' := by
  obtain ⟨s1, s2⟩ := set_room (S := S) (lim := 65536) (by have := h.len; omega) d.1 d.2
  refine (set_any b bm go 65536 S d.1 d.2 w h.tm h1 h2).mono ?_
  rintro e w' ⟨go', rfl, hT, hg, hf⟩
  rw [s2] at hT
  rw [s1]
  refine ⟨go', rfl, ⟨_, hT, fun x hx => ?_, fp_go h.fpB h.be.size hg, h.be.trans (hf.below h.fpB h.be.size)⟩, hf⟩
  rcases mem_setS.1 hx with rfl | ⟨hx, _⟩
  · exact ⟨d, List.mem_of_getElem? (i := i) (by rw [List.getElem?_take, if_pos hi, hd]), rfl⟩
  · exact h.few x hx
theorem due_split (S : List Dl) (now : Int) : dueT S now ++ dueR S now = S := List.takeWhile_append_dropWhile
theorem TB.due (h : TB w0 w b bm go S L) (now : Int) (hn : In64 now) :
    Calls Try.prog 15 #[.pointer (some ⟨b, 0, none⟩), .int .i64 now] w fun e w' => ∃ v, e = .returned v ∧ OwnI w' w.heap.size v ((dueT S now).map (·.1)) ∧ TB w0 w' b bm go (dueR S now) L ∧ Fr (fp b bm go) w w' ∧ (dueT S now).length ≤ 300 ∧ ∀ x ∈ (dueT S now).map (·.1), In64 x := by
  refine (due_any b bm go 65536 S now w h.tm hn).mono ?_
  rintro e w' ⟨v, rfl, ho, hT, hf⟩
  have hsp := due_split S now
  have hmem : ∀ x ∈ dueR S now, x ∈ S := fun x hx => by rw [← hsp]; exact List.mem_append_right _ hx
  have hmemT : ∀ x ∈ dueT S now, x ∈ S := fun x hx => by rw [← hsp]; exact List.mem_append_left _ hx
  have hlen := h.len
  refine ⟨v, rfl, ho, ⟨hT, fun x hx => h.few x (hmem x hx), h.fpB, h.be.trans (hf.below h.fpB h.be.size)⟩, hf, ?_, fun x hx => ?_⟩
  · have := congrArg List.length hsp
    rw [List.length_append] at this
    omega
  · obtain ⟨y, hy, rfl⟩ := List.mem_map.1 hx
    exact (h.tm.in64 y (hmemT y hy)).1
end

/-- Lists in blocks of their own. -/
def Apt (Vs : List Value) : Prop := Vs.Pairwise fun a b => ∀ k, a.ownBlock = some k → b.ownBlock ≠ some k
theorem Apt.ne {Vs : List Value} (h : Apt Vs) {i j : Nat} {a b : Value} (ha : Vs[i]? = some a) (hb : Vs[j]? = some b) (hij : i ≠ j) {k : Nat} (hk : a.ownBlock = some k) : b.ownBlock ≠ some k := by
  obtain ⟨hi, rfl⟩ := List.getElem?_eq_some_iff.1 ha
  obtain ⟨hj, rfl⟩ := List.getElem?_eq_some_iff.1 hb
  have hp := List.pairwise_iff_getElem.1 h
  rcases Nat.lt_or_gt_of_ne hij with e | e
  · exact hp i j hi hj e k hk
  · exact fun hk' => hp j i hj hi e k hk' hk

/-- What the script has so far. -/
structure Un (w0 w : World) (b bm : Nat) (go : Option Nat) (S L : List Dl) (vl vw : Value) (Vs Ws : List Value) : Prop where
  tb : TB w0 w b bm go S L
  ls : OwnS w w0.heap.size vl Vs
  ws : OwnS w w0.heap.size vw Ws
  ne : ∀ k, vl.ownBlock = some k → vw.ownBlock ≠ some k
  len : Vs.length = Ws.length
  pr : ∀ (i : Nat) v u, Vs[i]? = some v → Ws[i]? = some u → ∃ K, OwnI w w0.heap.size v K ∧ OwnI w w0.heap.size u K ∧ (∀ x ∈ K, In64 x) ∧ K.length ≤ 300
  two : Apt Vs

section
variable {w0 w w' : World} {b bm : Nat} {go : Option Nat} {S L : List Dl} {vl vw : Value} {Vs Ws : List Value}
theorem Un.fr {go' : Option Nat} {S' : List Dl} (h : Un w0 w b bm go S L vl vw Vs Ws) (hf : Fr (fp b bm go) w w') (ht : TB w0 w' b bm go' S' L) : Un w0 w' b bm go' S' L vl vw Vs Ws :=
  ⟨ht, row_tm h.ls h.tb.tm hf (by decide), row_tm h.ws h.tb.tm hf (by decide), h.ne, h.len, fun i v u hv hu => by
    obtain ⟨K, h1, h2, h3⟩ := h.pr i v u hv hu
    exact ⟨K, row_tm h1 h.tb.tm hf (by decide), row_tm h2 h.tb.tm hf (by decide), h3⟩, h.two⟩
theorem Un.below (h : Un w0 w b bm go S L vl vw Vs Ws) (hb : Below w.heap.size w w') : Un w0 w' b bm go S L vl vw Vs Ws := h.fr (Fr.of_below hb _) (h.tb.below hb)
theorem Un.set (h : Un w0 w b bm go S L vl vw Vs Ws) {i : Nat} {d : Dl} (hd : L[i]? = some d) (hi : i < 300) (h1 : In64 d.1) (h2 : In64 d.2) :
    Calls Try.prog 13 #[.pointer (some ⟨b, 0, none⟩), .int .i64 d.1, .int .i64 d.2] w fun e w' => e = .returned (.int .i64 0) ∧ ∃ go' S', Un w0 w' b bm go' S' L vl vw Vs Ws := by
  refine (h.tb.set hd hi h1 h2).mono ?_
  rintro e w' ⟨go', rfl, ⟨S', hT⟩, hf⟩
  exact ⟨rfl, go', S', h.fr hf hT⟩
theorem Un.start (h : TB w0 w b bm go S L) : Un w0 w b bm go S L (.slice none 0 0) (.slice none 0 0) [] [] :=
  ⟨h, World.ownsRow_nil _ _ _ _, World.ownsRow_nil _ _ _ _, (fun k e => by cases e), rfl, (fun i v u hv => by simp at hv), List.Pairwise.nil⟩

theorem kind_ne {w : World} {B B' : Nat} {v u : Value} {Vs : List Value} {K : List Int} (h : OwnS w B v Vs) (h' : OwnI w B' u K) : ∀ k, u.ownBlock = some k → v.ownBlock ≠ some k := fun _ hk => Me.row_ne h' h (by decide) hk

/-- Two lists more, and two copies. -/
theorem Un.more (h : Un w0 w b bm go S L vl vw Vs Ws) (v1 v2 : Value) (K1 K2 : List Int) (B1 B2 : Nat) (h1 : OwnI w B1 v1 K1) (h2 : OwnI w B2 v2 K2) (i1 : ∀ x ∈ K1, In64 x) (i2 : ∀ x ∈ K2, In64 x) (l1 : K1.length ≤ 300) (l2 : K2.length ≤ 300) (b1 : w0.heap.size ≤ B1) (b2 : w0.heap.size ≤ B2) (hz : Vs.length + 2 ≤ 4294967296)
    (n1 : ∀ v ∈ Vs, ∀ k, v.ownBlock = some k → v1.ownBlock ≠ some k) (n2 : ∀ v ∈ Vs, ∀ k, v.ownBlock = some k → v2.ownBlock ≠ some k) (n3 : ∀ k, v1.ownBlock = some k → v2.ownBlock ≠ some k) :
    ∃ vl' w3, (Builtin.append_ #[64, 64] 64 #[vl, .slice (some ⟨w.heap.size, 0, none⟩) 2 2]).run Try.prog (w.alloc (.cells #[v1, v2] 37)) = .ok vl' w3 ∧
      ∃ k1 w4, (Builtin.append_ #[37, 37] 37 #[.slice none 0 0, v1]).run Try.prog w3 = .ok k1 w4 ∧ ∃ k2 w5, (Builtin.append_ #[37, 37] 37 #[.slice none 0 0, v2]).run Try.prog w4 = .ok k2 w5 ∧
      ∃ vw' w6, (Builtin.append_ #[64, 64] 64 #[vw, .slice (some ⟨w5.heap.size, 0, none⟩) 2 2]).run Try.prog (w5.alloc (.cells #[k1, k2] 37)) = .ok vw' w6 ∧ (∃ a n c, vl' = .slice a n c) ∧ (∃ a n c, k1 = .slice a n c) ∧ (∃ a n c, k2 = .slice a n c) ∧ (∃ a n c, vw' = .slice a n c) ∧
      Un w0 w6 b bm go S L vl' vw' (Vs ++ [v1, v2]) (Ws ++ [k1, k2]) := by
  have hB := h.tb.be.size
  have hB1 : Below w.heap.size w (w.alloc (.cells #[v1, v2] 37)) := (Below.refl _ _).alloc (Nat.le_refl _) _
  have hz1 := hB1.size
  have hA := h.below hB1
  have r1 := heap_alloc_new w (.cells #[v1, v2] 37 (0, 0))
  obtain ⟨a1, c1, e1, -⟩ := ownI_len h1
  obtain ⟨a2, c2, e2, -⟩ := ownI_len h2
  obtain ⟨vl', w3, hr3, ho3, hg3, hn3⟩ := append_s _ w0.heap.size vl Vs [v1, v2] w.heap.size 2 2 hA.ls rfl (by decide) (fun j x hj => by
    rw [cell_of_row _ _ _ _ _ _ r1, ← Array.getElem?_toList]; exact hj) (fun x hx => by
    simp only [List.mem_cons, List.not_mem_nil, or_false] at hx
    rcases hx with rfl | rfl
    · exact ⟨_, _, _, e1⟩
    · exact ⟨_, _, _, e2⟩) (by omega) hz
  have hz3 := hg3.size
  have q1 : OwnI w3 B1 v1 K1 := row_grown (Me.row_below h1 hB1) hg3 (kind_ne hA.ls (Me.row_below h1 hB1))
  have q2 : OwnI w3 B2 v2 K2 := row_grown (Me.row_below h2 hB1) hg3 (kind_ne hA.ls (Me.row_below h2 hB1))
  obtain ⟨k1, w4, hr4, ho4, hg4⟩ := copy_i w3 B1 v1 K1 q1 (by omega)
  have hz4 := hg4.size
  have q2' : OwnI w4 B2 v2 K2 := row_grown q2 hg4 (fun _ _ e => by cases e)
  obtain ⟨k2, w5, hr5, ho5, hg5⟩ := copy_i w4 B2 v2 K2 q2' (by omega)
  have hz5 := hg5.size
  obtain ⟨a4, c4, e4, -⟩ := ownI_len ho4
  obtain ⟨a5, c5, e5, -⟩ := ownI_len ho5
  have hB6 : Below w5.heap.size w5 (w5.alloc (.cells #[k1, k2] 37)) := (Below.refl _ _).alloc (Nat.le_refl _) _
  have hz6 := hB6.size
  have r6 := heap_alloc_new w5 (.cells #[k1, k2] 37 (0, 0))
  -- from w (with the block) up to w5 and the block
  have up : ∀ (e : TypeId) (sz : Nat) (B : Nat) (v : Value) (n : Nat) (xs : List Value), (w.alloc (.cells #[v1, v2] 37)).ownsRow B e sz v n xs → (∀ k, v.ownBlock = some k → vl.ownBlock ≠ some k) → (w5.alloc (.cells #[k1, k2] 37)).ownsRow B e sz v n xs := fun e sz B v n xs hv hne =>
    row_alloc (row_grown (row_grown (row_grown hv hg3 hne) hg4 (fun _ _ e => by cases e)) hg5 (fun _ _ e => by cases e)) _
  obtain ⟨vw', w6, hr7, ho7, hg7, hn7⟩ := append_s _ w0.heap.size vw Ws [k1, k2] w5.heap.size 2 2 (up _ _ _ _ _ _ hA.ws fun k hk hk' => h.ne k hk' hk) rfl (by decide) (fun j x hj => by
    rw [cell_of_row _ _ _ _ _ _ r6, ← Array.getElem?_toList]; exact hj) (fun x hx => by
    simp only [List.mem_cons, List.not_mem_nil, or_false] at hx
    rcases hx with rfl | rfl
    · exact ⟨_, _, _, e4⟩
    · exact ⟨_, _, _, e5⟩) (by omega) (by rw [← h.len]; exact hz)
  have hws := up _ _ _ _ _ _ hA.ws fun k hk hk' => h.ne k hk' hk
  have last : ∀ (B : Nat) (v : Value) (K : List Int), OwnI (w5.alloc (.cells #[k1, k2] 37)) B v K → OwnI w6 B v K := fun B v K hv => row_grown hv hg7 (kind_ne (Vs := Ws) hws hv)
  have f4 : OwnI w6 w3.heap.size k1 K1 := last _ _ _ (row_alloc (row_grown ho4 hg5 (fun _ _ e => by cases e)) _)
  have f5 : OwnI w6 w4.heap.size k2 K2 := last _ _ _ (row_alloc ho5 _)
  have f1 : OwnI w6 B1 v1 K1 := last _ _ _ (up _ _ _ _ _ _ (Me.row_below h1 hB1) (kind_ne hA.ls (Me.row_below h1 hB1)))
  have f2 : OwnI w6 B2 v2 K2 := last _ _ _ (up _ _ _ _ _ _ (Me.row_below h2 hB1) (kind_ne hA.ls (Me.row_below h2 hB1)))
  have hz7 := hg7.size
  obtain ⟨al, cl, el, -⟩ := Me.row_len ho3
  obtain ⟨aw, cw, ew, -⟩ := Me.row_len ho7
  have hls6 : OwnS w6 w0.heap.size vl' (Vs ++ [v1, v2]) := by
    refine row_grown (row_alloc (row_grown (row_grown ho3 hg4 (fun _ _ e => by cases e)) hg5 (fun _ _ e => by cases e)) _) hg7 fun k hk hk' => ?_
    rcases hn3 k hk with e | e
    · exact h.ne k e hk'
    · have := (World.ownsRow.lt h.ws k hk').2
      omega
  refine ⟨vl', w3, hr3, k1, w4, hr4, k2, w5, hr5, vw', w6, hr7, ⟨_, _, _, el⟩, ⟨_, _, _, e4⟩, ⟨_, _, _, e5⟩, ⟨_, _, _, ew⟩, ?_, hls6, ho7, fun k hk hk' => ?_, by simp [h.len], fun i v u hv hu => ?_, ?_⟩
  · have t3 : TB w0 w3 b bm go S L := hA.tb.grownR hA.ls (Nat.le_refl _) hg3 (by decide)
    have t4 : TB w0 w4 b bm go S L := t3.grown hg4 (fun _ e => by cases e) (fun _ e => by cases e)
    have t5 : TB w0 w5 b bm go S L := t4.grown hg5 (fun _ e => by cases e) (fun _ e => by cases e)
    exact (t5.below hB6).grownR hws (Nat.le_refl _) hg7 (by decide)
  · rcases hn3 k hk with e | e
    · rcases hn7 k hk' with e' | e'
      · exact h.ne k e e'
      · have := (World.ownsRow.lt h.ls k e).2
        omega
    · rcases hn7 k hk' with e' | e'
      · have := (World.ownsRow.lt h.ws k e').2
        omega
      · have := (World.ownsRow.lt ho3 k hk).2
        omega
  · by_cases hi : i < Vs.length
    · rw [List.getElem?_append_left hi] at hv
      rw [List.getElem?_append_left (by rw [← h.len]; exact hi)] at hu
      obtain ⟨K, p1, p2, p3⟩ := hA.pr i v u hv hu
      exact ⟨K, last _ _ _ (up _ _ _ _ _ _ p1 (kind_ne hA.ls p1)), last _ _ _ (up _ _ _ _ _ _ p2 (kind_ne hA.ls p2)), p3⟩
    · rw [List.getElem?_append_right (by omega)] at hv
      rw [List.getElem?_append_right (by rw [← h.len]; omega), ← h.len] at hu
      generalize i - Vs.length = q at *
      match q with
      | 0 =>
        simp at hv hu
        subst hv hu
        exact ⟨K1, Me.row_low f1 b1, Me.row_low f4 (by omega), i1, l1⟩
      | 1 =>
        simp at hv hu
        subst hv hu
        exact ⟨K2, Me.row_low f2 b2, Me.row_low f5 (by omega), i2, l2⟩
      | q + 2 => simp at hv
  · refine List.pairwise_append.2 ⟨h.two, List.pairwise_pair.2 n3, fun a ha x hx => ?_⟩
    simp only [List.mem_cons, List.not_mem_nil, or_false] at hx
    rcases hx with rfl | rfl
    · exact n1 a ha
    · exact n2 a ha
end
end Go.Proofs.Ythbjfbalgejndaa
