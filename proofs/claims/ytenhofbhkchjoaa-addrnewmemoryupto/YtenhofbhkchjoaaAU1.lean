/-
  AddrNewMemory: lists that Cover and Merge gave, and copies of them.
-/
import Derived.Test.YtenhofbhkchjoaaYL1
import Derived.Test.YtenhofbhkchjoaaW
import Derived.Deep.CutRange
import Derived.Deep.RegionWith
import Derived.Lib.AppendZeros
namespace Go.Proofs.Ytenhofbhkchjoaa
open Go.ChangeShapes Go.WideShapes Go.ChangeAt Go.RowKit
set_option maxHeartbeats 1000000
set_option maxRecDepth 100000

/-- A world behind calls that made memory and wrote none of the elder. -/
structure Beh (w : World) where
  wd : World
  ok : Below w.heap.size w wd
instance (w : World) : Nonempty (Beh w) := ⟨⟨w, Below.refl _ _⟩⟩
theorem below_drewQ {B : Nat} {a w : World} (h : Below B a w) (n : Nat) : Below B a (w.drewN n) := ⟨h.os, h.tape, h.output, h.size, h.block⟩
theorem below_drew1 {B : Nat} {a w : World} (h : Below B a w) : Below B a w.drew := ⟨h.os, h.tape, h.output, h.size, h.block⟩
theorem wp_region_beh {P : Program} {id : Nat} {Q : Exit → Act → World → Prop} {a : Act} {w : World} {l : List Oper} (hm : P.follows .mixedOrders = true) (hB : Region.lexB .any l.toArray = true)
    (h : wpQuiet P l.toArray (fun w' => ∃ u : Beh w, w' = u.wd) (fun a' => ∀ w', (∃ u : Beh w, w' = u.wd) → Q .normal a' w') l a) : (Code.region id l.toArray true).wp P Q a w :=
  wp_region_quiet (C := fun w' => ∃ u : Beh w, w' = u.wd) hm hB ⟨⟨_, below_drewQ (Below.refl _ _) 1⟩, rfl⟩ (by simpa using h)
theorem Calls.beh {P : Program} {f : FuncId} {args : Array Value} {w : World} {u : Beh w} {v : Value}
    (h : Calls P f args u.wd fun e w' => e = .returned v ∧ Below u.wd.heap.size u.wd w') : Calls P f args u.wd fun e w'' => e = .returned v ∧ ∃ u' : Beh w, w'' = u'.wd :=
  h.mono fun _ w' ⟨he, hb⟩ => ⟨he, ⟨w', u.ok.trans (hb.mono u.ok.size)⟩, rfl⟩

theorem jr_len : ∀ (t : List (Nat × Nat)) (lo hi : Nat), (M.jr lo hi t).length ≤ t.length + 1
  | [], lo, hi => by simp [M.jr]
  | p :: t, lo, hi => by
    unfold M.jr
    split
    · have := jr_len t lo (max hi p.2)
      simp only [List.length_cons]
      omega
    · have := jr_len t p.1 p.2
      simp only [List.length_cons]
      omega
theorem jn_len (J : List (Nat × Nat)) : (M.jn J).length ≤ J.length := by
  cases J with
  | nil => simp [M.jn]
  | cons p t => have := jr_len t p.1 p.2; simp only [M.jn, List.length_cons]; omega
theorem flat_len (Js : List (Nat × Nat)) : (Js.flatMap fun r => M.cv r.1 r.2).length ≤ 62 * Js.length := by
  induction Js with
  | nil => simp
  | cons r Js ih =>
    have := M.cv_len r.1 r.2
    rw [List.flatMap_cons, List.length_append, List.length_cons]
    omega
/-- What a merge of a list is. -/
def Mg (L : List (Nat × Int)) (R : List (Nat × Nat)) : Prop := (merr L ≠ 0 → R = []) ∧ (merr L = 0 → Good L ∧ ∃ J, J.Perm (L.map iv) ∧ M.Rises J ∧ R = mlist J)
theorem Mg.len {L : List (Nat × Int)} {R : List (Nat × Nat)} (h : Mg L R) : R.length ≤ 253952 := by
  by_cases e : merr L = 0
  · obtain ⟨-, J, hp, -, rfl⟩ := h.2 e
    have h4 : L.length ≤ 4096 := by
      unfold merr at e
      by_cases h4 : 4096 < L.length
      · rw [if_pos h4] at e; cases e
      · omega
    have h1 := flat_len (M.jn J)
    have h2 := jn_len J
    have h3 := hp.length_eq
    rw [List.length_map] at h3
    unfold mlist
    omega
  · rw [h.1 e]; simp

theorem cells_own {w : World} {B : Nat} {v : Value} {R : List (Nat × Nat)} (h : w.ownsRow B 30 2 v R.length (cells R)) : Me.OwnQ w B v (R.map pv) := by
  unfold Me.OwnQ
  rw [List.length_map]
  have : Me.pp (R.map pv) = cells R := cellsP_pv R
  rw [this]
  exact h
theorem ownQ_sees {w : World} {B : Nat} {v : Value} {L : List (Nat × Int)} (h : Me.OwnQ w B v L) : Sees w v L := sees_of_ownsP h
theorem cover_q (lo hi : Nat) (w : World) (hl : lo < 4294967296) (hh : hi < 4294967296) :
    Calls Try.prog 9 #[.int .u32 lo, .int .u32 hi] w fun e w' => ∃ v, e = .returned v ∧ Me.OwnQ w' w.heap.size v ((M.cv lo hi).map pv) ∧ Below w.heap.size w w' ∧ ((M.cv lo hi).map pv).length ≤ 253952 := by
  refine (cover_any lo hi w hl hh).mono ?_
  rintro e w' ⟨v, he, ho, hb⟩
  exact ⟨v, he, cells_own ho, hb, by rw [List.length_map]; have := M.cv_len lo hi; omega⟩
theorem merge_q (v : Value) (L : List (Nat × Int)) (w : World) (hs : Sees w v L) (ha : Adr L) :
    Calls Try.prog 16 #[v] w fun e w' => ∃ v' R, e = .returned (.tuple #[v', .int .i64 (merr L)]) ∧ Me.OwnQ w' w.heap.size v' (R.map pv) ∧ Below w.heap.size w w' ∧ (R.map pv).length ≤ 253952 ∧ Hid (Mg L R) := by
  refine (merge_any byBase_any v L w hs ha).mono ?_
  rintro e w' ⟨v', R, he, ho, hb, hM⟩
  exact ⟨v', R, he, cells_own ho, hb, by rw [List.length_map]; exact Mg.len hM.out, hM⟩
theorem copied_q (B : Nat) (v : Value) (L : List (Nat × Int)) (w : World) (ho : Me.OwnQ w B v L) (hbig : L.length ≤ 253952) :
    Calls Try.prog 14 #[v] w fun e w' => ∃ v', e = .returned v' ∧ Me.OwnQ w' w.heap.size v' L ∧ Below w.heap.size w w' :=
  copied_any v L w (ownQ_sees ho) (by omega)
theorem same_q (B B' : Nat) (v v' : Value) (L : List (Nat × Int)) (w : World) (h : Me.OwnQ w B v L) (h' : Me.OwnQ w B' v' L) :
    Calls Try.prog 13 #[v, v'] w fun e w' => e = .returned (.bool true) ∧ Below w.heap.size w w' := by
  refine (same_any v v' L L w (ownQ_sees h) (ownQ_sees h')).mono ?_
  rintro e w' ⟨rfl, q, rfl⟩
  exact ⟨by rw [decide_eq_true rfl], below_drewQ (Below.refl _ _) q⟩

/-- What there is so far. -/
structure An (w0 w : World) (vl vw : Value) (Vs Ws : List Value) : Prop where
  be : Below w0.heap.size w0 w
  ls : Me.OwnS w w0.heap.size vl Vs
  ws : Me.OwnS w w0.heap.size vw Ws
  ne : ∀ k, vl.ownBlock = some k → vw.ownBlock ≠ some k
  len : Vs.length = Ws.length
  pr : ∀ (i : Nat) v u, Vs[i]? = some v → Ws[i]? = some u → ∃ K, Me.OwnQ w w0.heap.size v K ∧ Me.OwnQ w w0.heap.size u K ∧ K.length ≤ 253952
  two : Me.Apt Vs

section
variable {w0 w w' : World} {vl vw : Value} {Vs Ws : List Value}
theorem An.below (h : An w0 w vl vw Vs Ws) (hb : Below w.heap.size w w') : An w0 w' vl vw Vs Ws :=
  ⟨h.be.trans (hb.mono h.be.size), Me.row_below h.ls hb, Me.row_below h.ws hb, h.ne, h.len, fun i v u hv hu => by
    obtain ⟨K, h1, h2, h3⟩ := h.pr i v u hv hu
    exact ⟨K, Me.row_below h1 hb, Me.row_below h2 hb, h3⟩, h.two⟩
theorem An.old (h : An w0 w vl vw Vs Ws) : ∀ v ∈ Vs, ∀ k, v.ownBlock = some k → k < w.heap.size := fun v hv k hk => by
  obtain ⟨i, hi, rfl⟩ := List.getElem_of_mem hv
  obtain ⟨K, p1, -⟩ := h.pr i Vs[i] (Ws[i]'(by rw [← h.len]; exact hi)) (List.getElem?_eq_getElem _) (List.getElem?_eq_getElem _)
  exact (World.ownsRow.lt p1 k hk).2
theorem An.start (h : Below w0.heap.size w0 w) : An w0 w (.slice none 0 0) (.slice none 0 0) [] [] :=
  ⟨h, World.ownsRow_nil _ _ _ _, World.ownsRow_nil _ _ _ _, (fun k e => by cases e), rfl, (fun i v u hv => by simp at hv), List.Pairwise.nil⟩
/-- Two lists more, and two copies. -/
theorem An.round (h : An w0 w vl vw Vs Ws) (v1 v2 : Value) (K1 K2 : List (Nat × Int)) (B1 B2 : Nat) (h1 : Me.OwnQ w B1 v1 K1) (h2 : Me.OwnQ w B2 v2 K2) (l1 : K1.length ≤ 253952) (l2 : K2.length ≤ 253952) (b1 : w0.heap.size ≤ B1) (b2 : w0.heap.size ≤ B2) (hz : Vs.length + 2 ≤ 4294967296)
    (n1 : ∀ v ∈ Vs, ∀ k, v.ownBlock = some k → v1.ownBlock ≠ some k) (n2 : ∀ v ∈ Vs, ∀ k, v.ownBlock = some k → v2.ownBlock ≠ some k) (n3 : ∀ k, v1.ownBlock = some k → v2.ownBlock ≠ some k) :
    ∃ a3 m3 c3 w3, Hid ((Builtin.append_ #[48, 48] 48 #[vl, .slice (some ⟨w.heap.size, 0, none⟩) 2 2]).run Try.prog (w.alloc (.cells #[v1, v2] 25)) = .ok (.slice a3 m3 c3) w3) ∧
      Hid (Calls Try.prog 14 #[v1] w3 fun e w4 => ∃ a4 m4 c4, e = .returned (.slice a4 m4 c4) ∧ Hid (Calls Try.prog 14 #[v2] w4 fun e w5 => ∃ a5 m5 c5, e = .returned (.slice a5 m5 c5) ∧
        Hid (∃ a6 m6 c6 w6, Hid ((Builtin.append_ #[48, 48] 48 #[vw, .slice (some ⟨w5.heap.size, 0, none⟩) 2 2]).run Try.prog (w5.alloc (.cells #[.slice a4 m4 c4, .slice a5 m5 c5] 25)) = .ok (.slice a6 m6 c6) w6) ∧
          Hid (An w0 w6 (.slice a3 m3 c3) (.slice a6 m6 c6) (Vs ++ [v1, v2]) (Ws ++ [.slice a4 m4 c4, .slice a5 m5 c5]))))) := by
  have hB := h.be.size
  have hB1 : Below w.heap.size w (w.alloc (.cells #[v1, v2] 25)) := (Below.refl _ _).alloc (Nat.le_refl _) _
  have hz1 := hB1.size
  have hA := h.below hB1
  have r1 := heap_alloc_new w (.cells #[v1, v2] 25 (0, 0))
  obtain ⟨a1, c1, e1, -⟩ := Me.ownQ_len h1
  obtain ⟨a2, c2, e2, -⟩ := Me.ownQ_len h2
  obtain ⟨vl', w3, hr3, ho3, hg3, hn3⟩ := Me.append_s _ w0.heap.size vl Vs [v1, v2] w.heap.size 2 2 hA.ls rfl (by decide) (fun j x hj => by
    rw [cell_of_row _ _ _ _ _ _ r1, ← Array.getElem?_toList]; exact hj) (fun x hx => by
    simp only [List.mem_cons, List.not_mem_nil, or_false] at hx
    rcases hx with rfl | rfl
    · exact ⟨_, _, _, e1⟩
    · exact ⟨_, _, _, e2⟩) (by omega) hz
  have hz3 := hg3.size
  obtain ⟨al, cl, el, -⟩ := Me.row_len ho3
  subst el
  have q1 : Me.OwnQ w3 B1 v1 K1 := Me.row_grown (Me.row_below h1 hB1) hg3 (Me.kind_ne hA.ls (Me.row_below h1 hB1))
  have q2 : Me.OwnQ w3 B2 v2 K2 := Me.row_grown (Me.row_below h2 hB1) hg3 (Me.kind_ne hA.ls (Me.row_below h2 hB1))
  refine ⟨al, _, cl, w3, hr3, ?_⟩
  refine (copied_q B1 v1 K1 w3 q1 l1).mono ?_
  rintro e w4 ⟨k1, rfl, ho4, hb4⟩
  have hz4 := hb4.size
  obtain ⟨a4, c4, e4, -⟩ := Me.ownQ_len ho4
  subst e4
  refine ⟨a4, _, c4, rfl, ?_⟩
  refine (copied_q B2 v2 K2 w4 (Me.row_below q2 hb4) l2).mono ?_
  rintro e w5 ⟨k2, rfl, ho5, hb5⟩
  have hz5 := hb5.size
  obtain ⟨a5, c5, e5, -⟩ := Me.ownQ_len ho5
  subst e5
  refine ⟨a5, _, c5, rfl, ?_⟩
  have hB6 : Below w5.heap.size w5 (w5.alloc (.cells #[.slice a4 K1.length c4, .slice a5 K2.length c5] 25)) := (Below.refl _ _).alloc (Nat.le_refl _) _
  have hz6 := hB6.size
  have r6 := heap_alloc_new w5 (.cells #[.slice a4 K1.length c4, .slice a5 K2.length c5] 25 (0, 0))
  have up : ∀ (e : TypeId) (sz : Nat) (B : Nat) (v : Value) (n : Nat) (xs : List Value), (w.alloc (.cells #[v1, v2] 25)).ownsRow B e sz v n xs → (∀ k, v.ownBlock = some k → vl.ownBlock ≠ some k) → (w5.alloc (.cells #[.slice a4 K1.length c4, .slice a5 K2.length c5] 25)).ownsRow B e sz v n xs := fun e sz B v n xs hv hne =>
    World.ownsRow.alloc (Me.row_below (Me.row_below (Me.row_grown hv hg3 hne) hb4) hb5) _
  have hws := up _ _ _ _ _ _ hA.ws fun k hk hk' => h.ne k hk' hk
  obtain ⟨vw', w6, hr7, ho7, hg7, hn7⟩ := Me.append_s _ w0.heap.size vw Ws [.slice a4 K1.length c4, .slice a5 K2.length c5] w5.heap.size 2 2 hws rfl (by decide) (fun j x hj => by
    rw [cell_of_row _ _ _ _ _ _ r6, ← Array.getElem?_toList]; exact hj) (fun x hx => by
    simp only [List.mem_cons, List.not_mem_nil, or_false] at hx
    rcases hx with rfl | rfl <;> exact ⟨_, _, _, rfl⟩) (by omega) (by rw [← h.len]; exact hz)
  obtain ⟨aw, cw, ew, -⟩ := Me.row_len ho7
  subst ew
  have hz7 := hg7.size
  have last : ∀ (B : Nat) (v : Value) (K : List (Nat × Int)), Me.OwnQ (w5.alloc (.cells #[.slice a4 K1.length c4, .slice a5 K2.length c5] 25)) B v K → Me.OwnQ w6 B v K := fun B v K hv => Me.row_grown hv hg7 (Me.kind_ne (Vs := Ws) hws hv)
  have f4 : Me.OwnQ w6 w3.heap.size (.slice a4 K1.length c4) K1 := last _ _ _ (World.ownsRow.alloc (Me.row_below ho4 hb5) _)
  have f5 : Me.OwnQ w6 w4.heap.size (.slice a5 K2.length c5) K2 := last _ _ _ (World.ownsRow.alloc ho5 _)
  have f1 : Me.OwnQ w6 B1 v1 K1 := last _ _ _ (up _ _ _ _ _ _ (Me.row_below h1 hB1) (Me.kind_ne hA.ls (Me.row_below h1 hB1)))
  have f2 : Me.OwnQ w6 B2 v2 K2 := last _ _ _ (up _ _ _ _ _ _ (Me.row_below h2 hB1) (Me.kind_ne hA.ls (Me.row_below h2 hB1)))
  have hls6 : Me.OwnS w6 w0.heap.size (.slice al (Vs ++ [v1, v2]).length cl) (Vs ++ [v1, v2]) := by
    refine Me.row_grown (World.ownsRow.alloc (Me.row_below (Me.row_below ho3 hb4) hb5) _) hg7 fun k hk hk' => ?_
    rcases hn3 k hk with e | e
    · exact h.ne k e hk'
    · have := (World.ownsRow.lt h.ws k hk').2
      omega
  have hbe : Below w0.heap.size w0 w6 := by
    have t3 := Me.below_grown hA.be hg3 (fun k hk => (World.ownsRow.lt hA.ls k hk).1) (by omega)
    have t4 := t3.trans (hb4.mono (by omega))
    have t5 := (t4.trans (hb5.mono (by omega))).trans (hB6.mono (by omega))
    exact Me.below_grown t5 hg7 (fun k hk => (World.ownsRow.lt hws k hk).1) (by omega)
  refine ⟨aw, _, cw, w6, hr7, hbe, hls6, ho7, fun k hk hk' => ?_, by simp [h.len], fun i v u hv hu => ?_, ?_⟩
  · rcases hn3 k hk with e | e
    · rcases hn7 k hk' with e' | e'
      · exact h.ne k e e'
      · have := (World.ownsRow.lt h.ls k e).2
        omega
    · rcases hn7 k hk' with e' | e'
      · have := (World.ownsRow.lt h.ws k e').2
        omega
      · have := (World.ownsRow.lt ho3 k hk).2
        omega
  · by_cases hi : i < Vs.length
    · rw [List.getElem?_append_left hi] at hv
      rw [List.getElem?_append_left (by rw [← h.len]; exact hi)] at hu
      obtain ⟨K, p1, p2, p3⟩ := hA.pr i v u hv hu
      exact ⟨K, last _ _ _ (up _ _ _ _ _ _ p1 (Me.kind_ne hA.ls p1)), last _ _ _ (up _ _ _ _ _ _ p2 (Me.kind_ne hA.ls p2)), p3⟩
    · rw [List.getElem?_append_right (by omega)] at hv
      rw [List.getElem?_append_right (by rw [← h.len]; omega), ← h.len] at hu
      generalize i - Vs.length = q at *
      match q with
      | 0 =>
        simp at hv hu
        subst hv hu
        exact ⟨K1, Me.row_low f1 b1, Me.row_low f4 (by omega), l1⟩
      | 1 =>
        simp at hv hu
        subst hv hu
        exact ⟨K2, Me.row_low f2 b2, Me.row_low f5 (by omega), l2⟩
      | q + 2 => simp at hv
  · refine List.pairwise_append.2 ⟨h.two, List.pairwise_pair.2 n3, fun a ha x hx => ?_⟩
    simp only [List.mem_cons, List.not_mem_nil, or_false] at hx
    rcases hx with rfl | rfl
    · exact n1 a ha
    · exact n2 a ha
theorem An.lists (h : An w0 w vl vw Vs Ws) : ∃ f, Me.Ls w0 w vl Vs f ∧ ∀ i, (f i).length ≤ 253952 := by
  have : ∀ i : Nat, ∃ K : List (Nat × Int), (∀ v, Vs[i]? = some v → Me.OwnQ w w0.heap.size v K) ∧ K.length ≤ 253952 := fun i => by
    cases hv : Vs[i]? with
    | none => exact ⟨[], (fun v e => by cases e), by simp⟩
    | some v =>
      have hi := (List.getElem?_eq_some_iff.1 hv).1
      obtain ⟨K, h1, -, h2⟩ := h.pr i v (Ws[i]'(by rw [← h.len]; exact hi)) hv (List.getElem?_eq_getElem _)
      exact ⟨K, (fun v' e => by cases e; exact h1), h2⟩
  exact ⟨fun i => (this i).choose, ⟨h.be, h.ls, fun i v hv => (this i).choose_spec.1 v hv, h.two⟩, fun i => (this i).choose_spec.2⟩
end

def AnE (w0 wr : World) (vl vw : Value) (m : Nat) : Prop := ∃ Vs Ws, An w0 wr vl vw Vs Ws ∧ Vs.length = m
section
variable {w0 wr wr' : World} {m : Nat} {vl vw : Value}
theorem AnE.be (h : AnE w0 wr vl vw m) : Below w0.heap.size w0 wr := by
  obtain ⟨Vs, Ws, h, -⟩ := h
  exact h.be
theorem AnE.below (h : AnE w0 wr vl vw m) (hb : Below wr.heap.size wr wr') : AnE w0 wr' vl vw m := by
  obtain ⟨Vs, Ws, h, e⟩ := h
  exact ⟨Vs, Ws, h.below hb, e⟩
/-- Cover, Merge, and what is laid beside. -/
def AnR (w0 w2 : World) (vl vw v1 v2 : Value) (m : Nat) : Prop :=
  ∃ a3 m3 c3 w3, Hid ((Builtin.append_ #[48, 48] 48 #[vl, .slice (some ⟨w2.heap.size, 0, none⟩) 2 2]).run Try.prog (w2.alloc (.cells #[v1, v2] 25)) = .ok (.slice a3 m3 c3) w3) ∧
    Hid (Calls Try.prog 14 #[v1] w3 fun e w4 => ∃ a4 m4 c4, e = .returned (.slice a4 m4 c4) ∧ Hid (Calls Try.prog 14 #[v2] w4 fun e w5 => ∃ a5 m5 c5, e = .returned (.slice a5 m5 c5) ∧
      Hid (∃ a6 m6 c6 w6, Hid ((Builtin.append_ #[48, 48] 48 #[vw, .slice (some ⟨w5.heap.size, 0, none⟩) 2 2]).run Try.prog (w5.alloc (.cells #[.slice a4 m4 c4, .slice a5 m5 c5] 25)) = .ok (.slice a6 m6 c6) w6) ∧
        Hid (AnE w0 w6 (.slice a3 m3 c3) (.slice a6 m6 c6) (m + 2)))))
theorem AnE.cover (h : AnE w0 wr vl vw m) (lo hi : Nat) (hl : lo < 4294967296) (hh : hi < 4294967296) (hm : m + 2 ≤ 4294967296) (k : World) (hk : Below wr.heap.size wr k) :
    Calls Try.prog 9 #[.int .u32 lo, .int .u32 hi] k fun e w1 => ∃ a1 n1 c1, e = .returned (.slice a1 n1 c1) ∧ Hid (AnE w0 w1 vl vw m) ∧
      Hid (∀ (v : Value) (L : List (Nat × Int)) (u : World), Below w1.heap.size w1 u → Sees u v L → Adr L → Calls Try.prog 16 #[v] u fun e w2 => ∃ a2 n2 c2 er, e = .returned (.tuple #[.slice a2 n2 c2, .int .i64 er]) ∧ Hid (AnR w0 w2 vl vw (.slice a1 n1 c1) (.slice a2 n2 c2) m)) := by
  obtain ⟨Vs, Ws, h, hlen⟩ := h
  have h0 := h.below hk
  refine (cover_q lo hi k hl hh).mono ?_
  rintro e w1 ⟨v1, rfl, ho1, hb1, hl1⟩
  have h1 := h0.below hb1
  obtain ⟨a1, c1, e1, -⟩ := Me.ownQ_len ho1
  subst e1
  refine ⟨a1, _, c1, rfl, ⟨Vs, Ws, h1, hlen⟩, fun v L u hu hs ha => ?_⟩
  refine (merge_q v L u hs ha).mono ?_
  rintro e w2 ⟨v2, R, rfl, ho2, hb2, hl2, -⟩
  obtain ⟨a2, c2, e2, -⟩ := Me.ownQ_len ho2
  subst e2
  have h2 := (h1.below hu).below hb2
  have s0 := h0.be.size
  have s1 := hb1.size
  have su := hu.size
  have old := h0.old
  refine ⟨a2, _, c2, merr L, rfl, ?_⟩
  obtain ⟨a3, m3, c3, w3, r3, H3⟩ := h2.round _ _ _ _ _ _ (Me.row_below (Me.row_below ho1 hu) hb2) ho2 hl1 hl2 s0 (by omega) (by omega)
    (fun v hv k' hk' hk2 => by have := old v hv k' hk'; have := (World.ownsRow.lt ho1 k' hk2).1; omega)
    (fun v hv k' hk' hk2 => by have := old v hv k' hk'; have := (World.ownsRow.lt ho2 k' hk2).1; omega)
    (fun k' hk' hk2 => by have := (World.ownsRow.lt ho1 k' hk').2; have := (World.ownsRow.lt ho2 k' hk2).1; omega)
  refine ⟨a3, m3, c3, w3, r3, H3.out.mono ?_⟩
  rintro e w4 ⟨a4, m4, c4, he, H4⟩
  refine ⟨a4, m4, c4, he, H4.out.mono ?_⟩
  rintro e w5 ⟨a5, m5, c5, he5, H5⟩
  obtain ⟨a6, m6, c6, w6, r6, hA⟩ := H5.out
  exact ⟨a5, m5, c5, he5, a6, m6, c6, w6, r6, _, _, hA.out, by simp [hlen]⟩
/-- What is compared. -/
theorem AnE.pair {al aw : Option Addr} {nl cl nw cw : Nat} (h : AnE w0 wr (.slice al nl cl) (.slice aw nw cw) m) :
    nl = m ∧ nw = m ∧ ∀ i, i < m → ∃ gl gw a n c a' n' c', al = some ⟨gl, 0, none⟩ ∧ aw = some ⟨gw, 0, none⟩ ∧ (∀ t : Beh wr, t.wd.cell? ⟨gl, i, none⟩ = some (.slice a n c)) ∧ (∀ t : Beh wr, t.wd.cell? ⟨gw, i, none⟩ = some (.slice a' n' c')) ∧
      ∀ t : Beh wr, Hid (Calls Try.prog 13 #[.slice a n c, .slice a' n' c'] t.wd fun e w' => e = .returned (.bool true) ∧ ∃ t' : Beh wr, w' = t'.wd) := by
  obtain ⟨Vs, Ws, h, rfl⟩ := h
  obtain ⟨al', cl', el, -, -, l0, l1⟩ := Me.row_len h.ls
  obtain ⟨aw', cw', ew, -, -, m0, m1⟩ := Me.row_len h.ws
  have hlen := h.len
  simp only [Value.slice.injEq] at el ew
  obtain ⟨rfl, rfl, rfl⟩ := el
  obtain ⟨rfl, rfl, rfl⟩ := ew
  refine ⟨rfl, hlen.symm, fun i hi => ?_⟩
  cases al with
  | none => have := (l0 rfl).1; omega
  | some p =>
  cases aw with
  | none => have := (m0 rfl).1; omega
  | some p' =>
  obtain ⟨gl, rfl, -, hgl⟩ := l1 p rfl
  obtain ⟨gw, rfl, -, hgw⟩ := m1 p' rfl
  obtain ⟨K, p1, p2, -⟩ := h.pr i Vs[i] (Ws[i]'(by omega)) (List.getElem?_eq_getElem _) (List.getElem?_eq_getElem _)
  have cv := (Me.row_cell (xs := Vs) h.ls (List.getElem?_eq_getElem hi)).1
  have cw := (Me.row_cell (xs := Ws) h.ws (List.getElem?_eq_getElem (by omega : i < Ws.length))).1
  generalize Vs[i] = v at *
  generalize Ws[i]'(by omega) = u at *
  obtain ⟨a, c, e1, -⟩ := Me.ownQ_len p1
  obtain ⟨a', c', e2, -⟩ := Me.ownQ_len p2
  subst e1 e2
  refine ⟨gl, gw, a, _, c, a', _, c', rfl, rfl, fun t => (t.ok.cell (p := ⟨gl, i, none⟩) hgl).trans cv, fun t => (t.ok.cell (p := ⟨gw, i, none⟩) hgw).trans cw, fun t => ?_⟩
  exact Calls.beh (same_q _ _ _ _ K t.wd (Me.row_below p1 t.ok) (Me.row_below p2 t.ok))
end
end Go.Proofs.Ytenhofbhkchjoaa
