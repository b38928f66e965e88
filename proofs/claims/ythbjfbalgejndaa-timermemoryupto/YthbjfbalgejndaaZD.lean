/-
  Lists that are marked, grown in their places, and looked at.
-/
import Derived.Test.YthbjfbalgejndaaZC
namespace Go.Proofs.Ythbjfbalgejndaa
open Go.ChangeShapes Go.WideShapes Go.ChangeAt Go.RowKit Go.Maps H
set_option maxHeartbeats 1000000
set_option maxRecDepth 100000

theorem is_set (L : List Int) (k : Nat) (x : Int) : is' (L.set k x) = (is' L).set k (.int .i64 x) := by simp [is', List.map_set]
theorem own_cell {w : World} {B g n cap : Nat} {L : List Int} (h : OwnI w B (.slice (some ⟨g, 0, none⟩) n cap) L) {k : Nat} {x : Int} (hk : L[k]? = some x) : w.cell? ⟨g, k, none⟩ = some (.int .i64 x) ∧ w.frozen? ⟨g, k, none⟩ = false :=
  Me.row_cell (xs := is' L) h (by rw [is_get, hk]; rfl)
theorem own_set {w : World} {B g cap : Nat} {L : List Int} (h : OwnI w B (.slice (some ⟨g, 0, none⟩) L.length cap) L) (k : Nat) (x : Int) : OwnI (w.setCell ⟨g, k, none⟩ (.int .i64 x)) B (.slice (some ⟨g, 0, none⟩) L.length cap) (L.set k x) := by
  unfold OwnI
  rw [List.length_set, is_set]
  exact Me.row_put h k _
theorem grown_set (w : World) (g i : Nat) (x : Value) : w.grownBy (w.setCell ⟨g, i, none⟩ x) (some g) :=
  ⟨rfl, rfl, rfl, by simp [World.setCell], fun k _ hn => by
    have hne : g ≠ k := fun e => hn (by rw [e])
    simp [World.setCell, Array.getElem?_modify, hne]⟩

/-- Lists and what they hold. -/
structure Ls (w0 w : World) (vl : Value) (Vs : List Value) (f : Nat → List Int) : Prop where
  be : Below w0.heap.size w0 w
  ls : OwnS w w0.heap.size vl Vs
  own : ∀ (i : Nat) v, Vs[i]? = some v → OwnI w w0.heap.size v (f i)
  two : Apt Vs

section
variable {w0 w w' : World} {vl vm : Value} {Vs Us : List Value} {f : Nat → List Int}
theorem Ls.below (h : Ls w0 w vl Vs f) (hb : Below w.heap.size w w') : Ls w0 w' vl Vs f := ⟨h.be.trans (hb.mono h.be.size), Me.row_below h.ls hb, fun i v hv => Me.row_below (h.own i v hv) hb, h.two⟩
theorem Un.lists {b bm : Nat} {go : Option Nat} {S L : List Dl} {vw : Value} {Ws : List Value} (h : Un w0 w b bm go S L vl vw Vs Ws) : ∃ f, Ls w0 w vl Vs f ∧ ∀ i, (f i).length ≤ 300 := by
  have : ∀ i : Nat, ∃ K : List Int, (∀ v, Vs[i]? = some v → OwnI w w0.heap.size v K) ∧ K.length ≤ 300 := fun i => by
    cases hv : Vs[i]? with
    | none => exact ⟨[], (fun v e => by cases e), by simp⟩
    | some v =>
      have hi := (List.getElem?_eq_some_iff.1 hv).1
      obtain ⟨K, h1, -, -, h2⟩ := h.pr i v (Ws[i]'(by rw [← h.len]; exact hi)) hv (List.getElem?_eq_getElem _)
      exact ⟨K, (fun v' e => by cases e; exact h1), h2⟩
  exact ⟨fun i => (this i).choose, ⟨h.tb.be, h.ls, fun i v hv => (this i).choose_spec.1 v hv, h.two⟩, fun i => (this i).choose_spec.2⟩
/-- One of the lists. -/
theorem Ls.at (h : Ls w0 w vl Vs f) {i : Nat} (hi : i < Vs.length) : ∃ a g cl cap, vl = .slice (some ⟨g, 0, none⟩) Vs.length cl ∧ Vs[i]? = some (.slice a (f i).length cap) ∧ (f i).length ≤ cap ∧ cap ≤ maxLen ∧ (∀ u : World, u.heap[g]? = w.heap[g]? → u.cell? ⟨g, i, none⟩ = some (.slice a (f i).length cap)) ∧ (a = none → (f i).length = 0 ∧ cap = 0) ∧ ∀ p, a = some p → ∃ q, p = ⟨q, 0, none⟩ := by
  have hv := List.getElem?_eq_getElem hi
  have ho := h.own i _ hv
  obtain ⟨a, cap, e, h1, h2, h3, h4⟩ := ownI_len ho
  obtain ⟨al, cl, el, -, -, n0, n1⟩ := Me.row_len h.ls
  cases al with
  | none => have := (n0 rfl).1; omega
  | some p =>
    obtain ⟨g, rfl, -⟩ := n1 p rfl
    rw [e] at hv
    have hls := h.ls
    subst el
    refine ⟨a, g, cl, cap, rfl, hv, h1, h2, fun u hu => ?_, h3, fun p hp => ?_⟩
    · rw [World.cell?_of_block (w := w) (by exact hu)]
      exact (Me.row_cell (xs := Vs) hls hv).1
    · obtain ⟨q, h5, -⟩ := h4 p hp
      exact ⟨q, h5⟩
/-- A number is written. -/
theorem Ls.put (h : Ls w0 w vl Vs f) {i k q n cap : Nat} (m : Int) (hv : Vs[i]? = some (.slice (some ⟨q, 0, none⟩) n cap)) (hk : k < (f i).length) :
    (∃ x, w.cell? ⟨q, k, none⟩ = some (.int .i64 x)) ∧ w.frozen? ⟨q, k, none⟩ = false ∧ Ls w0 (w.setCell ⟨q, k, none⟩ (.int .i64 m)) vl Vs fun j => if j = i then (f i).set k m else f j := by
  have ho := h.own i _ hv
  obtain ⟨h1, h2⟩ := own_cell ho (List.getElem?_eq_getElem hk)
  have hlen := ownI_len ho
  obtain ⟨a, c, e, -⟩ := hlen
  simp only [Value.slice.injEq] at e
  obtain ⟨-, rfl, -⟩ := e
  have hg := grown_set w q k (.int .i64 m)
  have hB := (World.ownsRow.lt ho q rfl).1
  refine ⟨⟨_, h1⟩, h2, below_grown h.be hg (fun k e => by cases e; exact hB) h.be.size, row_grown h.ls hg fun k hk' e => ?_, fun j v hj => ?_, h.two⟩
  · cases e
    exact kind_ne h.ls ho q rfl hk'
  · by_cases e : j = i
    · subst e
      rw [hv] at hj
      cases hj
      rw [if_pos rfl]
      exact own_set ho k m
    · rw [if_neg e]
      exact row_grown (h.own j v hj) hg fun k hk' e' => by
        cases e'
        exact h.two.ne hv hj (fun e' => e e'.symm) rfl hk'
theorem Ls.eq {f' : Nat → List Int} (h : Ls w0 w vl Vs f) (he : ∀ i, i < Vs.length → f i = f' i) : Ls w0 w vl Vs f' := ⟨h.be, h.ls, fun i v hv => by
    rw [← he i (List.getElem?_eq_some_iff.1 hv).1]; exact h.own i v hv, h.two⟩

/-- The lists' contents while they are marked. -/
def mkd (K : Nat → List Int) (i k j : Nat) : List Int := if j < i then List.replicate (K j).length (-1 - (j : Int)) else if j = i then List.replicate k (-1 - (j : Int)) ++ (K j).drop k else K j
theorem mk_len (K : Nat → List Int) (i k j : Nat) (hk : k ≤ (K i).length) : (mkd K i k j).length = (K j).length := by
  unfold mkd
  split
  · simp
  · split
    · rename_i h1 h2
      subst h2
      simp
      omega
    · rfl
theorem mk_step (K : Nat → List Int) (i k : Nat) (hk : k < (K i).length) (j : Nat) : (if j = i then (mkd K i k i).set k (-1 - (i : Int)) else mkd K i k j) = mkd K i (k + 1) j := by
  by_cases e : j = i
  · subst e
    rw [if_pos rfl]
    unfold mkd
    rw [if_neg (by omega), if_pos rfl, if_neg (by omega), if_pos rfl, List.set_append_right _ _ (by simp), List.length_replicate, Nat.sub_self, List.drop_eq_getElem_cons hk, List.set_cons_zero, List.replicate_succ']
    simp
  · rw [if_neg e]
    unfold mkd
    rw [if_neg e, if_neg e]
theorem mk_next (K : Nat → List Int) (i j : Nat) : mkd K i (K i).length j = mkd K (i + 1) 0 j := by
  unfold mkd
  by_cases h : j < i
  · rw [if_pos h, if_pos (by omega)]
  · rw [if_neg h]
    by_cases e : j = i
    · subst e
      rw [if_pos rfl, if_pos (by omega), List.drop_length, List.append_nil]
    · rw [if_neg e, if_neg (by omega)]
      split
      · simp
      · rfl
theorem mk_zero (K : Nat → List Int) (j : Nat) : mkd K 0 0 j = K j := by
  unfold mkd
  rw [if_neg (by omega)]
  split
  · simp
  · rfl

/-- The lists are full of their marks; some are grown. -/
structure Gs (w0 w : World) (vl vm : Value) (Vs Us : List Value) (n : Nat → Nat) : Prop where
  ls : Ls w0 w vl Vs fun j => List.replicate (n j) (-1 - (j : Int))
  ms : OwnS w w0.heap.size vm Us
  ne : ∀ k, vl.ownBlock = some k → vm.ownBlock ≠ some k
  mor : ∀ (j : Nat) u, Us[j]? = some u → ∃ v m, Vs[j]? = some v ∧ OwnI w w0.heap.size u (List.replicate m (-1 - (j : Int))) ∧ n j ≤ m ∧ u.ownBlock = v.ownBlock

variable {n : Nat → Nat}
theorem Gs.below (h : Gs w0 w vl vm Vs Us n) (hb : Below w.heap.size w w') : Gs w0 w' vl vm Vs Us n := ⟨h.ls.below hb, Me.row_below h.ms hb, h.ne, fun j u hu => by
  obtain ⟨v, m, h1, h2, h3⟩ := h.mor j u hu
  exact ⟨v, m, h1, Me.row_below h2 hb, h3⟩⟩
/-- One of them while it is grown. -/
structure Gi (w0 w : World) (vl vm : Value) (Vs Us : List Value) (n : Nat → Nat) (i ln : Nat) (a : Option Addr) (cap : Nat) : Prop where
  gs : Gs w0 w vl vm Vs Us n
  at' : Vs[i]? = some (.slice a (n i) cap)
  own : OwnI w w0.heap.size (.slice a ln cap) (List.replicate ln (-1 - (i : Int)))
  le : n i ≤ ln
  len : Us.length = i

theorem Gi.grow {i ln cap : Nat} {a : Option Addr} (h : Gi w0 w vl vm Vs Us n i ln a cap) (hc : ln < cap) (hq : ln + 1 ≤ 4294967296) :
    ∃ w', (Builtin.append_ #[37, 37] 37 #[.slice a ln cap, .slice (some ⟨w.heap.size, 0, none⟩) 1 1]).run Try.prog (w.alloc (.cells #[.int .i64 (-1 - (i : Int))] 3)) = .ok (.slice a (ln + 1) cap) w' ∧ Gi w0 w' vl vm Vs Us n i (ln + 1) a cap := by
  have hB1 : Below w.heap.size w (w.alloc (.cells #[.int .i64 (-1 - (i : Int))] 3)) := (Below.refl _ _).alloc (Nat.le_refl _) _
  have hz1 := hB1.size
  have hB := h.gs.ls.be.size
  have r1 := heap_alloc_new w (.cells #[.int .i64 (-1 - (i : Int))] 3 (0, 0))
  have hG := h.gs.below hB1
  have ho := Me.row_below h.own hB1
  obtain ⟨a', c', e, -, -, h0, h1⟩ := ownI_len ho
  simp only [Value.slice.injEq, List.length_replicate] at e
  obtain ⟨rfl, -, rfl⟩ := e
  cases a with
  | none => have := (h0 rfl).2; omega
  | some p =>
    obtain ⟨g, rfl, hgB, hgz⟩ := h1 p rfl
    obtain ⟨v', w', hr, hoo, hg, -, hkp, hrm⟩ := append_i _ w0.heap.size _ _ [-1 - (i : Int)] w.heap.size 1 1 ho rfl (by decide) (fun j x hj => by
      rw [cell_of_row _ _ _ _ _ _ r1, ← Array.getElem?_toList]
      match j with
      | 0 => simp at hj; subst hj; rfl
      | j + 1 => simp at hj) (by omega) (by rw [List.length_replicate]; exact hq)
    have hv := hrm g cap (by rw [List.length_replicate]) (by rw [List.length_replicate]; omega)
    rw [List.length_replicate] at hv
    subst hv
    have hrep : List.replicate ln (-1 - (i : Int)) ++ [-1 - (i : Int)] = List.replicate (ln + 1) (-1 - (i : Int)) := by rw [List.replicate_succ']
    rw [hrep] at hoo
    have hle := h.le
    refine ⟨w', hr, ⟨⟨below_grown hG.ls.be hg (fun k e => by cases e; exact hgB) (by omega), row_grown hG.ls.ls hg (fun k hk e => by cases e; exact kind_ne hG.ls.ls ho g rfl hk), fun j v hj => hkp _ _ _ (hG.ls.own j v hj) fun k hk hk' => ?_, h.gs.ls.two⟩, row_grown hG.ms hg (fun k hk e => by cases e; exact kind_ne hG.ms ho g rfl hk), h.gs.ne, fun j u hj => ?_⟩, h.at', hoo, by omega, h.len⟩
    · by_cases e : j = i
      · subst e
        simp [hle]
      · exact absurd hk' (h.gs.ls.two.ne h.at' hj (fun e' => e e'.symm) hk)
    · obtain ⟨v, m, h1', h2', h3', h4'⟩ := hG.mor j u hj
      refine ⟨v, m, h1', hkp _ _ _ h2' fun k hk hk' => ?_, h3', h4'⟩
      have hji := (List.getElem?_eq_some_iff.1 hj).1
      rw [h.len] at hji
      rw [h4'] at hk'
      exact absurd hk' (h.gs.ls.two.ne h.at' h1' (by omega) hk)
theorem Gi.done {i ln cap : Nat} {a : Option Addr} (h : Gi w0 w vl vm Vs Us n i ln a cap) (hz : i + 1 ≤ 4294967296) :
    ∃ a' n' c' w', (Builtin.append_ #[64, 64] 64 #[vm, .slice (some ⟨w.heap.size, 0, none⟩) 1 1]).run Try.prog (w.alloc (.cells #[.slice a ln cap] 37)) = .ok (.slice a' n' c') w' ∧ Gs w0 w' vl (.slice a' n' c') Vs (Us ++ [.slice a ln cap]) n ∧ (Us ++ [Value.slice a ln cap]).length = i + 1 := by
  have hB1 : Below w.heap.size w (w.alloc (.cells #[.slice a ln cap] 37)) := (Below.refl _ _).alloc (Nat.le_refl _) _
  have hz1 := hB1.size
  have hB := h.gs.ls.be.size
  have r1 := heap_alloc_new w (.cells #[.slice a ln cap] 37 (0, 0))
  have hG := h.gs.below hB1
  have ho := Me.row_below h.own hB1
  obtain ⟨vm', w', hr, hoo, hg, hn⟩ := append_s _ w0.heap.size vm Us [.slice a ln cap] w.heap.size 1 1 hG.ms rfl (by decide) (fun j x hj => by
    rw [cell_of_row _ _ _ _ _ _ r1, ← Array.getElem?_toList]; exact hj) (fun x hx => by
    simp only [List.mem_cons, List.not_mem_nil, or_false] at hx
    subst hx
    exact ⟨_, _, _, rfl⟩) (by omega) (by rw [h.len]; exact hz)
  obtain ⟨am, cm, em, -⟩ := Me.row_len hoo
  subst em
  have kp : ∀ (B : Nat) (u : Value) (K : List Int), OwnI (w.alloc (.cells #[.slice a ln cap] 37)) B u K → OwnI w' B u K := fun B u K hu => row_grown hu hg (kind_ne hG.ms hu)
  refine ⟨_, _, _, w', hr, ⟨⟨below_grown hG.ls.be hg (fun k e => (World.ownsRow.lt hG.ms k e).1) (by omega), row_grown hG.ls.ls hg (fun k hk e => h.gs.ne k hk e), fun j v hj => kp _ _ _ (hG.ls.own j v hj), h.gs.ls.two⟩, hoo, fun k hk hk' => ?_, fun j u hj => ?_⟩, by simp [h.len]⟩
  · rcases hn k hk' with e | e
    · exact h.gs.ne k hk e
    · have := (World.ownsRow.lt h.gs.ls.ls k hk).2
      omega
  · by_cases hj' : j < Us.length
    · rw [List.getElem?_append_left hj'] at hj
      obtain ⟨v, m, h1', h2', h3'⟩ := hG.mor j u hj
      exact ⟨v, m, h1', kp _ _ _ h2', h3'⟩
    · rw [List.getElem?_append_right (by omega)] at hj
      obtain ⟨p, hp⟩ : ∃ p, p = j - Us.length := ⟨_, rfl⟩
      rw [← hp] at hj
      match p with
      | 0 =>
        simp at hj
        subst hj
        have hji : j = i := by have := h.len; omega
        subst hji
        exact ⟨_, _, h.at', kp _ _ _ ho, h.le, by cases a <;> rfl⟩
      | p + 1 => simp at hj

/-- What the walk asks of the lists while they are marked. -/
theorem Ls.mkAt {al : Option Addr} {nl cl i k : Nat} {K : Nat → List Int} (h : Ls w0 w (.slice al nl cl) Vs (mkd K i k)) (hi : i < Vs.length) (hk : k ≤ (K i).length) :
    ∃ g a cap, al = some ⟨g, 0, none⟩ ∧ (K i).length ≤ cap ∧ cap ≤ 9223372036854775807 ∧ w.cell? ⟨g, i, none⟩ = some (.slice a (K i).length cap) ∧
      (k < (K i).length → ∃ q x, a = some ⟨q, 0, none⟩ ∧ w.cell? ⟨q, k, none⟩ = some (.int .i64 x) ∧ w.frozen? ⟨q, k, none⟩ = false ∧ Hid (Ls w0 (w.setCell ⟨q, k, none⟩ (.int .i64 (-1 - (i : Int)))) (.slice al nl cl) Vs (mkd K i (k + 1)))) := by
  obtain ⟨a, g, cl', cap, e, hv, h1, h2, h3, h4, h5⟩ := h.at hi
  simp only [Value.slice.injEq] at e
  obtain ⟨rfl, rfl, rfl⟩ := e
  rw [mk_len K i k i hk] at hv h1 h3 h4
  unfold maxLen at h2
  refine ⟨g, a, cap, rfl, h1, by omega, h3 w rfl, fun hlt => ?_⟩
  cases a with
  | none => have := (h4 rfl).1; omega
  | some p =>
    obtain ⟨q, rfl⟩ := h5 p rfl
    obtain ⟨⟨x, hx⟩, hf, hL⟩ := h.put (-1 - (i : Int)) hv (by rw [mk_len K i k i hk]; exact hlt)
    exact ⟨q, x, rfl, hx, hf, hL.eq fun j _ => mk_step K i k hlt j⟩
theorem Ls.mkNext {i : Nat} {K : Nat → List Int} (h : Ls w0 w vl Vs (mkd K i (K i).length)) : Ls w0 w vl Vs (mkd K (i + 1) 0) := h.eq fun j _ => mk_next K i j
theorem Ls.mkStart {K : Nat → List Int} (h : Ls w0 w vl Vs K) : Ls w0 w vl Vs (mkd K 0 0) := h.eq fun j _ => (mk_zero K j).symm
theorem Ls.mkEnd {K : Nat → List Int} (h : Ls w0 w vl Vs (mkd K Vs.length 0)) : Gs w0 w vl (.slice none 0 0) Vs [] fun j => (K j).length :=
  ⟨h.eq fun j hj => by unfold mkd; rw [if_pos hj], World.ownsRow_nil _ _ _ _, (fun k _ e => by cases e), fun j u hu => by simp at hu⟩
/-- One of the lists is taken up. -/
theorem Gs.begin {al : Option Addr} {nl cl i : Nat} (h : Gs w0 w (.slice al nl cl) vm Vs Us n) (hi : i < Vs.length) (hl : Us.length = i) :
    ∃ g a cap, al = some ⟨g, 0, none⟩ ∧ n i ≤ cap ∧ cap ≤ 9223372036854775807 ∧ w.cell? ⟨g, i, none⟩ = some (.slice a (n i) cap) ∧ Gi w0 w (.slice al nl cl) vm Vs Us n i (n i) a cap := by
  obtain ⟨a, g, cl', cap, e, hv, h1, h2, h3, h4, h5⟩ := h.ls.at hi
  simp only [Value.slice.injEq] at e
  obtain ⟨rfl, rfl, rfl⟩ := e
  rw [List.length_replicate] at hv h1 h3 h4
  unfold maxLen at h2
  exact ⟨g, a, cap, rfl, h1, by omega, h3 w rfl, h, hv, h.ls.own i _ hv, Nat.le_refl _, hl⟩
/-- While it is grown, the list itself is still there. -/
theorem Gi.here {g nl cl i ln cap : Nat} {a : Option Addr} (h : Gi w0 w (.slice (some ⟨g, 0, none⟩) nl cl) vm Vs Us n i ln a cap) : w.cell? ⟨g, i, none⟩ = some (.slice a (n i) cap) :=
  (Me.row_cell (xs := Vs) h.gs.ls.ls h.at').1
/-- What is looked at in the end. -/
theorem Gs.look {al am : Option Addr} {nl cl nm cm i : Nat} (h : Gs w0 w (.slice al nl cl) (.slice am nm cm) Vs Us n) (hi : i < Us.length) :
    ∃ gl gm a m c a' c', al = some ⟨gl, 0, none⟩ ∧ am = some ⟨gm, 0, none⟩ ∧ w.cell? ⟨gm, i, none⟩ = some (.slice a m c) ∧ w.cell? ⟨gl, i, none⟩ = some (.slice a' (n i) c') ∧ m ≤ 9223372036854775807 ∧ n i ≤ 9223372036854775807 ∧
      (∀ k, k < m → ∃ q, a = some ⟨q, 0, none⟩ ∧ w.cell? ⟨q, k, none⟩ = some (.int .i64 (-1 - (i : Int)))) ∧ ∀ k, k < n i → ∃ q, a' = some ⟨q, 0, none⟩ ∧ w.cell? ⟨q, k, none⟩ = some (.int .i64 (-1 - (i : Int))) := by
  obtain ⟨v, m, h1, h2, h3, h4⟩ := h.mor i Us[i] (List.getElem?_eq_getElem hi)
  have hiV := (List.getElem?_eq_some_iff.1 h1).1
  obtain ⟨a', gl, cl', c', e, hv, k1, k2, k3, k4, k5⟩ := h.ls.at hiV
  simp only [Value.slice.injEq] at e
  obtain ⟨rfl, rfl, rfl⟩ := e
  rw [List.length_replicate] at hv k1 k3 k4
  unfold maxLen at k2
  obtain ⟨am', cm', em, -, -, m0, m1⟩ := Me.row_len h.ms
  simp only [Value.slice.injEq] at em
  obtain ⟨rfl, -, rfl⟩ := em
  cases am with
  | none => have := (m0 rfl).1; omega
  | some p =>
    obtain ⟨gm, rfl, -⟩ := m1 p rfl
    have cu := (Me.row_cell (xs := Us) h.ms (List.getElem?_eq_getElem hi)).1
    generalize Us[i] = u at *
    obtain ⟨a, c, eu, u1, u2, u3, u4⟩ := ownI_len h2
    rw [List.length_replicate] at eu u1 u3
    subst eu
    unfold maxLen at u2
    have hov := h.ls.own i _ hv
    refine ⟨gl, gm, a, m, c, a', c', rfl, rfl, cu, k3 w rfl, by omega, by omega, fun k hk => ?_, fun k hk => ?_⟩
    · cases a with
      | none => have := (u3 rfl).1; omega
      | some p =>
        obtain ⟨q, rfl, -⟩ := u4 p rfl
        exact ⟨q, rfl, (own_cell h2 (by rw [List.getElem?_replicate, if_pos hk])).1⟩
    · cases a' with
      | none => have := (k4 rfl).1; omega
      | some p =>
        obtain ⟨q, rfl⟩ := k5 p rfl
        exact ⟨q, rfl, (own_cell hov (by rw [List.getElem?_replicate, if_pos hk])).1⟩
end
end Go.Proofs.Ythbjfbalgejndaa
