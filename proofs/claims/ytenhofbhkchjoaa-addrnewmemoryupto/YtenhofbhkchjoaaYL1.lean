/-
  Lists of prefixes, lists of lists: what append, a store and a copy leave; lists that are marked, grown in their places, and looked at.
-/
import Derived.Test.YtenhofbhkchjoaaXM1
import Derived.Test.YtenhofbhkchjoaaRows
namespace Go.Proofs.Ytenhofbhkchjoaa.Me
open Go Go.RowKit
set_option maxHeartbeats 1000000
set_option maxRecDepth 100000

theorem uQ : Try.prog.underlying 25 = some (.slice 30) := by kernel_rfl
theorem uQQ : Try.prog.underlying 48 = some (.slice 25) := by kernel_rfl
theorem info_at {z : Value} {s b t : Nat} (h : (Try.prog.info? t).map (fun i => (i.zero, i.size, i.bytes)) = some (some z, s, b)) : ∃ i, Try.prog.info? t = some i ∧ i.zero = some z ∧ i.size = s ∧ i.bytes = b := by
  cases hq : Try.prog.info? t with
  | none => rw [hq] at h; cases h
  | some i =>
    rw [hq] at h
    simp at h
    exact ⟨i, rfl, h.1, h.2.1, h.2.2⟩
theorem infoQ : (Try.prog.info? 30).map (fun i => (i.zero, i.size, i.bytes)) = some (some (.agg #[.int .u32 0, .int .i64 0]), 2, 16) := by kernel_rfl
theorem infoQQ : (Try.prog.info? 25).map (fun i => (i.zero, i.size, i.bytes)) = some (some (.slice none 0 0), 1, 24) := by kernel_rfl

/-- Prefixes as cells. -/
def pp (L : List (Nat × Int)) : List Value := L.flatMap fun p => [.int .u32 (p.1 : Int), .int .i64 p.2]
theorem pp_cons (p : Nat × Int) (L : List (Nat × Int)) : pp (p :: L) = .int .u32 (p.1 : Int) :: .int .i64 p.2 :: pp L := rfl
theorem pp_len : ∀ L : List (Nat × Int), (pp L).length = L.length * 2
  | [] => rfl
  | p :: L => by rw [pp_cons]; simp [pp_len L]; omega
theorem pp_app (L M : List (Nat × Int)) : pp (L ++ M) = pp L ++ pp M := by simp [pp]
theorem pp_one : ∀ L : List (Nat × Int), ∀ u ∈ pp L, u.oneCell' = true
  | [], u, h => by cases h
  | p :: L, u, h => by
    rw [pp_cons] at h
    simp only [List.mem_cons] at h
    rcases h with rfl | rfl | h
    · rfl
    · rfl
    · exact pp_one L u h
theorem pp_at : ∀ (L : List (Nat × Int)) (i : Nat) (r : Nat × Int), L[i]? = some r → (pp L)[i * 2]? = some (.int .u32 (r.1 : Int)) ∧ (pp L)[i * 2 + 1]? = some (.int .i64 r.2)
  | [], i, r, h => by simp at h
  | p :: L, 0, r, h => by simp at h; subst h; exact ⟨rfl, rfl⟩
  | p :: L, i + 1, r, h => by
    have h' := pp_at L i r (by simpa using h)
    rw [pp_cons, show (i + 1) * 2 = i * 2 + 1 + 1 by omega]
    exact h'
theorem pp_set : ∀ (L : List (Nat × Int)) (k : Nat) (p : Nat × Int), k < L.length → pp (L.set k p) = ((pp L).set (k * 2) (.int .u32 (p.1 : Int))).set (k * 2 + 1) (.int .i64 p.2)
  | q :: L, 0, p, _ => by simp [pp_cons]
  | q :: L, k + 1, p, h => by
    rw [List.set_cons_succ, pp_cons, pp_cons, pp_set L k p (by simpa using h), show (k + 1) * 2 = k * 2 + 1 + 1 by omega]
    simp

/-- A list of prefixes of the call's own. -/
def OwnQ (w : World) (B : Nat) (v : Value) (L : List (Nat × Int)) : Prop := w.ownsRow B 30 2 v L.length (pp L)
theorem ownQ_nil (w : World) (B : Nat) : OwnQ w B (.slice none 0 0) [] := World.ownsRow_nil _ _ _ _
theorem ownQ_len {w : World} {B : Nat} {v : Value} {L : List (Nat × Int)} (h : OwnQ w B v L) : ∃ a cap, v = .slice a L.length cap ∧ L.length ≤ cap ∧ cap ≤ maxLen ∧ (a = none → L.length = 0 ∧ cap = 0) ∧ ∀ p, a = some p → ∃ g, p = ⟨g, 0, none⟩ ∧ B ≤ g ∧ g < w.heap.size := row_len h

theorem append_q (w : World) (B : Nat) (v : Value) (L M : List (Nat × Int)) (b m c : Nat) (hv : OwnQ w B v L) (hm : M.length = m) (hm0 : 0 < m) (hsrc : ∀ j u, (pp M)[j]? = some u → w.cell? ⟨b, j, none⟩ = some u) (hB : B ≤ w.heap.size) (hbig : L.length + m ≤ 8796093022208) :
    ∃ v' w', (Builtin.append_ #[25, 25] 25 #[v, .slice (some ⟨b, 0, none⟩) m c]).run Try.prog w = .ok v' w' ∧ OwnQ w' B v' (L ++ M) ∧ w.grownBy w' v.ownBlock ∧ NwB v v' w.heap.size ∧
      (∀ B' u K, OwnQ w B' u K → (∀ g, v.ownBlock = some g → u.ownBlock = some g → K.length ≤ L.length) → OwnQ w' B' u K) ∧
      ∀ g cap, v = .slice (some ⟨g, 0, none⟩) L.length cap → L.length + m ≤ cap → v' = .slice (some ⟨g, 0, none⟩) (L.length + m) cap := by
  obtain ⟨i0, hi0, hz0, hz1, hz2⟩ := info_at infoQ
  obtain ⟨v', w', h1, h2, h3, h4, h5, h6⟩ := append_gen (P := Try.prog) w B 25 25 30 i0 _ 2 16 uQ hi0 hz0 hz1 hz2 rfl (by decide) (by decide) v L.length (pp L) hv b m c (pp M) (by rw [pp_len, hm]) hsrc (pp_one M) hm0 (by omega) hB
  refine ⟨v', w', h1, ?_, h3, h4, fun B' u K hu hk => h5 B' u _ _ hu hk, h6⟩
  unfold OwnQ
  rw [List.length_append, pp_app, hm]
  exact h2

theorem copy_q (w : World) (B : Nat) (u : Value) (K : List (Nat × Int)) (hu : OwnQ w B u K) (hbig : K.length ≤ 8796093022208) :
    ∃ v' w', (Builtin.append_ #[25, 25] 25 #[.slice none 0 0, u]).run Try.prog w = .ok v' w' ∧ OwnQ w' w.heap.size v' K ∧ w.grownBy w' none := by
  obtain ⟨i0, hi0, hz0, hz1, hz2⟩ := info_at infoQ
  rcases hu.2 with ⟨rfl, h0⟩ | ⟨g, cap, cur, rfl, hb, hg, h1, h2, h3, h4⟩
  · have : K = [] := List.eq_nil_of_length_eq_zero h0
    subst this
    exact ⟨_, _, append_nil_nil (P := Try.prog) w _ _ 30 i0 uQ hi0, ownQ_nil _ _, ⟨rfl, rfl, rfl, Nat.le_refl _, fun _ _ _ => rfl⟩⟩
  · obtain ⟨v', w', hr, h5, h6, -⟩ := run_append_own (P := Try.prog) w w.heap.size 25 25 30 i0 _ 2 16 uQ hi0 hz0 hz1 hz2 rfl (by decide) (.slice none 0 0) 0 [] (World.ownsRow_nil _ _ _ _) ⟨g, 0, none⟩ K.length cap (pp K) (by rw [pp_len]) (World.ownsRow.cells hu (g := g) rfl) (pp_one K) (by unfold maxLen; omega) (by omega) (Nat.le_refl _)
    refine ⟨v', w', hr, ?_, h6⟩
    rw [List.nil_append, Nat.zero_add] at h5
    exact h5

/-! ### lists of lists -/
def OwnS (w : World) (B : Nat) (v : Value) (Vs : List Value) : Prop := w.ownsRow B 25 1 v Vs.length Vs
def AllS (Vs : List Value) : Prop := ∀ u ∈ Vs, ∃ a n c, u = .slice a n c
theorem AllS.one {Vs : List Value} (h : AllS Vs) : ∀ u ∈ Vs, u.oneCell' = true := fun u hu => by
  obtain ⟨a, n, c, rfl⟩ := h u hu
  rfl
theorem append_s (w : World) (B : Nat) (v : Value) (Vs Us : List Value) (b m c : Nat) (hv : OwnS w B v Vs) (hm : Us.length = m) (hm0 : 0 < m) (hsrc : ∀ j x, Us[j]? = some x → w.cell? ⟨b, j, none⟩ = some x) (hU : AllS Us) (hB : B ≤ w.heap.size) (hbig : Vs.length + m ≤ 4294967296) :
    ∃ v' w', (Builtin.append_ #[48, 48] 48 #[v, .slice (some ⟨b, 0, none⟩) m c]).run Try.prog w = .ok v' w' ∧ OwnS w' B v' (Vs ++ Us) ∧ w.grownBy w' v.ownBlock ∧ NwB v v' w.heap.size := by
  obtain ⟨i0, hi0, hz0, hz1, hz2⟩ := info_at infoQQ
  obtain ⟨v', w', h1, h2, h3, h4, -, -⟩ := append_gen (P := Try.prog) w B 48 48 25 i0 _ 1 24 uQQ hi0 hz0 hz1 hz2 rfl (by decide) (by decide) v Vs.length Vs hv b m c Us (by rw [hm]; omega) hsrc hU.one hm0 (by omega) hB
  refine ⟨v', w', h1, ?_, h3, h4⟩
  unfold OwnS
  rw [List.length_append, hm]
  exact h2
theorem kind_ne {w : World} {B B' : Nat} {v u : Value} {Vs : List Value} {K : List (Nat × Int)} (h : OwnS w B v Vs) (h' : OwnQ w B' u K) : ∀ k, u.ownBlock = some k → v.ownBlock ≠ some k := fun _ hk => row_ne h' h (by decide) hk

theorem below_grown {w0 w w' : World} {B : Nat} {row : Option Nat} (h : Below B w0 w) (hg : w.grownBy w' row) (hr : ∀ k, row = some k → B ≤ k) (hB : B ≤ w.heap.size) : Below B w0 w' :=
  h.trans ⟨hg.os, hg.tape, hg.output, hg.size, fun k hk => hg.block k (by omega) fun e => by have := hr k e.symm; omega⟩
theorem row_grown {w w' : World} {B : Nat} {e : TypeId} {sz : Nat} {v : Value} {n : Nat} {xs : List Value} {row : Option Nat} (h : w.ownsRow B e sz v n xs) (hg : w.grownBy w' row) (hne : ∀ k, v.ownBlock = some k → row ≠ some k) : w'.ownsRow B e sz v n xs :=
  World.ownsRow.kept h hg (by
    cases hv : v.ownBlock with
    | none => exact .inl rfl
    | some k => exact .inr fun e => hne k hv e.symm)
theorem grown_set (w : World) (g i : Nat) (x : Value) : w.grownBy (w.setCell ⟨g, i, none⟩ x) (some g) :=
  ⟨rfl, rfl, rfl, by simp [World.setCell], fun k _ hn => by
    have hne : g ≠ k := fun e => hn (by rw [e])
    simp [World.setCell, Array.getElem?_modify, hne]⟩
theorem grown_two (w : World) (g i j : Nat) (x y : Value) : w.grownBy ((w.setCell ⟨g, i, none⟩ x).setCell ⟨g, j, none⟩ y) (some g) := by
  have h1 := grown_set w g i x
  have h2 := grown_set (w.setCell ⟨g, i, none⟩ x) g j y
  exact ⟨h2.os.trans h1.os, h2.tape.trans h1.tape, h2.output.trans h1.output, Nat.le_trans h1.size h2.size, fun k hk hn => (h2.block k (Nat.lt_of_lt_of_le hk h1.size) hn).trans (h1.block k hk hn)⟩

theorem own_cell {w : World} {B g n cap : Nat} {L : List (Nat × Int)} (h : OwnQ w B (.slice (some ⟨g, 0, none⟩) n cap) L) {k : Nat} {x : Nat × Int} (hk : L[k]? = some x) : w.cell? ⟨g, k * 2, none⟩ = some (.int .u32 (x.1 : Int)) ∧ w.cell? ⟨g, k * 2 + 1, none⟩ = some (.int .i64 x.2) ∧ w.frozen? ⟨g, k * 2, none⟩ = false ∧ w.frozen? ⟨g, k * 2 + 1, none⟩ = false := by
  obtain ⟨e1, e2⟩ := pp_at L k x hk
  obtain ⟨h1, h2⟩ := row_cell (xs := pp L) h e1
  obtain ⟨h3, h4⟩ := row_cell (xs := pp L) h e2
  exact ⟨h1, h3, h2, h4⟩
theorem own_set {w : World} {B g cap : Nat} {L : List (Nat × Int)} (h : OwnQ w B (.slice (some ⟨g, 0, none⟩) L.length cap) L) {k : Nat} (hk : k < L.length) (p : Nat × Int) : OwnQ ((w.setCell ⟨g, k * 2, none⟩ (.int .u32 (p.1 : Int))).setCell ⟨g, k * 2 + 1, none⟩ (.int .i64 p.2)) B (.slice (some ⟨g, 0, none⟩) L.length cap) (L.set k p) := by
  unfold OwnQ
  rw [List.length_set, pp_set L k p hk]
  exact row_put (row_put h _ _) _ _
/-- The second cell behind the first store. -/
theorem own_next {w : World} {B g n cap : Nat} {L : List (Nat × Int)} (h : OwnQ w B (.slice (some ⟨g, 0, none⟩) n cap) L) {k : Nat} {x : Nat × Int} (hk : L[k]? = some x) (y : Value) : (w.setCell ⟨g, k * 2, none⟩ y).cell? ⟨g, k * 2 + 1, none⟩ = some (.int .i64 x.2) ∧ (w.setCell ⟨g, k * 2, none⟩ y).frozen? ⟨g, k * 2 + 1, none⟩ = false := by
  obtain ⟨e1, e2⟩ := pp_at L k x hk
  obtain ⟨a, c, e, -⟩ := row_len h
  simp only [Value.slice.injEq] at e
  obtain ⟨-, rfl, -⟩ := e
  exact row_cell (xs := (pp L).set (k * 2) y) (row_put h (k * 2) y) (by rw [List.getElem?_set_ne (by omega)]; exact e2)

def Apt (Vs : List Value) : Prop := Vs.Pairwise fun a b => ∀ k, a.ownBlock = some k → b.ownBlock ≠ some k
theorem Apt.ne {Vs : List Value} (h : Apt Vs) {i j : Nat} {a b : Value} (ha : Vs[i]? = some a) (hb : Vs[j]? = some b) (hij : i ≠ j) {k : Nat} (hk : a.ownBlock = some k) : b.ownBlock ≠ some k := by
  obtain ⟨hi, rfl⟩ := List.getElem?_eq_some_iff.1 ha
  obtain ⟨hj, rfl⟩ := List.getElem?_eq_some_iff.1 hb
  have hp := List.pairwise_iff_getElem.1 h
  rcases Nat.lt_or_gt_of_ne hij with e | e
  · exact hp i j hi hj e k hk
  · exact fun hk' => hp j i hj hi e k hk' hk

/-- Lists and what they hold. -/
structure Ls (w0 w : World) (vl : Value) (Vs : List Value) (f : Nat → List (Nat × Int)) : Prop where
  be : Below w0.heap.size w0 w
  ls : OwnS w w0.heap.size vl Vs
  own : ∀ (i : Nat) v, Vs[i]? = some v → OwnQ w w0.heap.size v (f i)
  two : Apt Vs
/-- The mark of a list. -/
def mq (j : Nat) : Nat × Int := (j, 77)

section
variable {w0 w w' : World} {vl vm : Value} {Vs Us : List Value} {f : Nat → List (Nat × Int)}
theorem Ls.below (h : Ls w0 w vl Vs f) (hb : Below w.heap.size w w') : Ls w0 w' vl Vs f := ⟨h.be.trans (hb.mono h.be.size), row_below h.ls hb, fun i v hv => row_below (h.own i v hv) hb, h.two⟩
theorem Ls.at (h : Ls w0 w vl Vs f) {i : Nat} (hi : i < Vs.length) : ∃ a g cl cap, vl = .slice (some ⟨g, 0, none⟩) Vs.length cl ∧ Vs[i]? = some (.slice a (f i).length cap) ∧ (f i).length ≤ cap ∧ cap ≤ maxLen ∧ (∀ u : World, u.heap[g]? = w.heap[g]? → u.cell? ⟨g, i, none⟩ = some (.slice a (f i).length cap)) ∧ (a = none → (f i).length = 0 ∧ cap = 0) ∧ ∀ p, a = some p → ∃ q, p = ⟨q, 0, none⟩ := by
  have hv := List.getElem?_eq_getElem hi
  have ho := h.own i _ hv
  obtain ⟨a, cap, e, h1, h2, h3, h4⟩ := ownQ_len ho
  obtain ⟨al, cl, el, -, -, n0, n1⟩ := row_len h.ls
  cases al with
  | none => have := (n0 rfl).1; omega
  | some p =>
    obtain ⟨g, rfl, -⟩ := n1 p rfl
    rw [e] at hv
    have hls := h.ls
    subst el
    refine ⟨a, g, cl, cap, rfl, hv, h1, h2, fun u hu => ?_, h3, fun p hp => ?_⟩
    · rw [World.cell?_of_block (w := w) (by exact hu)]
      exact (row_cell (xs := Vs) hls hv).1
    · obtain ⟨q, h5, -⟩ := h4 p hp
      exact ⟨q, h5⟩
theorem Ls.put (h : Ls w0 w vl Vs f) {i k q n cap : Nat} (m : Nat × Int) (hv : Vs[i]? = some (.slice (some ⟨q, 0, none⟩) n cap)) (hk : k < (f i).length) :
    (∃ x : Nat × Int, w.cell? ⟨q, k * 2, none⟩ = some (.int .u32 (x.1 : Int)) ∧ w.frozen? ⟨q, k * 2, none⟩ = false ∧ (w.setCell ⟨q, k * 2, none⟩ (.int .u32 (m.1 : Int))).cell? ⟨q, k * 2 + 1, none⟩ = some (.int .i64 x.2) ∧ (w.setCell ⟨q, k * 2, none⟩ (.int .u32 (m.1 : Int))).frozen? ⟨q, k * 2 + 1, none⟩ = false) ∧
      Ls w0 ((w.setCell ⟨q, k * 2, none⟩ (.int .u32 (m.1 : Int))).setCell ⟨q, k * 2 + 1, none⟩ (.int .i64 m.2)) vl Vs fun j => if j = i then (f i).set k m else f j := by
  have ho := h.own i _ hv
  obtain ⟨h1, -, h2, -⟩ := own_cell ho (List.getElem?_eq_getElem hk)
  obtain ⟨h3, h4⟩ := own_next ho (List.getElem?_eq_getElem hk) (.int .u32 (m.1 : Int))
  obtain ⟨a, c, e, -⟩ := ownQ_len ho
  simp only [Value.slice.injEq] at e
  obtain ⟨-, rfl, -⟩ := e
  have hg := grown_two w q (k * 2) (k * 2 + 1) (.int .u32 (m.1 : Int)) (.int .i64 m.2)
  have hB := (World.ownsRow.lt ho q rfl).1
  refine ⟨⟨_, h1, h2, h3, h4⟩, below_grown h.be hg (fun k e => by cases e; exact hB) h.be.size, row_grown h.ls hg fun k hk' e => ?_, fun j v hj => ?_, h.two⟩
  · cases e
    exact kind_ne h.ls ho q rfl hk'
  · by_cases e : j = i
    · subst e
      rw [hv] at hj
      cases hj
      rw [if_pos rfl]
      exact own_set ho hk m
    · rw [if_neg e]
      exact row_grown (h.own j v hj) hg fun k hk' e' => by
        cases e'
        exact h.two.ne hv hj (fun e' => e e'.symm) rfl hk'
theorem Ls.eq {f' : Nat → List (Nat × Int)} (h : Ls w0 w vl Vs f) (he : ∀ i, i < Vs.length → f i = f' i) : Ls w0 w vl Vs f' := ⟨h.be, h.ls, fun i v hv => by
    rw [← he i (List.getElem?_eq_some_iff.1 hv).1]; exact h.own i v hv, h.two⟩

/-- The lists' contents while they are marked. -/
def mkd (K : Nat → List (Nat × Int)) (i k j : Nat) : List (Nat × Int) := if j < i then List.replicate (K j).length (mq j) else if j = i then List.replicate k (mq j) ++ (K j).drop k else K j
theorem mk_len (K : Nat → List (Nat × Int)) (i k j : Nat) (hk : k ≤ (K i).length) : (mkd K i k j).length = (K j).length := by
  unfold mkd
  split
  · simp
  · split
    · rename_i h1 h2
      subst h2
      simp
      omega
    · rfl
theorem mk_step (K : Nat → List (Nat × Int)) (i k : Nat) (hk : k < (K i).length) (j : Nat) : (if j = i then (mkd K i k i).set k (mq i) else mkd K i k j) = mkd K i (k + 1) j := by
  by_cases e : j = i
  · subst e
    rw [if_pos rfl]
    unfold mkd
    rw [if_neg (by omega), if_pos rfl, if_neg (by omega), if_pos rfl, List.set_append_right _ _ (by simp), List.length_replicate, Nat.sub_self, List.drop_eq_getElem_cons hk, List.set_cons_zero, List.replicate_succ']
    simp
  · rw [if_neg e]
    unfold mkd
    rw [if_neg e, if_neg e]
theorem mk_next (K : Nat → List (Nat × Int)) (i j : Nat) : mkd K i (K i).length j = mkd K (i + 1) 0 j := by
  unfold mkd
  by_cases h : j < i
  · rw [if_pos h, if_pos (by omega)]
  · rw [if_neg h]
    by_cases e : j = i
    · subst e
      rw [if_pos rfl, if_pos (by omega), List.drop_length, List.append_nil]
    · rw [if_neg e, if_neg (by omega)]
      split
      · simp
      · rfl
theorem mk_zero (K : Nat → List (Nat × Int)) (j : Nat) : mkd K 0 0 j = K j := by
  unfold mkd
  rw [if_neg (by omega)]
  split
  · simp
  · rfl

/-- The lists are full of their marks; some are grown. -/
structure Gs (w0 w : World) (vl vm : Value) (Vs Us : List Value) (n : Nat → Nat) : Prop where
  ls : Ls w0 w vl Vs fun j => List.replicate (n j) (mq j)
  ms : OwnS w w0.heap.size vm Us
  ne : ∀ k, vl.ownBlock = some k → vm.ownBlock ≠ some k
  mor : ∀ (j : Nat) u, Us[j]? = some u → ∃ v m, Vs[j]? = some v ∧ OwnQ w w0.heap.size u (List.replicate m (mq j)) ∧ n j ≤ m ∧ u.ownBlock = v.ownBlock

variable {n : Nat → Nat}
theorem Gs.below (h : Gs w0 w vl vm Vs Us n) (hb : Below w.heap.size w w') : Gs w0 w' vl vm Vs Us n := ⟨h.ls.below hb, row_below h.ms hb, h.ne, fun j u hu => by
  obtain ⟨v, m, h1, h2, h3⟩ := h.mor j u hu
  exact ⟨v, m, h1, row_below h2 hb, h3⟩⟩
/-- One of them while it is grown. -/
structure Gi (w0 w : World) (vl vm : Value) (Vs Us : List Value) (n : Nat → Nat) (i ln : Nat) (a : Option Addr) (cap : Nat) : Prop where
  gs : Gs w0 w vl vm Vs Us n
  at' : Vs[i]? = some (.slice a (n i) cap)
  own : OwnQ w w0.heap.size (.slice a ln cap) (List.replicate ln (mq i))
  le : n i ≤ ln
  len : Us.length = i

theorem Gi.grow {i ln cap : Nat} {a : Option Addr} (h : Gi w0 w vl vm Vs Us n i ln a cap) (hc : ln < cap) (hq : ln + 1 ≤ 8796093022208) :
    ∃ w', (Builtin.append_ #[25, 25] 25 #[.slice a ln cap, .slice (some ⟨w.heap.size, 0, none⟩) 1 1]).run Try.prog (w.alloc (.cells #[.int .u32 (i : Int), .int .i64 77] 30)) = .ok (.slice a (ln + 1) cap) w' ∧ Gi w0 w' vl vm Vs Us n i (ln + 1) a cap := by
  have hB1 : Below w.heap.size w (w.alloc (.cells #[.int .u32 (i : Int), .int .i64 77] 30)) := (Below.refl _ _).alloc (Nat.le_refl _) _
  have hz1 := hB1.size
  have hB := h.gs.ls.be.size
  have r1 := heap_alloc_new w (.cells #[.int .u32 (i : Int), .int .i64 77] 30 (0, 0))
  have hG := h.gs.below hB1
  have ho := row_below h.own hB1
  obtain ⟨a', c', e, -, -, h0, h1⟩ := ownQ_len ho
  simp only [Value.slice.injEq, List.length_replicate] at e
  obtain ⟨rfl, -, rfl⟩ := e
  cases a with
  | none => have := (h0 rfl).2; omega
  | some p =>
    obtain ⟨g, rfl, hgB, hgz⟩ := h1 p rfl
    obtain ⟨v', w', hr, hoo, hg, -, hkp, hrm⟩ := append_q _ w0.heap.size _ _ [mq i] w.heap.size 1 1 ho rfl (by decide) (fun j x hj => by
      rw [cell_of_row _ _ _ _ _ _ r1, ← Array.getElem?_toList]; exact hj) (by omega) (by rw [List.length_replicate]; exact hq)
    have hv := hrm g cap (by rw [List.length_replicate]) (by rw [List.length_replicate]; omega)
    rw [List.length_replicate] at hv
    subst hv
    have hrep : List.replicate ln (mq i) ++ [mq i] = List.replicate (ln + 1) (mq i) := by rw [List.replicate_succ']
    rw [hrep] at hoo
    have hle := h.le
    refine ⟨w', hr, ⟨⟨below_grown hG.ls.be hg (fun k e => by cases e; exact hgB) (by omega), row_grown hG.ls.ls hg (fun k hk e => by cases e; exact kind_ne hG.ls.ls ho g rfl hk), fun j v hj => hkp _ _ _ (hG.ls.own j v hj) fun k hk hk' => ?_, h.gs.ls.two⟩, row_grown hG.ms hg (fun k hk e => by cases e; exact kind_ne hG.ms ho g rfl hk), h.gs.ne, fun j u hj => ?_⟩, h.at', hoo, by omega, h.len⟩
    · by_cases e : j = i
      · subst e
        simp [hle]
      · exact absurd hk' (h.gs.ls.two.ne h.at' hj (fun e' => e e'.symm) hk)
    · obtain ⟨v, m, h1', h2', h3', h4'⟩ := hG.mor j u hj
      refine ⟨v, m, h1', hkp _ _ _ h2' fun k hk hk' => ?_, h3', h4'⟩
      have hji := (List.getElem?_eq_some_iff.1 hj).1
      rw [h.len] at hji
      rw [h4'] at hk'
      exact absurd hk' (h.gs.ls.two.ne h.at' h1' (by omega) hk)
theorem Gi.done {i ln cap : Nat} {a : Option Addr} (h : Gi w0 w vl vm Vs Us n i ln a cap) (hz : i + 1 ≤ 4294967296) :
    ∃ a' n' c' w', (Builtin.append_ #[48, 48] 48 #[vm, .slice (some ⟨w.heap.size, 0, none⟩) 1 1]).run Try.prog (w.alloc (.cells #[.slice a ln cap] 25)) = .ok (.slice a' n' c') w' ∧ Gs w0 w' vl (.slice a' n' c') Vs (Us ++ [.slice a ln cap]) n ∧ (Us ++ [Value.slice a ln cap]).length = i + 1 := by
  have hB1 : Below w.heap.size w (w.alloc (.cells #[.slice a ln cap] 25)) := (Below.refl _ _).alloc (Nat.le_refl _) _
  have hz1 := hB1.size
  have hB := h.gs.ls.be.size
  have r1 := heap_alloc_new w (.cells #[.slice a ln cap] 25 (0, 0))
  have hG := h.gs.below hB1
  have ho := row_below h.own hB1
  obtain ⟨vm', w', hr, hoo, hg, hn⟩ := append_s _ w0.heap.size vm Us [.slice a ln cap] w.heap.size 1 1 hG.ms rfl (by decide) (fun j x hj => by
    rw [cell_of_row _ _ _ _ _ _ r1, ← Array.getElem?_toList]; exact hj) (fun x hx => by
    simp only [List.mem_cons, List.not_mem_nil, or_false] at hx
    subst hx
    exact ⟨_, _, _, rfl⟩) (by omega) (by rw [h.len]; exact hz)
  obtain ⟨am, cm, em, -⟩ := row_len hoo
  subst em
  have kp : ∀ (B : Nat) (u : Value) (K : List (Nat × Int)), OwnQ (w.alloc (.cells #[.slice a ln cap] 25)) B u K → OwnQ w' B u K := fun B u K hu => row_grown hu hg (kind_ne hG.ms hu)
  refine ⟨_, _, _, w', hr, ⟨⟨below_grown hG.ls.be hg (fun k e => (World.ownsRow.lt hG.ms k e).1) (by omega), row_grown hG.ls.ls hg (fun k hk e => h.gs.ne k hk e), fun j v hj => kp _ _ _ (hG.ls.own j v hj), h.gs.ls.two⟩, hoo, fun k hk hk' => ?_, fun j u hj => ?_⟩, by simp [h.len]⟩
  · rcases hn k hk' with e | e
    · exact h.gs.ne k hk e
    · have := (World.ownsRow.lt h.gs.ls.ls k hk).2
      omega
  · by_cases hj' : j < Us.length
    · rw [List.getElem?_append_left hj'] at hj
      obtain ⟨v, m, h1', h2', h3'⟩ := hG.mor j u hj
      exact ⟨v, m, h1', kp _ _ _ h2', h3'⟩
    · rw [List.getElem?_append_right (by omega)] at hj
      obtain ⟨p, hp⟩ : ∃ p, p = j - Us.length := ⟨_, rfl⟩
      rw [← hp] at hj
      match p with
      | 0 =>
        simp at hj
        subst hj
        have hji : j = i := by have := h.len; omega
        subst hji
        exact ⟨_, _, h.at', kp _ _ _ ho, h.le, by cases a <;> rfl⟩
      | p + 1 => simp at hj

theorem Ls.mkAt {al : Option Addr} {nl cl i k : Nat} {K : Nat → List (Nat × Int)} (h : Ls w0 w (.slice al nl cl) Vs (mkd K i k)) (hi : i < Vs.length) (hk : k ≤ (K i).length) :
    ∃ g a cap, al = some ⟨g, 0, none⟩ ∧ (K i).length ≤ cap ∧ cap ≤ 9223372036854775807 ∧ w.cell? ⟨g, i, none⟩ = some (.slice a (K i).length cap) ∧
      (k < (K i).length → ∃ (q : Nat) (x : Nat × Int), a = some ⟨q, 0, none⟩ ∧ w.cell? ⟨q, k * 2, none⟩ = some (.int .u32 (x.1 : Int)) ∧ w.frozen? ⟨q, k * 2, none⟩ = false ∧ (w.setCell ⟨q, k * 2, none⟩ (.int .u32 (i : Int))).cell? ⟨q, k * 2 + 1, none⟩ = some (.int .i64 x.2) ∧ (w.setCell ⟨q, k * 2, none⟩ (.int .u32 (i : Int))).frozen? ⟨q, k * 2 + 1, none⟩ = false ∧
        Hid (Ls w0 ((w.setCell ⟨q, k * 2, none⟩ (.int .u32 (i : Int))).setCell ⟨q, k * 2 + 1, none⟩ (.int .i64 77)) (.slice al nl cl) Vs (mkd K i (k + 1)))) := by
  obtain ⟨a, g, cl', cap, e, hv, h1, h2, h3, h4, h5⟩ := h.at hi
  simp only [Value.slice.injEq] at e
  obtain ⟨rfl, rfl, rfl⟩ := e
  rw [mk_len K i k i hk] at hv h1 h3 h4
  unfold maxLen at h2
  refine ⟨g, a, cap, rfl, h1, by omega, h3 w rfl, fun hlt => ?_⟩
  cases a with
  | none => have := (h4 rfl).1; omega
  | some p =>
    obtain ⟨q, rfl⟩ := h5 p rfl
    obtain ⟨⟨x, hx, hf, hx2, hf2⟩, hL⟩ := h.put (mq i) hv (by rw [mk_len K i k i hk]; exact hlt)
    exact ⟨q, x, rfl, hx, hf, hx2, hf2, hL.eq fun j _ => mk_step K i k hlt j⟩
theorem Ls.mkNext {i : Nat} {K : Nat → List (Nat × Int)} (h : Ls w0 w vl Vs (mkd K i (K i).length)) : Ls w0 w vl Vs (mkd K (i + 1) 0) := h.eq fun j _ => mk_next K i j
theorem Ls.mkStart {K : Nat → List (Nat × Int)} (h : Ls w0 w vl Vs K) : Ls w0 w vl Vs (mkd K 0 0) := h.eq fun j _ => (mk_zero K j).symm
theorem Ls.mkEnd {K : Nat → List (Nat × Int)} (h : Ls w0 w vl Vs (mkd K Vs.length 0)) : Gs w0 w vl (.slice none 0 0) Vs [] fun j => (K j).length :=
  ⟨h.eq fun j hj => by unfold mkd; rw [if_pos hj], World.ownsRow_nil _ _ _ _, (fun k _ e => by cases e), fun j u hu => by simp at hu⟩
theorem Gs.begin {al : Option Addr} {nl cl i : Nat} (h : Gs w0 w (.slice al nl cl) vm Vs Us n) (hi : i < Vs.length) (hl : Us.length = i) :
    ∃ g a cap, al = some ⟨g, 0, none⟩ ∧ n i ≤ cap ∧ cap ≤ 9223372036854775807 ∧ w.cell? ⟨g, i, none⟩ = some (.slice a (n i) cap) ∧ Gi w0 w (.slice al nl cl) vm Vs Us n i (n i) a cap := by
  obtain ⟨a, g, cl', cap, e, hv, h1, h2, h3, h4, h5⟩ := h.ls.at hi
  simp only [Value.slice.injEq] at e
  obtain ⟨rfl, rfl, rfl⟩ := e
  rw [List.length_replicate] at hv h1 h3 h4
  unfold maxLen at h2
  exact ⟨g, a, cap, rfl, h1, by omega, h3 w rfl, h, hv, h.ls.own i _ hv, Nat.le_refl _, hl⟩
theorem Gi.here {g nl cl i ln cap : Nat} {a : Option Addr} (h : Gi w0 w (.slice (some ⟨g, 0, none⟩) nl cl) vm Vs Us n i ln a cap) : w.cell? ⟨g, i, none⟩ = some (.slice a (n i) cap) :=
  (row_cell (xs := Vs) h.gs.ls.ls h.at').1
theorem Gs.look {al am : Option Addr} {nl cl nm cm i : Nat} (h : Gs w0 w (.slice al nl cl) (.slice am nm cm) Vs Us n) (hi : i < Us.length) :
    ∃ gl gm a m c a' c', al = some ⟨gl, 0, none⟩ ∧ am = some ⟨gm, 0, none⟩ ∧ w.cell? ⟨gm, i, none⟩ = some (.slice a m c) ∧ w.cell? ⟨gl, i, none⟩ = some (.slice a' (n i) c') ∧ m ≤ 9223372036854775807 ∧ n i ≤ 9223372036854775807 ∧ n i ≤ m ∧
      (∀ k, k < m → ∃ q, a = some ⟨q, 0, none⟩ ∧ w.cell? ⟨q, k * 2, none⟩ = some (.int .u32 (i : Int)) ∧ w.cell? ⟨q, k * 2 + 1, none⟩ = some (.int .i64 77)) ∧ ∀ k, k < n i → ∃ q, a' = some ⟨q, 0, none⟩ ∧ w.cell? ⟨q, k * 2, none⟩ = some (.int .u32 (i : Int)) ∧ w.cell? ⟨q, k * 2 + 1, none⟩ = some (.int .i64 77) := by
  obtain ⟨v, m, h1, h2, h3, h4⟩ := h.mor i Us[i] (List.getElem?_eq_getElem hi)
  have hiV := (List.getElem?_eq_some_iff.1 h1).1
  obtain ⟨a', gl, cl', c', e, hv, k1, k2, k3, k4, k5⟩ := h.ls.at hiV
  simp only [Value.slice.injEq] at e
  obtain ⟨rfl, rfl, rfl⟩ := e
  rw [List.length_replicate] at hv k1 k3 k4
  unfold maxLen at k2
  obtain ⟨am', cm', em, -, -, m0, m1⟩ := row_len h.ms
  simp only [Value.slice.injEq] at em
  obtain ⟨rfl, -, rfl⟩ := em
  cases am with
  | none => have := (m0 rfl).1; omega
  | some p =>
    obtain ⟨gm, rfl, -⟩ := m1 p rfl
    have cu := (row_cell (xs := Us) h.ms (List.getElem?_eq_getElem hi)).1
    generalize Us[i] = u at *
    obtain ⟨a, c, eu, u1, u2, u3, u4⟩ := ownQ_len h2
    rw [List.length_replicate] at eu u1 u3
    subst eu
    unfold maxLen at u2
    have hov := h.ls.own i _ hv
    refine ⟨gl, gm, a, m, c, a', c', rfl, rfl, cu, k3 w rfl, by omega, by omega, h3, fun k hk => ?_, fun k hk => ?_⟩
    · cases a with
      | none => have := (u3 rfl).1; omega
      | some p =>
        obtain ⟨q, rfl, -⟩ := u4 p rfl
        obtain ⟨e1, e2, -⟩ := own_cell h2 (k := k) (x := mq i) (by rw [List.getElem?_replicate, if_pos hk])
        exact ⟨q, rfl, e1, e2⟩
    · cases a' with
      | none => have := (k4 rfl).1; omega
      | some p =>
        obtain ⟨q, rfl⟩ := k5 p rfl
        obtain ⟨e1, e2, -⟩ := own_cell hov (k := k) (x := mq i) (by rw [List.getElem?_replicate, if_pos hk])
        exact ⟨q, rfl, e1, e2⟩
end
end Go.Proofs.Ytenhofbhkchjoaa.Me
