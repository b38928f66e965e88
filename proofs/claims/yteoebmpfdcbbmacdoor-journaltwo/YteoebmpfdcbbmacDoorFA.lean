/-
  A journal beside other memory; a journal of appends.
-/
import Derived.Test.YteoebmpfdcbbmacDoorRD
namespace Jn
set_option maxRecDepth 100000

/-- A new log with these appends. -/
structure Aps (rs : List (List Nat)) (l : Lg) : Prop where
  a : l.a = []
  b : l.b = []
  cur : l.cur = 0
  gen : l.gen = 1
  fr : l.fr = rs.length
  size : l.size = 16 + baseL rs
  ws : l.ws.length = rs.length + 1
  pl : play ([], []) l.ws = (gener 1 [] ++ frames 1 0 rs, [])
theorem aps_nil : Aps [] ((⟨[], [], [], 0, 0, 0, 0⟩ : Lg).beg 0 1 []) := by
  refine ⟨rfl, rfl, rfl, rfl, rfl, rfl, rfl, ?_⟩
  show put1 ([], []) ⟨0, 0, gener 1 []⟩ (gener 1 []).length = _
  unfold put1
  rw [if_pos rfl]
  simp [frames]
theorem Aps.app {rs : List (List Nat)} {l : Lg} (h : Aps rs l) (r : List Nat) : Aps (rs ++ [r]) (l.app r) := by
  refine ⟨h.a, h.b, h.cur, h.gen, ?_, ?_, ?_, ?_⟩
  · show l.fr + 1 = _
    rw [h.fr]; simp
  · show l.size + (12 + r.length) = _
    rw [h.size, baseL_append]; simp [baseL]; omega
  · show (l.ws ++ [_]).length = _
    rw [List.length_append, h.ws]; simp
  · show play ([], []) (l.ws ++ [_]) = _
    rw [play_append, h.pl]
    show put1 _ ⟨l.cur, l.size, frame l.gen l.fr r⟩ (frame l.gen l.fr r).length = _
    unfold put1
    rw [h.cur, h.gen, h.fr, if_pos rfl]
    have e : (gener 1 [] ++ frames 1 0 rs).length = l.size := by rw [List.length_append, gener_len, frames_len, h.size]; simp [baseL]
    show ((gener 1 [] ++ frames 1 0 rs).take l.size ++ (frame 1 rs.length r).take (frame 1 rs.length r).length, []) = _
    rw [List.take_of_length_le (Nat.le_of_eq e), List.take_length, frames_append]
    simp [frames]
/-- What a Rewrite behind the appends leaves is read back. -/
theorem Aps.rew {rs qs : List (List Nat)} {l : Lg} (h : Aps rs l) (h1 : ∀ r ∈ rs, r.length ≤ 65536) (h2 : ∀ r ∈ qs, r.length ≤ 65536) (b1 : 16 + baseL rs ≤ 1048576) (b2 : 16 + baseL qs ≤ 1048576) :
    opnE (l.rew qs).syn.a (l.rew qs).syn.b = false ∧ opnR (l.rew qs).syn.a (l.rew qs).syn.b = qs := by
  have e : play ((l.rew qs).a, (l.rew qs).b) (l.rew qs).ws = (gener 1 [] ++ frames 1 0 rs, gener 2 qs) := by
    show play (l.a, l.b) (l.ws ++ [⟨1 - l.cur, 0, gener ((l.gen + 1) % 4294967296) qs⟩]) = _
    rw [h.a, h.b, h.cur, h.gen, play_append, h.pl]
    show put1 _ ⟨1, 0, gener 2 qs⟩ (gener 2 qs).length = _
    simp [put1]
  have ea : (l.rew qs).syn.a = gener 1 [] ++ frames 1 0 rs := by show (play _ _).1 = _; rw [e]
  have eb : (l.rew qs).syn.b = gener 2 qs := by show (play _ _).2 = _; rw [e]
  have r1 : rdA (gener 1 [] ++ frames 1 0 rs) = ⟨3, 1, rs, 16 + baseL [] + baseL rs⟩ := by
    have := rdA_whole (g := 1) (rs := []) (more := rs) (by decide) (by simp) h1 (by simp [baseL] at *; omega)
    simpa using this
  have r2 : rdA (gener 2 qs) = ⟨3, 2, qs, 16 + baseL qs + baseL []⟩ := by
    have := rdA_whole (g := 2) (rs := qs) (more := []) (by decide) h2 (by simp) (by simp [baseL] at *; omega)
    simpa [frames] using this
  obtain ⟨q1, -, q3⟩ := opn_of (d := (gener 1 [] ++ frames 1 0 rs, gener 2 qs)) (c := 1) (by decide) (cx := ⟨3, 2, qs, 16 + baseL qs + baseL []⟩) r2 rfl (by show 2 < _; decide) (.inr (by
    show (rdA (gener 1 [] ++ frames 1 0 rs)).st = 3 ∧ _
    rw [show area (gener 1 [] ++ frames 1 0 rs, gener 2 qs) (1 - 1) = gener 1 [] ++ frames 1 0 rs from rfl, r1]
    exact ⟨rfl, by show (1 : Nat) = (2 + 4294967295) % 4294967296; omega⟩))
  rw [ea, eb]
  exact ⟨q1, q3⟩
end Jn
namespace Go.Proofs.YteoebmpfdcbbmacDoor
open Go.ChangeShapes Go.WideShapes Go.ChangeAt Go.RowKit Jn N
set_option maxHeartbeats 4000000
set_option maxRecDepth 100000

theorem LogAt.lt {u : World} {S : Nat → Prop} {p : Nat} {l : Lg} (h : LogAt u S p l) : ∀ k, S k → k < u.heap.size := by
  obtain ⟨ga, na, ca, gb, nb, cb, vw, X, h⟩ := h
  exact h.lt
/-- A journal in memory newer than w. -/
structure Jr (w u : World) (S : Nat → Prop) (p : Nat) (l : Lg) : Prop where
  be : Below w.heap.size w u
  log : LogAt u S p l
  ok : l.Ok
  lo : ∀ k, S k → w.heap.size ≤ k
theorem Jr.left {w u u' : World} {S : Nat → Prop} {p : Nat} {l l' : Lg} (h : Jr w u S p l) (hl : Left u u' S p l') : Jr w u' (NewS S u.heap.size u') p l' := by
  have hs := h.be.size
  exact ⟨hl.kp.below h.be hs (fun k hk e => by have := h.lo k e; omega), hl.log, hl.ok, fun k hk => by
    rcases hk with hk | ⟨hk, -⟩
    · exact h.lo k hk
    · omega⟩
theorem Jr.keeps {w u u' : World} {S T : Nat → Prop} {p : Nat} {l : Lg} (h : Jr w u S p l) (hk : Keeps T u u') (hT : ∀ k, T k → ¬ S k ∧ w.heap.size ≤ k) : Jr w u' S p l :=
  ⟨hk.below h.be h.be.size (fun k hl e => by have := (hT k e).2; omega), h.log.keeps (hk.mono fun k _ e => (hT k e).1), h.ok, h.lo⟩
theorem Jr.below {w u u' : World} {S : Nat → Prop} {p : Nat} {l : Lg} (h : Jr w u S p l) (hb : Below u.heap.size u u') : Jr w u' S p l :=
  h.keeps (T := fun _ => False) (Keeps.of hb) (fun _ e => e.elim)

/-- A block of zeros and an own list of views of it, apart from S. -/
structure Rk (w u : World) (S : Nat → Prop) (gr n : Nat) (v : Value) (k : Nat) : Prop where
  row : Blk u gr 5 (List.replicate n 0)
  gl : w.heap.size ≤ gr
  gs : ¬ S gr
  own : OwnS u w.heap.size v (List.replicate k (.slice (some ⟨gr, 0, none⟩) n n))
  vs : ∀ j, v.ownBlock = some j → ¬ S j
theorem Rk.left {w u u' : World} {S : Nat → Prop} {p gr n k : Nat} {v : Value} {l' : Lg} (h : Rk w u S gr n v k) (hl : Left u u' S p l') : Rk w u' (NewS S u.heap.size u') gr n v k :=
  ⟨h.row.keep hl.kp h.gs, h.gl, fun e => by
    rcases e with e | ⟨e, -⟩
    · exact h.gs e
    · have := h.row.lt; omega, h.own.keeps hl.kp h.vs, fun j hj e => by
    rcases e with e | ⟨e, -⟩
    · exact h.vs j hj e
    · have := (World.ownsRow.lt h.own j hj).2; omega⟩
theorem Rk.below {w u u' : World} {S : Nat → Prop} {gr n k : Nat} {v : Value} (h : Rk w u S gr n v k) (hb : Below u.heap.size u u') : Rk w u' S gr n v k :=
  ⟨h.row.below hb h.row.lt, h.gl, h.gs, h.own.below hb, h.vs⟩
theorem zeros_lt {n : Nat} : ∀ y ∈ List.replicate n 0, y < 256 := fun y hy => by rw [(List.mem_replicate.1 hy).2]; decide
theorem Rk.sees {w u : World} {S : Nat → Prop} {gr n k : Nat} {v : Value} (h : Rk w u S gr n v k) (hn : n ≤ 1099511627776) : SeesB u (.slice (some ⟨gr, 0, none⟩) n n) (List.replicate n 0) :=
  h.row.sees (by simp) (by simpa using hn) zeros_lt
theorem own_seesS {u : World} {B : Nat} {v : Value} {Vs : List Value} {Ls : List (List Nat)} (h : OwnS u B v Vs) (hl : Vs.length = Ls.length) (hx : ∀ (i : Nat) x L, Vs[i]? = some x → Ls[i]? = some L → SeesB u x L) : SeesBB u v Ls := by
  obtain ⟨a, m, cap, rfl, HN, k1, k2⟩ := h.shape
  refine ⟨a, cap, by rw [HN.out, hl], by rw [← hl, ← HN.out]; exact k1, by unfold maxLen; omega, fun j hj => ?_⟩
  have hv : Vs[j]? = some Vs[j] := List.getElem?_eq_getElem (by omega)
  obtain ⟨g', rfl, -, hg, hc⟩ := h.at hv
  exact ⟨g', 0, _, rfl, hg, by rw [Nat.zero_add]; exact hc u rfl, hx j _ _ hv (List.getElem?_eq_getElem hj)⟩
theorem rep_at {α : Type} {k i : Nat} {x y : α} (h : (List.replicate k x)[i]? = some y) : y = x := by
  rw [List.getElem?_replicate] at h
  split at h
  · exact (Option.some.inj h).symm
  · cases h
theorem Rk.seesS {w u : World} {S : Nat → Prop} {gr n k : Nat} {v : Value} (h : Rk w u S gr n v k) (hn : n ≤ 1099511627776) : SeesBB u v (List.replicate k (List.replicate n 0)) :=
  own_seesS h.own (by simp) (fun i x L hx hL => by rw [rep_at hx, rep_at hL]; exact h.sees hn)

/-- append of one list behind an own list of lists: the elder value stays as it is. -/
theorem append_one (w : World) (ty : TypeId) (B b : Nat) (v x : Value) (Vs : List Value) (hv : OwnS w B v Vs) (hx : w.cell? ⟨b, 0, none⟩ = some x) (hX : ∃ a n c, x = .slice a n c) (hB : B ≤ w.heap.size) (hbig : Vs.length + 1 ≤ 4294967296) :
    ∃ v' w', (Builtin.append_ #[38, 38] ty #[v, .slice (some ⟨b, 0, none⟩) 1 1]).run Tryd.prog w = .ok v' w' ∧ OwnS w' B v' (Vs ++ [x]) ∧ w.grownBy w' v.ownBlock ∧ OwnS w' B v Vs ∧ (v'.ownBlock = v.ownBlock ∨ ∃ g, v'.ownBlock = some g ∧ w.heap.size ≤ g) := by
  have hU : AllS [x] := fun u hu => by simp at hu; subst hu; exact hX
  have hsrc : ∀ j u, [x][j]? = some u → w.cell? ⟨b, j, none⟩ = some u := fun j u hj => by
    rcases j with _ | j
    · simp at hj; subst hj; exact hx
    · simp at hj
  have hsrc' : ∀ j u, [x][j]? = some u → w.cell? ((⟨b, 0, none⟩ : Addr).add j) = some u := fun j u hj => by rw [Addr.add_mid, Nat.zero_add]; exact hsrc j u hj
  obtain ⟨v', w', hr, ho, hg⟩ := append_sl w ty B b 1 1 v Vs [x] hv rfl hsrc hU hB hbig
  obtain ⟨i0, hi0, hz0, hz1, hz2⟩ := info_parts infoS
  refine ⟨v', w', hr, ho, hg, ?_⟩
  rcases hv.2 with ⟨rfl, hv0⟩ | ⟨g, cap, cur0, rfl, hb0, hg0, hn0, hc0, hs0, ht0⟩
  · have hr2 := run_append_nil (P := Tryd.prog) w 38 ty 22 i0 _ uBB hi0 hz0 ⟨b, 0, none⟩ 1 1 [x] (by rw [hz1]; rfl) hsrc' (by decide) (by decide) (by rw [hz2]; decide)
    rw [hr2] at hr
    simp only [Result.ok.injEq] at hr
    obtain ⟨rfl, rfl⟩ := hr
    have : Vs = [] := List.eq_nil_of_length_eq_zero hv0
    subst this
    exact ⟨ownS_nil _ _, .inr ⟨w.heap.size, rfl, Nat.le_refl _⟩⟩
  · by_cases hroom : Vs.length + 1 ≤ cap
    · have hr2 := run_append_room (P := Tryd.prog) w 38 ty 22 i0 uBB hi0 g Vs.length cap cur0 hg0 ⟨b, 0, none⟩ 1 1 [x] (by rw [hz1]; rfl) hsrc' hU.one hroom (by rw [hz1, hs0]; simp; omega)
      rw [hr2] at hr
      simp only [Result.ok.injEq] at hr
      obtain ⟨rfl, rfl⟩ := hr
      have hrow := setRow_heap w g cur0 (cur0.toList.take (Vs.length * i0.size) ++ [x] ++ cur0.toList.drop (Vs.length * i0.size + [x].length)).toArray 22 (0, 0) hg0
      refine ⟨⟨hv.1, .inr ⟨g, cap, _, rfl, hb0, hrow, hn0, hc0, ?_, ?_⟩⟩, .inl rfl⟩
      · have h9 : cur0.toList.length = cap * 1 := hs0
        simp [hz1]
        simp at h9
        omega
      · have h9 : cur0.toList.length = cap * 1 := hs0
        rw [hz1]
        show List.take (Vs.length * 1) (cur0.toList.take (Vs.length * 1) ++ [x] ++ _) = Vs
        rw [List.append_assoc, List.take_append_of_le_length (by rw [List.length_take, h9]; omega), List.take_take, Nat.min_self]
        exact ht0
    · have hr2 := run_append_grow (P := Tryd.prog) w 38 ty 22 i0 _ uBB hi0 hz0 ⟨g, 0, none⟩ Vs.length cap Vs (by rw [hz1]; exact hv.1) (World.ownsRow.cells hv (g := g) rfl) ⟨b, 0, none⟩ 1 1 [x] (by rw [hz1]; rfl) hsrc' (by omega) (by omega) (growslice_fits (by omega) (by rw [hz2]; omega))
      rw [hr2] at hr
      simp only [Result.ok.injEq] at hr
      obtain ⟨rfl, rfl⟩ := hr
      have hgl := (Array.getElem?_eq_some_iff.1 hg0).1
      refine ⟨⟨hv.1, .inr ⟨g, cap, cur0, rfl, hb0, ?_, hn0, hc0, hs0, ht0⟩⟩, .inr ⟨_, rfl, by simp⟩⟩
      exact (Below.heap_alloc _ _ _ (by simpa using hgl)).trans hg0
end Go.Proofs.YteoebmpfdcbbmacDoor
