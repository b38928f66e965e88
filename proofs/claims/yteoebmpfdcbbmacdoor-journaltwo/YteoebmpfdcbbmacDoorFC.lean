/-
  JournalFills: its calls.
-/
import Derived.Test.YteoebmpfdcbbmacDoorFB
namespace Go.Proofs.YteoebmpfdcbbmacDoor
open Go.ChangeShapes Go.WideShapes Go.ChangeAt Go.RowKit Jn N
set_option maxHeartbeats 4000000
set_option maxRecDepth 100000

theorem Jr.since {w w1 u : World} {S : Nat → Prop} {p : Nat} {l : Lg} (h : Jr w1 u S p l) (hb : Below w.heap.size w w1) : Jr w u S p l :=
  ⟨hb.trans (h.be.mono hb.size), h.log, h.ok, fun k hk => Nat.le_trans hb.size (h.lo k hk)⟩
theorem Jr.pos {w u : World} {S : Nat → Prop} {p : Nat} {l : Lg} (h : Jr w u S p l) (ht : TabN w) : ∀ k, S k → 0 < k := fun k hk => Nat.lt_of_lt_of_le ht.2 (h.lo k hk)
theorem Jr.app_ok {w u : World} {S : Nat → Prop} {p : Nat} {l : Lg} {v : Value} {r : List Nat} (h : Jr w u S p l) (ht : TabN w) (hv : SeesB u v r) (hw : l.ws.length + 1 ≤ 3000000000000) (h1 : r.length ≤ 65536) (h2 : l.size + (12 + r.length) ≤ 1048576) :
    Calls Tryd.prog 22 #[.pointer (some ⟨p, 0, none⟩), v] u fun e w' => e = .returned (.int .i64 0) ∧ Left u w' S p (l.app r) := by
  have h0 : appE l r = 0 := by unfold appE; rw [if_neg (by omega), if_neg (by omega)]
  have := append_any S p l v r u h.log h.ok hv hw (ht.below h.be ht.2) (h.pos ht)
  rw [h0, show appL l r = l.app r by unfold appL; rw [if_pos h0]] at this
  exact this
theorem Jr.app_full {w u : World} {S : Nat → Prop} {p : Nat} {l : Lg} {v : Value} {r : List Nat} (h : Jr w u S p l) (ht : TabN w) (hv : SeesB u v r) (hw : l.ws.length + 1 ≤ 3000000000000) (h1 : r.length ≤ 65536) (h2 : 1048576 < l.size + (12 + r.length)) :
    Calls Tryd.prog 22 #[.pointer (some ⟨p, 0, none⟩), v] u fun e w' => e = .returned (.int .i64 4) ∧ Left u w' S p l := by
  have h0 : appE l r = 4 := by unfold appE; rw [if_neg (by omega), if_pos (by omega)]
  have := append_any S p l v r u h.log h.ok hv hw (ht.below h.be ht.2) (h.pos ht)
  rw [h0, show appL l r = l by unfold appL; rw [h0]; rfl] at this
  exact this
theorem Jr.app_long {w u : World} {S : Nat → Prop} {p : Nat} {l : Lg} {v : Value} {r : List Nat} (h : Jr w u S p l) (ht : TabN w) (hv : SeesB u v r) (hw : l.ws.length + 1 ≤ 3000000000000) (h1 : 65536 < r.length) :
    Calls Tryd.prog 22 #[.pointer (some ⟨p, 0, none⟩), v] u fun e w' => e = .returned (.int .i64 2) ∧ Left u w' S p l := by
  have h0 : appE l r = 2 := by unfold appE; rw [if_pos h1]
  have := append_any S p l v r u h.log h.ok hv hw (ht.below h.be ht.2) (h.pos ht)
  rw [h0, show appL l r = l by unfold appL; rw [h0]; rfl] at this
  exact this
theorem any_short {rs : List (List Nat)} (h : ∀ r ∈ rs, r.length ≤ 65536) : rs.any (fun r => decide (65536 < r.length)) = false := by
  rw [List.any_eq_false]
  intro r hr
  have := h r hr
  simp
  omega
theorem Jr.rew_ok {w u : World} {S : Nat → Prop} {p : Nat} {l : Lg} {v : Value} {rs : List (List Nat)} (h : Jr w u S p l) (ht : TabN w) (hv : SeesBB u v rs) (hrl : rs.length ≤ 8796093022208) (hw : l.ws.length + 1 ≤ 3000000000000) (h1 : ∀ r ∈ rs, r.length ≤ 65536) (h2 : 16 + baseL rs ≤ 1048576) :
    Calls Tryd.prog 28 #[.pointer (some ⟨p, 0, none⟩), v] u fun e w' => e = .returned (.int .i64 0) ∧ Left u w' S p (l.rew rs) := by
  have h0 : rewE rs = 0 := by unfold rewE; rw [any_short h1, if_neg (by decide), if_neg (by omega)]
  have := rewrite_any S p l v rs u h.log h.ok hv hrl hw (ht.below h.be ht.2)
  rw [h0, show rewL l rs = l.rew rs by unfold rewL; rw [if_pos h0]] at this
  exact this
theorem Jr.rew_full {w u : World} {S : Nat → Prop} {p : Nat} {l : Lg} {v : Value} {rs : List (List Nat)} (h : Jr w u S p l) (ht : TabN w) (hv : SeesBB u v rs) (hrl : rs.length ≤ 8796093022208) (hw : l.ws.length + 1 ≤ 3000000000000) (h1 : ∀ r ∈ rs, r.length ≤ 65536) (h2 : 1048576 < 16 + baseL rs) :
    Calls Tryd.prog 28 #[.pointer (some ⟨p, 0, none⟩), v] u fun e w' => e = .returned (.int .i64 4) ∧ Left u w' S p l := by
  have h0 : rewE rs = 4 := by unfold rewE; rw [any_short h1, if_neg (by decide), if_pos h2]
  have := rewrite_any S p l v rs u h.log h.ok hv hrl hw (ht.below h.be ht.2)
  rw [h0, show rewL l rs = l by unfold rewL; rw [h0]; rfl] at this
  exact this

theorem Blk.left {u u' : World} {S : Nat → Prop} {p g : Nat} {l' : Lg} {X : List Nat} {T : TypeId} (h : Blk u g T X) (hs : ¬ S g) (hl : Left u u' S p l') : Blk u' g T X ∧ ¬ NewS S u.heap.size u' g :=
  ⟨h.keep hl.kp hs, fun e => by
    rcases e with e | ⟨e, -⟩
    · exact hs e
    · have := h.lt; omega⟩

/-- A journal, the block of zeros and the list of views of it. -/
structure FlS (w : World) (p gr n k : Nat) (r : Value) (u : World) (S : Nat → Prop) (l : Lg) : Prop where
  jr : Jr w u S p l
  rk : Rk w u S gr n r k
theorem FlS.left {w u u' : World} {p gr n k : Nat} {r : Value} {S : Nat → Prop} {l l' : Lg} (h : FlS w p gr n k r u S l) (hl : Left u u' S p l') : FlS w p gr n k r u' (NewS S u.heap.size u') l' := ⟨h.jr.left hl, h.rk.left hl⟩
theorem FlS.below {w u u' : World} {p gr n k : Nat} {r : Value} {S : Nat → Prop} {l : Lg} (h : FlS w p gr n k r u S l) (hb : Below u.heap.size u u') : FlS w p gr n k r u' S l := ⟨h.jr.below hb, h.rk.below hb⟩

/-- append(recs, x): what it answers, and that all else stays. -/
theorem FlS.add {w u : World} {p gr n k : Nat} {r : Value} {S : Nat → Prop} {l : Lg} (h : FlS w p gr n k r u S l) (x : Value) (hX : ∃ a n c, x = .slice a n c) (hk : k + 1 ≤ 4294967296) :
    ∃ v' u', (Builtin.append_ #[38, 38] 38 #[r, .slice (some ⟨u.heap.size, 0, none⟩) 1 1]).run Tryd.prog (u.alloc (.cells #[x] 22)) = .ok v' u' ∧
      OwnS u' w.heap.size v' (List.replicate k (.slice (some ⟨gr, 0, none⟩) n n) ++ [x]) ∧ FlS w p gr n k r u' S l ∧ (∀ j, v'.ownBlock = some j → ¬ S j) ∧ Keeps (fun j => r.ownBlock = some j) u u' := by
  have hb : Below u.heap.size u (u.alloc (.cells #[x] 22)) := (Below.refl _ _).alloc (Nat.le_refl _) _
  have h5 := h.below hb
  have hc : (u.alloc (.cells #[x] 22)).cell? ⟨u.heap.size, 0, none⟩ = some x := by rw [cell_of_row _ _ _ _ _ _ (heap_alloc_new u _)]; rfl
  obtain ⟨v', u', hr, ho, hg, hold, hnb⟩ := append_one _ 38 w.heap.size u.heap.size r x _ h5.rk.own hc hX h5.jr.be.size (by simpa using hk)
  have hK : Keeps (fun j => r.ownBlock = some j) (u.alloc (.cells #[x] 22)) u' := Keeps.grown hg (fun j e => e)
  have hT : ∀ j, r.ownBlock = some j → ¬ S j ∧ w.heap.size ≤ j := fun j e => ⟨h5.rk.vs j e, (World.ownsRow.lt h5.rk.own j e).1⟩
  refine ⟨v', u', hr, ho, ⟨h5.jr.keeps hK hT, h5.rk.row.keep hK (fun e => h5.rk.own.ne_of h5.rk.row (by decide) e), h5.rk.gl, h5.rk.gs, hold, h5.rk.vs⟩, fun j hj hS => ?_, (Keeps.of hb).trans hK⟩
  rcases hnb with e | ⟨g, e, hg⟩
  · exact h5.rk.vs j (e ▸ hj) hS
  · rw [hj] at e
    have : j = g := Option.some.inj e
    have := h5.jr.log.lt j hS
    omega
theorem FlS.next {w u : World} {p gr n k : Nat} {r v' : Value} {S : Nat → Prop} {l : Lg} (h : FlS w p gr n k r u S l) (ho : OwnS u w.heap.size v' (List.replicate k (.slice (some ⟨gr, 0, none⟩) n n) ++ [.slice (some ⟨gr, 0, none⟩) n n])) (hv : ∀ j, v'.ownBlock = some j → ¬ S j) : FlS w p gr n (k + 1) v' u S l :=
  ⟨h.jr, h.rk.row, h.rk.gl, h.rk.gs, by rw [List.replicate_succ']; exact ho, hv⟩
/-- The records and one behind them, as they are seen. -/
theorem FlS.seesX {w u : World} {p gr n k : Nat} {r v' x : Value} {L : List Nat} {S : Nat → Prop} {l : Lg} (h : FlS w p gr n k r u S l) (hn : n ≤ 1099511627776) (ho : OwnS u w.heap.size v' (List.replicate k (.slice (some ⟨gr, 0, none⟩) n n) ++ [x])) (hx : SeesB u x L) : SeesBB u v' (List.replicate k (List.replicate n 0) ++ [L]) :=
  own_seesS ho (by simp) (fun i y M hy hM => by
    by_cases hi : i < k
    · rw [List.getElem?_append_left (by simpa using hi)] at hy hM
      rw [rep_at hy, rep_at hM]
      exact h.rk.sees hn
    · rw [List.getElem?_append_right (by simpa using hi)] at hy hM
      rw [List.length_replicate] at hy hM
      rcases hj : i - k with _ | j
      · rw [hj] at hy hM
        simp at hy hM
        rw [← hy, ← hM]; exact hx
      · rw [hj] at hy; simp at hy)
theorem wpList_append_want {P : Program} (w : World) {ops : Array Oper} {rest : List Oper} {o : Oper} {a : Act} {Q : Exit → Act → World → Prop} (hw : Region.wanted o (yielded ops a.tmps) = true) (d s : Operand) (t t' : TypeId)
    (ho : o.op = .call { callee := .builtin .append, args := #[d, s], argTypes := #[t, t'] }) (v u : Value) (hd : a.eval d = v) (hs : a.eval s = u) {v' : Value} {w' : World}
    (hr : (Builtin.append_ #[t, t'] o.type #[v, u]).run P w = .ok v' w') (h : wpList P ops Q rest (a.put o.dst v') w') : wpList P ops Q (o :: rest) a w :=
  wpList_step fun K hK => by
    simp only [hw, if_true]
    unfold Oper.wp execOp
    simp only [ho, resolve, invoke, builtin, Sem.run_bind, Sem.run_pure, Result.andThen_ok, List.map_toArray, List.map_cons, List.map_nil, hd, hs, hr]
    exact hK _ _ h
def lenV : Value → Nat
  | .slice _ n _ => n
  | _ => 0
theorem zs_short {k n : Nat} (hn : n ≤ 65536) : ∀ r ∈ List.replicate k (List.replicate n 0), r.length ≤ 65536 := fun r hr => by rw [(List.mem_replicate.1 hr).2]; simpa using hn
theorem zsx_short {k n : Nat} {L : List Nat} (hn : n ≤ 65536) (hL : L.length ≤ 65536) : ∀ r ∈ List.replicate k (List.replicate n 0) ++ [L], r.length ≤ 65536 := fun r hr => by
  rcases List.mem_append.1 hr with h | h
  · exact zs_short hn r h
  · simp at h; subst h; exact hL
theorem base_one (rs : List (List Nat)) (L : List Nat) : baseL (rs ++ [L]) = baseL rs + (12 + L.length) := by rw [baseL_append]; simp [baseL]
end Go.Proofs.YteoebmpfdcbbmacDoor
