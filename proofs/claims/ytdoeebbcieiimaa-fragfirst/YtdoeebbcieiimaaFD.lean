import Derived.Test.YtdoeebbcieiimaaFC
import Derived.Great.BuildSlice
namespace Go.Proofs.Ytdoeebbcieiimaa
open Go.ChangeShapes Go.WideShapes Go.ChangeAt Go.RowKit
set_option maxHeartbeats 1000000
set_option maxRecDepth 100000

/-- A packet with its two lists' values. -/
abbrev PkV := Pk × Value × Value
def pvCells (x : PkV) : List Value := (pkCells x.1.1 x.2.1 x.2.2).toList
theorem pv_len (x : PkV) : (pvCells x).length = 11 := rfl

structure PkOk (w : World) (base : Nat) (x : PkV) : Prop where
  opts : OwnB w base x.2.1 x.1.1.opts
  body : OwnB w base x.2.2 x.1.2
  ob : ∀ b ∈ x.1.1.opts, b < 256
  bb : ∀ b ∈ x.1.2, b < 256

/-- v is a list of packets of the call's own, each with lists of its own. -/
def PkRow (w : World) (base : Nat) (v : Value) (ps : List Pk) : Prop :=
  ∃ R : List PkV, R.map (·.1) = ps ∧ w.ownsRow base 29 11 v R.length (R.flatMap pvCells) ∧ ∀ x ∈ R, PkOk w base x

theorem pkRow_nil (w : World) (base : Nat) : PkRow w base (.slice none 0 0) [] := ⟨[], rfl, World.ownsRow_nil _ _ _ _, fun x h => by cases h⟩

theorem row_below {w w' : World} {base e s : Nat} {v : Value} {n : Nat} {xs : List Value} (h : w.ownsRow base e s v n xs) (hb : Below w.heap.size w w') : w'.ownsRow base e s v n xs :=
  World.ownsRow.kept h (below_grown hb none) (by cases hv : v.ownBlock <;> simp)

theorem row_but {w w' : World} {base e s g : Nat} {v : Value} {n : Nat} {xs : List Value} (h : w.ownsRow base e s v n xs) (hb : But g w w') (hg : g < base) : w'.ownsRow base e s v n xs := by
  refine ⟨h.1, ?_⟩
  rcases h.2 with hn | ⟨k, cap, cur, rfl, hk, hgg, rest⟩
  · exact .inl hn
  · exact .inr ⟨k, cap, cur, rfl, hk, (hb.block k (Array.getElem?_eq_some_iff.1 hgg).1 (by omega)).trans hgg, rest⟩

theorem row_low {w : World} {b b' e s : Nat} {v : Value} {n : Nat} {xs : List Value} (h : w.ownsRow b e s v n xs) (hb : b' ≤ b) : w.ownsRow b' e s v n xs := by
  refine ⟨h.1, ?_⟩
  rcases h.2 with hn | ⟨k, cap, cur, rfl, hk, rest⟩
  · exact .inl hn
  · exact .inr ⟨k, cap, cur, rfl, by omega, rest⟩

theorem PkRow.below {w w' : World} {base : Nat} {v : Value} {ps : List Pk} (h : PkRow w base v ps) (hb : Below w.heap.size w w') : PkRow w' base v ps := by
  obtain ⟨R, hR, hrow, hall⟩ := h
  exact ⟨R, hR, row_below hrow hb, fun x hx => ⟨(hall x hx).opts.below hb, (hall x hx).body.below hb, (hall x hx).ob, (hall x hx).bb⟩⟩

theorem PkRow.but {w w' : World} {base g : Nat} {v : Value} {ps : List Pk} (h : PkRow w base v ps) (hb : But g w w') (hg : g < base) : PkRow w' base v ps := by
  obtain ⟨R, hR, hrow, hall⟩ := h
  exact ⟨R, hR, row_but hrow hb hg, fun x hx => ⟨(hall x hx).opts.but hb hg, (hall x hx).body.but hb hg, (hall x hx).ob, (hall x hx).bb⟩⟩

theorem PkRow.low {w : World} {b b' : Nat} {v : Value} {ps : List Pk} (h : PkRow w b v ps) (hb : b' ≤ b) : PkRow w b' v ps := by
  obtain ⟨R, hR, hrow, hall⟩ := h
  exact ⟨R, hR, row_low hrow hb, fun x hx => ⟨(hall x hx).opts.low hb, (hall x hx).body.low hb, (hall x hx).ob, (hall x hx).bb⟩⟩

theorem PkRow.shape {w : World} {base : Nat} {v : Value} {ps : List Pk} (h : PkRow w base v ps) : ∃ ao cap, v = .slice ao ps.length cap ∧ ps.length ≤ cap ∧ cap ≤ maxLen := by
  obtain ⟨R, hR, hrow, hall⟩ := h
  have hl : ps.length = R.length := by rw [← hR, List.length_map]
  rcases hrow.2 with ⟨rfl, hn⟩ | ⟨g, cap, cur, rfl, _, _, h1, h2, _⟩
  · exact ⟨none, 0, by rw [hl, hn], by omega, by unfold maxLen; omega⟩
  · exact ⟨some ⟨g, 0, none⟩, cap, by rw [hl], by omega, h2⟩

theorem flat_at : ∀ (R : List PkV) (i j : Nat) (x : PkV), R[i]? = some x → j < 11 → (R.flatMap pvCells)[i * 11 + j]? = (pvCells x)[j]?
  | [], i, j, x, h, _ => by simp at h
  | y :: R, 0, j, x, h, hj => by
    simp at h; subst h
    rw [List.flatMap_cons, Nat.zero_mul, Nat.zero_add, List.getElem?_append_left (by rw [pv_len]; exact hj)]
  | y :: R, i + 1, j, x, h, hj => by
    rw [List.flatMap_cons, List.getElem?_append_right (by rw [pv_len]; omega), pv_len, show (i + 1) * 11 + j - 11 = i * 11 + j by omega]
    exact flat_at R i j x (by simpa using h) hj

/-- A packet of the list. -/
theorem PkRow.at {w : World} {base n cap : Nat} {ao : Option Addr} {ps : List Pk} (h : PkRow w base (.slice ao n cap) ps) (i : Nat) (hi : i < n) :
    ∃ (g : Nat) (p : Pk) (vo vb : Value), ao = some ⟨g, 0, none⟩ ∧ g < w.heap.size ∧ (∀ u : World, Below w.heap.size w u → (Instr.loadAt 29 (.pointer (some ⟨g, i * 11, none⟩))).run Try.prog u = .ok (.agg (pkCells p.1 vo vb)) u ∧ SeesB u vo p.1.opts ∧ SeesB u vb p.2) ∧ Hid (ps[i]? = some p) := by
  obtain ⟨R, hR, hrow, hall⟩ := h
  rcases hrow.2 with ⟨hv, hn⟩ | ⟨g, cap', cur, hv, hb, hg, h1, h2, h3, h4⟩
  · simp at hv; omega
  · simp at hv
    obtain ⟨rfl, hn, rfl⟩ := hv
    have hi' : i < R.length := by omega
    obtain ⟨x, hx⟩ : ∃ x, R[i]? = some x := ⟨_, List.getElem?_eq_getElem hi'⟩
    have hmem := List.mem_of_getElem? hx
    have hok := hall x hmem
    have hlt := (Array.getElem?_eq_some_iff.1 hg).1
    refine ⟨g, x.1, x.2.1, x.2.2, rfl, hlt, fun u hu => ⟨?_, (hok.opts.sees hok.ob).below hu, (hok.body.sees hok.bb).below hu⟩, by unfold Hid; rw [← hR, List.getElem?_map, hx]; rfl⟩
    have hg' : u.heap[g]? = some (.cells cur 29 (0, 0)) := (hu.block g hlt).trans hg
    obtain ⟨fs, hu29⟩ := und29
    refine run_loadAt_mid u g (i * 11) 29 (pkCells x.1.1 x.2.1 x.2.2).toList (.struct fs) (fun j v hv => ?_) hu29 rfl (by rw [sz29]; rfl)
    have hj : j < 11 := (List.getElem?_eq_some_iff.1 hv).1
    rw [cell_of_row _ _ _ _ _ _ hg']
    have e1 := flat_at R i j x hx hj
    rw [← h4, List.getElem?_take_of_lt (by omega), Array.getElem?_toList] at e1
    rw [e1]; exact hv

theorem info29 : (Try.prog.info? 29).map (fun i => (i.zero, i.size, i.bytes)) = some (some (.agg Z29), 11, 80) := by kernel_rfl

theorem OwnB.grown {w w' : World} {base : Nat} {v u : Value} {L : List Nat} {b e s n : Nat} {xs : List Value} (h : OwnB w base v L) (hg : w.grownBy w' u.ownBlock) (hrow : w.ownsRow b e s u n xs) (he : e ≠ 5) : OwnB w' base v L := by
  refine World.ownsRow.kept h hg ?_
  rcases h.2 with ⟨rfl, _⟩ | ⟨g, cap, cur, rfl, _, hgg, _⟩
  · exact .inl rfl
  · rcases hrow.2 with ⟨rfl, _⟩ | ⟨g', cap', cur', rfl, _, hgg', _⟩
    · right; simp [Value.ownBlock]
    · right
      simp only [Value.ownBlock, ne_eq, Option.some.injEq]
      rintro rfl
      rw [hgg] at hgg'
      simp at hgg'
      exact he hgg'.2.symm

theorem OwnB.one {w : World} {base : Nat} {v : Value} {L : List Nat} (h : OwnB w base v L) : v.oneCell' = true := by
  obtain ⟨ao, cap, rfl⟩ := h.shape
  rfl

theorem wpList_append_pk {w : World} {ops : Array Oper} {rest : List Oper} {o : Oper} {a : Act} {Q : Exit → Act → World → Prop} (hgd : o.guard = none) (s x : Operand)
    (ho : o.op = .call { callee := .builtin .append, args := #[s, x], argTypes := #[31, 31] })
    (base : Nat) (v : Value) (ps : List Pk) (hs : a.eval s = v) (hrow : PkRow w base v ps) (p : Pk) (vo vb : Value) (g : Nat) (hx : a.eval x = .slice (some ⟨g, 0, none⟩) 1 1)
    (hg : w.heap[g]? = some (.cells (pkCells p.1 vo vb) 29)) (hok : PkOk w base (p, vo, vb)) (hlen : ps.length ≤ 1099511627776) (hbase : base ≤ w.heap.size)
    (h : ∀ v' w', PkRow w' base v' (ps ++ [p]) → Below base w w' → wpList Try.prog ops Q rest (a.put o.dst v') w') : wpList Try.prog ops Q (o :: rest) a w := by
  obtain ⟨R, hR, hr, hall⟩ := hrow
  have hl : ps.length = R.length := by rw [← hR, List.length_map]
  obtain ⟨i0, hi0, hz0, hz1, hz2⟩ := info_parts info29
  refine wpList_append_own w hgd s x 31 ho base 29 i0 (.agg Z29) 11 80 Try.underlying31 hi0 hz0 hz1 hz2 rfl (by decide) v R.length _ hs hr ⟨g, 0, none⟩ 1 1 (pvCells (p, vo, vb)) hx rfl ?_ ?_ ?_ (by omega) hbase ?_
  · intro j u hj
    rw [Addr.add_mid, Nat.zero_add, cell_of_row _ _ _ _ _ _ hg, ← Array.getElem?_toList]
    exact hj
  · intro u hu
    obtain ⟨ao, ca, e1⟩ := hok.opts.shape
    obtain ⟨ab, cb, e2⟩ := hok.body.shape
    simp only at e1 e2
    subst e1 e2
    have := all_pk p.1 ao p.1.opts.length ca ab p.2.length cb
    exact (Array.all_eq_true_iff_forall_mem.1 this) u (by simpa [pvCells] using hu)
  · unfold maxLen; omega
  · intro v' w' ho' hgr _
    refine h v' w' ⟨R ++ [(p, vo, vb)], by rw [List.map_append, hR]; rfl, ?_, ?_⟩ ?_
    · rw [List.length_append, List.flatMap_append, show [(p, vo, vb)].flatMap pvCells = pvCells (p, vo, vb) by simp]
      exact ho'
    · intro y hy
      rcases List.mem_append.1 hy with hy | hy
      · exact ⟨(hall y hy).opts.grown hgr hr (by decide), (hall y hy).body.grown hgr hr (by decide), (hall y hy).ob, (hall y hy).bb⟩
      · simp at hy; subst hy
        exact ⟨hok.opts.grown hgr hr (by decide), hok.body.grown hgr hr (by decide), hok.ob, hok.bb⟩
    · exact (Below.refl _ _).grown hgr hbase (fun k hk => (World.ownsRow.lt hr k hk).1)
/-- A list literal of one packet. -/
theorem wpList_bs1 {ops : Array Oper} {rest : List Oper} {o : Oper} {a : Act} {w : World} {Q : Exit → Act → World → Prop} (hg : o.guard = none) (y : Operand) (ho : o.op = .buildSlice 31 1 #[(0, y)])
    (h : Hd) (vo vb : Value) (hy : a.eval y = .agg (pkCells h vo vb))
    (hh : wpList Try.prog ops Q rest (a.put o.dst (.slice (some ⟨w.heap.size, 0, none⟩) 1 1)) (w.alloc (.cells (pkCells h vo vb) 29))) : wpList Try.prog ops Q (o :: rest) a w := by
  obtain ⟨i0, hi0, hz0, hz1, hz2⟩ := info_parts info29
  refine wpList_buildSlice hg 31 29 1 #[(0, y)] ho (pkCells h vo vb) i0 (.agg Z29) Try.underlying31 hi0 hz0 (by rw [hz1]; decide) (by rw [hz1]; decide) ?_ hh
  rw [hz1]
  rw [show Array.map (fun x => (Value.agg Z29).cells[x % (Value.agg Z29).cells.size]!) (Array.range (1 * 11)) = Z29 from by rw [show Array.range (1 * 11) = #[0, 1, 2, 3, 4, 5, 6, 7, 8, 9, 10] from by decide]; simp [Z29, Value.cells]]
  simp only [List.map_toArray, List.map_cons, List.map_nil, hy]
  simp [Instr.fill, pkCells, Value.cells, Z29]
end Go.Proofs.Ytdoeebbcieiimaa
