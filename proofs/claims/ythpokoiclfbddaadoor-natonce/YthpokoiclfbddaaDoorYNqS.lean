import Derived.Test.YthpokoiclfbddaaDoorYNqR
namespace Go.Proofs.YthpokoiclfbddaaDoor.Nq
open Go.Proofs.YthpokoiclfbddaaDoor Go.ChangeShapes Go.WideShapes Go.ChangeAt Go.RowKit Fl
open Go.Proofs.YthpokoiclfbddaaDoor.N hiding But But.set But.of_below But.refl But.trans But.below But.drew wpList_ld
open Go.Shelf
set_option maxHeartbeats 2000000
set_option maxRecDepth 100000

structure Rw where
  b : Nat
  cs : Array Value
  ty : TypeId
/-- The ports, two lists of ports, rows of the law's own. -/
def Jv (B : Nat) (w u : World) (pb lo hi : Nat) (T : Nat → List Nat) (hv : Value) (L : List Po) (lv : Value) (M : List Po) (R : List Rw) : Prop :=
  ∃ F, StP u pb lo hi T F ∧ (∀ k, F k → B ≤ k) ∧ Ow.Own kQ u B hv L ∧ Ow.Own kQ u B lv M ∧ (∀ k, hv.ownBlock = some k → ¬ F k ∧ lv.ownBlock ≠ some k) ∧ (∀ k, lv.ownBlock = some k → ¬ F k) ∧
    (∀ r ∈ R, ¬ F r.b ∧ B ≤ r.b ∧ u.heap[r.b]? = some (.cells r.cs r.ty (0, 0)) ∧ hv.ownBlock ≠ some r.b ∧ lv.ownBlock ≠ some r.b) ∧ Below B w u ∧ (B ≤ w.heap.size ∧ 0 < B ∧ TabAt 0 Lib.deBruijn64tab w)
section
variable {B : Nat} {w u u' : World} {pb lo hi : Nat} {T : Nat → List Nat} {hv lv : Value} {L M : List Po} {R : List Rw}
theorem Jv.row (h : Jv B w u pb lo hi T hv L lv M R) {r : Rw} (hr : r ∈ R) : u.heap[r.b]? = some (.cells r.cs r.ty (0, 0)) := by
  obtain ⟨F, -, -, -, -, -, -, h7, -⟩ := h
  exact (h7 r hr).2.2.1
theorem Jv.bel (h : Jv B w u pb lo hi T hv L lv M R) : Below B w u := by
  obtain ⟨F, -, -, -, -, -, -, -, h8, -⟩ := h
  exact h8
theorem Jv.own (h : Jv B w u pb lo hi T hv L lv M R) : Ow.Own kQ u B hv L ∧ Ow.Own kQ u B lv M := by
  obtain ⟨F, -, -, h3, h4, -⟩ := h
  exact ⟨h3, h4⟩
theorem Jv.size (h : Jv B w u pb lo hi T hv L lv M R) : B ≤ u.heap.size := by
  obtain ⟨F, -, -, -, -, -, -, -, h8, h9⟩ := h
  exact Nat.le_trans h9.1 h8.size
theorem Jv.nd (h : Jv B w u pb lo hi T hv L lv M R) {k : Nat} (hk : k < 256) : (T k).Nodup := by
  obtain ⟨F, ⟨mo, f, h1, -⟩, -⟩ := h
  cases hf : f k with
  | none => rw [h1.no k hk hf]; exact List.nodup_nil
  | some e =>
    obtain ⟨b, W, -, -, -, h2⟩ := h1.yes k e hk hf
    exact h2.1
theorem Jv.lim (h : Jv B w u pb lo hi T hv L lv M R) : (1 ≤ lo ∧ lo ≤ hi ∧ hi < 65536) ∧ ∀ k, ∀ p ∈ T k, lo ≤ p ∧ p ≤ hi := by
  obtain ⟨F, h1, -⟩ := h
  exact ⟨h1.lim, h1.rng⟩
theorem Jv.below (h : Jv B w u pb lo hi T hv L lv M R) (hb : Below u.heap.size u u') : Jv B w u' pb lo hi T hv L lv M R := by
  obtain ⟨F, h1, h2, h3, h4, h5, h6, h7, h8, h9⟩ := h
  exact ⟨F, h1.below hb, h2, h3.below hb, h4.below hb, h5, h6, fun r hr => ⟨(h7 r hr).1, (h7 r hr).2.1, below_keeps hb (h7 r hr).2.2.1 (Array.getElem?_eq_some_iff.1 (h7 r hr).2.2.1).1, (h7 r hr).2.2.2⟩, h8.trans (hb.mono (Nat.le_trans h9.1 h8.size)), h9⟩
theorem Jv.sub (h : Jv B w u pb lo hi T hv L lv M R) {R' : List Rw} (hs : ∀ r ∈ R', r ∈ R) : Jv B w u pb lo hi T hv L lv M R' := by
  obtain ⟨F, h1, h2, h3, h4, h5, h6, h7, h8, h9⟩ := h
  exact ⟨F, h1, h2, h3, h4, h5, h6, fun r hr => h7 r (hs r hr), h8, h9⟩
theorem Jv.swap (h : Jv B w u pb lo hi T hv L lv M R) : Jv B w u pb lo hi T lv M hv L R := by
  obtain ⟨F, h1, h2, h3, h4, h5, h6, h7, h8, h9⟩ := h
  exact ⟨F, h1, h2, h4, h3, fun k hk => ⟨h6 k hk, fun e => (h5 k e).2 hk⟩, fun k hk => (h5 k hk).1, fun r hr => ⟨(h7 r hr).1, (h7 r hr).2.1, (h7 r hr).2.2.1, (h7 r hr).2.2.2.2, (h7 r hr).2.2.2.1⟩, h8, h9⟩
theorem Jv.drop (h : Jv B w u pb lo hi T hv L lv M R) : Jv B w u pb lo hi T hv L (.slice none 0 0) [] R := by
  obtain ⟨F, h1, h2, h3, h4, h5, h6, h7, h8, h9⟩ := h
  exact ⟨F, h1, h2, h3, Ow.Own.nil _ _, fun k hk => ⟨(h5 k hk).1, fun e => (by cases e)⟩, fun k e => (by cases e), fun r hr => ⟨(h7 r hr).1, (h7 r hr).2.1, (h7 r hr).2.2.1, (h7 r hr).2.2.2.1, fun e => (by cases e)⟩, h8, h9⟩
/-- A new row. -/
theorem Jv.new (h : Jv B w u pb lo hi T hv L lv M R) {o : Obj} {cs : Array Value} {ty : TypeId} (hb : But u.heap.size (u.alloc o) u') (hr : u'.heap[u.heap.size]? = some (.cells cs ty (0, 0))) : Jv B w u' pb lo hi T hv L lv M (⟨u.heap.size, cs, ty⟩ :: R) := by
  have hbl : Below u.heap.size u u' := hb.below ((Below.refl _ _).alloc (Nat.le_refl _) _) (by simp) (Nat.le_refl _)
  have hs := h.size
  obtain ⟨F0, g1, g2, g3, g4, g5, g6, g7, g8, g9⟩ := h
  obtain ⟨F, h1, h2, h3, h4, h5, h6, h7, h8, h9⟩ : Jv B w u' pb lo hi T hv L lv M R := Jv.below ⟨F0, g1, g2, g3, g4, g5, g6, g7, g8, g9⟩ hbl
  refine ⟨F0, g1.below hbl, g2, h3, h4, g5, g6, fun r hr2 => ?_, h8, h9⟩
  rcases List.mem_cons.1 hr2 with rfl | hr2
  · exact ⟨fun e => by have := g1.lt e; simp at this, hs, hr, fun e => by have := (g3.lt e).2; simp at this, fun e => by have := (g4.lt e).2; simp at this⟩
  · exact ⟨(g7 r hr2).1, (g7 r hr2).2.1, below_keeps hbl (g7 r hr2).2.2.1 (Array.getElem?_eq_some_iff.1 (g7 r hr2).2.2.1).1, (g7 r hr2).2.2.2⟩
/-- A call on the ports. -/
theorem Jv.on {T' : Nat → List Nat} {F : Nat → Prop} (h2 : ∀ k, F k → B ≤ k) (h3 : Ow.Own kQ u B hv L) (h4 : Ow.Own kQ u B lv M) (h5 : ∀ k, hv.ownBlock = some k → ¬ F k ∧ lv.ownBlock ≠ some k) (h6 : ∀ k, lv.ownBlock = some k → ¬ F k)
    (h7 : ∀ r ∈ R, ¬ F r.b ∧ B ≤ r.b ∧ u.heap[r.b]? = some (.cells r.cs r.ty (0, 0)) ∧ hv.ownBlock ≠ some r.b ∧ lv.ownBlock ≠ some r.b) (h8 : Below B w u) (h9 : B ≤ w.heap.size ∧ 0 < B ∧ TabAt 0 Lib.deBruijn64tab w)
    (hd : StPD u u' pb lo hi T' F) : Jv B w u' pb lo hi T' hv L lv M R := by
  obtain ⟨F', k1, k2, k3⟩ := hd
  have hB : B ≤ u.heap.size := Nat.le_trans h9.1 h8.size
  have hno : ∀ k, k < u.heap.size → ¬ F k → ¬ F' k := fun k hk hn e => by
    rcases k2 k e with e | e
    · exact hn e
    · omega
  refine ⟨F', k1, fun k e => ?_, h3.keeps k3 fun k e => (h5 k e).1, h4.keeps k3 h6, fun k e => ⟨hno k (h3.lt e).2 (h5 k e).1, (h5 k e).2⟩, fun k e => hno k (h4.lt e).2 (h6 k e), fun r hr => ?_, kp_below k3 h8 h2 h9.1, h9⟩
  · rcases k2 k e with e | e
    · exact h2 k e
    · omega
  · obtain ⟨a1, a2, a3, a4⟩ := h7 r hr
    have hlt := (Array.getElem?_eq_some_iff.1 a3).1
    exact ⟨hno _ hlt a1, a2, (k3.block _ hlt a1).trans a3, a4⟩
def TakI (B : Nat) (w : World) (pb lo hi : Nat) (T : Nat → List Nat) (hv : Value) (L : List Po) (lv : Value) (M : List Po) (R : List Rw) (k want : Nat) (e : Ending) (w' : World) : Prop :=
  (∃ q : Nat, e = .returned (.tuple #[.int .u16 (q : Int), .int .i64 0]) ∧ q ∉ T k ∧ lo ≤ q ∧ q ≤ hi ∧ (lo ≤ want → want ≤ hi → want ∉ T k → q = want) ∧ Jv B w w' pb lo hi (updT T k (T k ++ [q])) hv L lv M R) ∨
  (e = .returned (.tuple #[.int .u16 0, .int .i64 231]) ∧ (T k).length = hi - lo + 1 ∧ Jv B w w' pb lo hi T hv L lv M R)
theorem full_len {A : List Nat} {lo hi : Nat} (hn : A.Nodup) (h1 : ∀ p ∈ A, lo ≤ p ∧ p ≤ hi) (h2 : ∀ p, lo ≤ p → p ≤ hi → p ∈ A) (h3 : lo ≤ hi) : A.length = hi - lo + 1 := by
  have hp : A.Perm (List.range' lo (hi - lo + 1)) := (List.perm_ext_iff_of_nodup hn (List.nodup_range' (step := 1) (by omega))).2 fun p => by
    rw [List.mem_range'_1]
    exact ⟨fun e => by have := h1 p e; omega, fun e => h2 p e.1 (by omega)⟩
  have := hp.length_eq
  rw [List.length_range'] at this
  exact this
theorem Jv.take (h : Jv B w u pb lo hi T hv L lv M R) {k want : Nat} (hk : k < 256) (hw : want < 65536) :
    Calls Tryd.prog 8 #[.pointer (some ⟨pb, 0, none⟩), .int .u8 (k : Int), .int .u16 (want : Int)] u fun e w' => TakI B w pb lo hi T hv L lv M R k want e w' := by
  have hnd := h.nd hk
  have hlim := h.lim
  obtain ⟨F, h1, h2, h3, h4, h5, h6, h7, h8, h9⟩ := h
  refine (take_any pb lo hi k want T F u h1 hk hw (tab_at h9.2.2 (h8.block _ h9.2.1)) (Nat.lt_of_lt_of_le h9.2.1 (Nat.le_trans h9.1 h8.size)) (fun e => by have := h2 _ e; omega)).mono fun e w' ht => ?_
  rcases ht with ⟨q, he, t1, t2, t3, t4, t5⟩ | ⟨he, t1, t2⟩
  · refine .inl ⟨q, he, t1, t2, t3, fun a1 a2 a3 => ?_, Jv.on h2 h3 h4 h5 h6 h7 h8 h9 t5⟩
    have hs : stt lo hi want = want := by unfold stt; rw [if_neg (by omega)]
    rw [hs] at t4
    rcases t4 with ⟨b1, b2⟩ | ⟨b1, b2, -⟩
    · by_cases e : want < q
      · exact absurd (b2 want (Nat.le_refl _) e) a3
      · omega
    · exact absurd (b2 want (Nat.le_refl _) a2) a3
  · exact .inr ⟨he, full_len hnd (hlim.2 k) t1 hlim.1.2.1, Jv.on h2 h3 h4 h5 h6 h7 h8 h9 t2⟩
def GivI (B : Nat) (w : World) (pb lo hi : Nat) (T : Nat → List Nat) (hv : Value) (L : List Po) (lv : Value) (M : List Po) (R : List Rw) (k p : Nat) (e : Ending) (w' : World) : Prop :=
  (p ∉ T k ∧ e = .returned (.int .i64 231) ∧ Jv B w w' pb lo hi T hv L lv M R) ∨ (p ∈ T k ∧ e = .returned (.int .i64 0) ∧ Jv B w w' pb lo hi (out T k p) hv L lv M R)
theorem Jv.give (h : Jv B w u pb lo hi T hv L lv M R) {k p : Nat} (hk : k < 256) (hp : p < 65536) :
    Calls Tryd.prog 11 #[.pointer (some ⟨pb, 0, none⟩), .int .u8 (k : Int), .int .u16 (p : Int)] u fun e w' => GivI B w pb lo hi T hv L lv M R k p e w' := by
  have h0 := h
  obtain ⟨F, h1, h2, h3, h4, h5, h6, h7, h8, h9⟩ := h
  refine (give_any pb lo hi k p T F u h1 hk hp).mono fun e w' ht => ?_
  rcases ht with ⟨t1, he, rfl⟩ | ⟨t1, he, t2⟩
  · exact .inl ⟨t1, he, h0⟩
  · exact .inr ⟨t1, he, Jv.on h2 h3 h4 h5 h6 h7 h8 h9 t2⟩
theorem Jv.taken (h : Jv B w u pb lo hi T hv L lv M R) {k : Nat} (hk : k < 256) :
    Calls Tryd.prog 12 #[.pointer (some ⟨pb, 0, none⟩), .int .u8 (k : Int)] u fun e w' => e = .returned (.int .i64 ((T k).length : Nat)) ∧ w' = u := by
  obtain ⟨F, h1, -⟩ := h
  exact taken_any pb lo hi k T F u h1 hk
/-- The second list grew. -/
theorem Jv.push (h : Jv B w u pb lo hi T hv L lv M R) {x : Po} {v' : Value} (ho : Ow.Own kQ u' B v' (M ++ [x])) (hg : u.grownBy u' lv.ownBlock) (hn : Me.NwB lv v' u.heap.size) : Jv B w u' pb lo hi T hv L v' (M ++ [x]) R := by
  have hB := h.size
  obtain ⟨F, h1, h2, h3, h4, h5, h6, h7, h8, h9⟩ := h
  have hk : Me.Keeps (fun k => lv.ownBlock = some k) u u' := Me.Keeps.grown hg fun k e => e
  refine ⟨F, h1.keeps hk fun k e e2 => h6 k e2 e, h2, h3.keeps hk fun k e => (h5 k e).2, ho, fun k e => ⟨(h5 k e).1, fun e2 => ?_⟩, fun k e e2 => ?_, fun r hr => ?_, kp_below hk h8 (fun k e => (h4.lt e).1) h9.1, h9⟩
  · rcases hn k e2 with e3 | e3
    · exact (h5 k e).2 e3
    · have := (h3.lt e).2; omega
  · rcases hn k e with e3 | e3
    · exact h6 k e3 e2
    · have := h1.lt e2; omega
  · obtain ⟨a1, a2, a3, a4, a5⟩ := h7 r hr
    have hlt := (Array.getElem?_eq_some_iff.1 a3).1
    refine ⟨a1, a2, (hk.block _ hlt a5).trans a3, a4, fun e => ?_⟩
    rcases hn _ e with e3 | e3
    · exact a5 e3
    · omega
end
/-- How long a list without doubles can be. -/
theorem held_len {L : List Po} (hn : L.Nodup) (hok : ∀ x ∈ L, x.Ok) : L.length ≤ 16777216 := by
  have := List.Nodup.length_le_of_subset (l₂ := (List.range 256).flatMap fun a => (List.range 65536).map fun b => (⟨a, b⟩ : Po)) hn fun x hx => by
    obtain ⟨h1, h2⟩ := hok x hx
    exact List.mem_flatMap.2 ⟨x.pr, List.mem_range.2 h1, List.mem_map.2 ⟨x.n, List.mem_range.2 h2, rfl⟩⟩
  rw [List.length_flatMap] at this
  have e : (List.map (fun (_ : Nat) => 65536) (List.range 256)).sum = 16777216 := by decide +kernel
  simp at this
  rw [e] at this
  exact this
theorem ownP_some {w : World} {B : Nat} {v : Value} {L : List Po} {x : Po} (h : Ow.Own kQ w B v (L ++ [x])) : ∃ g n c, v = .slice (some ⟨g, 0, none⟩) n c := by
  rcases h.2 with ⟨_, h0⟩ | ⟨g, cap, cur, rfl, _⟩
  · simp at h0
  · exact ⟨g, _, cap, rfl⟩
theorem ex_append {P : Program} {o : Oper} {a : Act} {w : World} (d s : Operand) (t t' : TypeId)
    (ho : o.op = .call { callee := .builtin .append, args := #[d, s], argTypes := #[t, t'] }) {v u : Value} (hd : a.eval d = v) (hs : a.eval s = u) {v' : Value} {w' : World}
    (hr : (Builtin.append_ #[t, t'] o.type #[v, u]).run P w = .ok v' w') : (execOp a.eval o).run P w = .ok (.value v') w' := by
  unfold execOp
  simp only [ho, resolve, invoke, builtin, Sem.run_bind, Sem.run_pure, Result.andThen_ok, List.map_toArray, List.map_cons, List.map_nil, hd, hs, hr]
theorem build1P (x : Po) (u : World) : (Instr.buildSlice 29 1 #[(0, .agg x.cells)]).run Tryd.prog u = .ok (.slice (some ⟨u.heap.size, 0, none⟩) 1 1) (u.alloc (.cells x.cells 43)) := by kernel_rfl
theorem wpList_bsP {ops : Array Oper} {Q : Exit → Act → World → Prop} {a : Act} {w : World} {rest : List Oper} {o : Oper} (hgd : Region.wanted o (yielded ops a.tmps) = true) (x : Po) (s : Operand) (ho : o.op = .buildSlice 29 1 #[(0, s)]) (hs : a.eval s = .agg x.cells)
    (h : ∀ w', Below w.heap.size w w' → w'.heap[w.heap.size]? = some (.cells x.cells 43 (0, 0)) → wpList Tryd.prog ops Q rest (a.put o.dst (.slice (some ⟨w.heap.size, 0, none⟩) 1 1)) w') : wpList Tryd.prog ops Q (o :: rest) a w :=
  wpList_valw (ex_bslice 29 1 #[(0, s)] #[(0, .agg x.cells)] ho (by simp only [List.map_toArray, List.map_cons, List.map_nil, hs]) (build1P x w)) hgd (h _ ((Below.refl _ _).alloc (Nat.le_refl _) _) (heap_alloc_new w _))
theorem wpList_apP {ops : Array Oper} {Q : Exit → Act → World → Prop} {a : Act} {w : World} {rest : List Oper} {o : Oper} (hgd : Region.wanted o (yielded ops a.tmps) = true) (d s : Operand) (ho : o.op = .call { callee := .builtin .append, args := #[d, s], argTypes := #[29, 29] }) {B : Nat} {v : Value} {L : List Po} (x : Po) (b : Nat) {T : TypeId} (hd : a.eval d = v) (hs : a.eval s = .slice (some ⟨b, 0, none⟩) 1 1)
    (hv : Ow.Own kQ w B v L) (hb : w.heap[b]? = some (.cells x.cells T (0, 0))) (hB : B ≤ w.heap.size) (hbig : L.length + 1 ≤ 1073741824)
    (h : ∀ g' n' c' w', Ow.Own kQ w' B (.slice (some ⟨g', 0, none⟩) n' c') (L ++ [x]) → w.grownBy w' v.ownBlock → Me.NwB v (.slice (some ⟨g', 0, none⟩) n' c') w.heap.size → wpList Tryd.prog ops Q rest (a.put o.dst (.slice (some ⟨g', 0, none⟩) n' c')) w') : wpList Tryd.prog ops Q (o :: rest) a w := by
  obtain ⟨v', w', hr, ho', hg, hn⟩ := Ow.append_one (K := kQ) o.type x b hv hb hB hbig
  obtain ⟨g', n', c', rfl⟩ := ownP_some ho'
  exact wpList_valw (ex_append d s _ _ ho hd hs hr) hgd (h _ _ _ _ ho' hg hn)
end Go.Proofs.YthpokoiclfbddaaDoor.Nq
