import Derived.Test.YtkkfioebpppffaaGreatDoorYFlT
namespace Go.Proofs.YtkkfioebpppffaaGreatDoor.Fl
open Go.Proofs.YtkkfioebpppffaaGreatDoor Go.ChangeShapes Go.WideShapes Go.ChangeAt Go.RowKit Go.Maps N
set_option maxHeartbeats 4000000
set_option maxRecDepth 100000

def mdC (t : Tu) (f : Nat) : Ct := if t.p = 6 then .sg t.sp t.dp f else if t.p = 1 then .ec t.sp (decide (f = 0)) else .dg t.sp t.dp
theorem mdH_ok {t : Tu} (ht : t.Ok) : (mdH t).Ok := ⟨by show 0 < 256; omega, by show 0 < 65536; omega, ⟨by show (-9223372036854775808 : Int) ≤ 0; omega, by show (0 : Int) ≤ 9223372036854775807; omega⟩, by show 9 < 256; omega, ht.p, ht.s, ht.d⟩
theorem mdB_len (t : Tu) (f : Nat) : (mdB t f).length = if t.p = 6 then 20 else 8 := by
  unfold mdB ofs
  split
  · rfl
  · split <;> rfl
theorem mdB_lt {t : Tu} (ht : t.Ok) {f : Nat} (hf : f < 256) : ∀ x ∈ mdB t f, x < 256 := by
  have h1 := ht.sp
  have h2 := ht.dp
  unfold mdB ofs
  split
  · intro x hx
    simp at hx
    omega
  · split
    · intro x hx
      simp at hx
      split at hx <;> omega
    · intro x hx
      simp at hx
      omega
theorem refE_made (t : Tu) (n : Nat) (hn : n ≤ 1000) : refE (mdH t) n = 0 := by
  have h1 : M.area (mdH t).opts = true := by show M.area [] = true; simp [M.area, M.okO]
  have h2 : M.pieceOk (mdH t).off n (mdH t).mf = true := by
    show M.pieceOk 0 n false = true
    unfold M.pieceOk
    simp
    omega
  unfold refE
  rw [h1, h2]
  simp only [if_true]
  rw [if_pos (by show 20 + 0 + n ≤ 65535; omega)]
theorem contC_made {t : Tu} (hp : t.p = 6 ∨ t.p = 1 ∨ t.p = 17) (ht : t.Ok) {f : Nat} : contC t.p (mdB t f) = some (mdC t f) := by
  have h1 := ht.sp
  have h2 := ht.dp
  have e1 : t.sp / 256 * 256 + t.sp % 256 = t.sp := by omega
  have e2 : t.dp / 256 * 256 + t.dp % 256 = t.dp := by omega
  rcases hp with h | h | h
  · unfold contC mdC mdB
    simp [h, ofs, fld, byt, e1, e2]
  · unfold contC mdC mdB
    by_cases hf : f = 0 <;> simp [h, hf, fld, byt, e1]
  · unfold contC mdC mdB
    simp [h, ofs, fld, byt, e1, e2]
theorem rdE_made {t : Tu} (hp : t.p = 6 ∨ t.p = 1 ∨ t.p = 17) (ht : t.Ok) (f : Nat) : rdE (mdH t) (mdB t f) = 0 := by
  have hl := mdB_len t f
  unfold rdE
  rw [refE_made t _ (by rw [hl]; split <;> omega), if_neg (by simp), if_neg (by show ¬ (0 : Int) < 0; omega), if_neg, show contC (mdH t).proto (mdB t f) = some (mdC t f) from contC_made hp ht]
  · rfl
  · show ¬ (mdB t f).length < least t.p
    rw [hl]
    unfold least
    rcases hp with h | h | h <;> simp [h]
theorem rdC_made {t : Tu} (hp : t.p = 6 ∨ t.p = 1 ∨ t.p = 17) (ht : t.Ok) (f : Nat) : rdC (mdH t) (mdB t f) = some (mdC t f) := by
  unfold rdC
  rw [if_pos (rdE_made hp ht f)]
  exact contC_made hp ht
theorem tup_made {t : Tu} (h1 : t.p = 1 → t.dp = t.sp) (f : Nat) : tupC (mdH t) (mdC t f) = t := by
  unfold tupC mdC mdH
  split
  · rfl
  · split
    · rename_i h
      cases t with | mk s d p sp dp =>
      simp only [Ct.src, Ct.dst, Tu.mk.injEq, true_and]
      exact (h1 h).symm
    · rfl

/-- Made, and seen. -/
theorem made_sees (t : Tu) (f : Nat) (w : World) (ht : t.Ok) (hf : f < 256) :
    Calls Tryz.prog 10 #[.agg t.cells, .int .u8 (f : Int)] w fun e w' => ∃ ao n cap, e = .returned (.agg (pkCells (mdH t) (.slice none 0 0) (.slice ao n cap))) ∧ SeesB w' (.slice ao n cap) (mdB t f) ∧ Below w.heap.size w w' := by
  refine (made_any t f w ht hf).mono ?_
  rintro e w' ⟨vb, rfl, ho, hb⟩
  obtain ⟨a, c, e, -⟩ := Me.row_len ho
  subst e
  exact ⟨a, _, c, rfl, ho.sees (mdB_lt ht hf), hb⟩
theorem pk_one (h : Hd) (a1 a2 : Option Addr) (n1 c1 n2 c2 : Nat) : (pkCells h (.slice a1 n1 c1) (.slice a2 n2 c2)).all (·.oneCell') = true := by simp [pkCells, Value.oneCell']

/-! ### a table amid a law -/
structure Rw where
  b : Nat
  cs : Array Value
  ty : TypeId
/-- The table, and rows of the law's own. -/
def Tab (B : Nat) (w u : World) (b : Nat) (lim : Int) (q : Raw) (R : List Rw) : Prop :=
  ∃ F, St u b lim q F ∧ (∀ k, F k → B ≤ k) ∧ (∀ r ∈ R, ¬ F r.b ∧ B ≤ r.b ∧ u.heap[r.b]? = some (.cells r.cs r.ty (0, 0))) ∧ Below B w u ∧ (B ≤ w.heap.size ∧ ∀ k, isTab k → k < B)
section
variable {B : Nat} {w u u' : World} {b : Nat} {lim : Int} {q q' : Raw} {R : List Rw}
theorem Tab.row (h : Tab B w u b lim q R) {r : Rw} (hr : r ∈ R) : u.heap[r.b]? = some (.cells r.cs r.ty (0, 0)) := by
  obtain ⟨F, -, -, h3, -⟩ := h
  exact (h3 r hr).2.2
theorem Tab.bel (h : Tab B w u b lim q R) : Below B w u := by
  obtain ⟨F, -, -, -, h4, -⟩ := h
  exact h4
theorem Tab.tab (h : Tab B w u b lim q R) : TabF u := by
  obtain ⟨F, h1, -⟩ := h
  exact h1.tab
theorem Tab.below (h : Tab B w u b lim q R) (hb : Below u.heap.size u u') : Tab B w u' b lim q R := by
  obtain ⟨F, h1, h2, h3, h4, h5⟩ := h
  exact ⟨F, h1.below hb, h2, fun r hr => ⟨(h3 r hr).1, (h3 r hr).2.1, below_keeps hb (h3 r hr).2.2 (Array.getElem?_eq_some_iff.1 (h3 r hr).2.2).1⟩, h4.trans (hb.mono (Nat.le_trans h5.1 h4.size)), h5⟩
theorem Tab.sub (h : Tab B w u b lim q R) {R' : List Rw} (hs : ∀ r ∈ R', r ∈ R) : Tab B w u b lim q R' := by
  obtain ⟨F, h1, h2, h3, h4, h5⟩ := h
  exact ⟨F, h1, h2, fun r hr => h3 r (hs r hr), h4, h5⟩
/-- A new row of one's own, written whole. -/
theorem Tab.new (h : Tab B w u b lim q R) {o : Obj} {cs : Array Value} {ty : TypeId} (hb : But u.heap.size (u.alloc o) u') (hr : u'.heap[u.heap.size]? = some (.cells cs ty (0, 0))) : Tab B w u' b lim q (⟨u.heap.size, cs, ty⟩ :: R) := by
  have hbl : Below u.heap.size u u' := hb.below ((Below.refl _ _).alloc (Nat.le_refl _) _) (by simp) (Nat.le_refl _)
  obtain ⟨F, h1, h2, h3, h4, h5⟩ := h.below hbl
  obtain ⟨F0, g1, g2, g3, g4, g5⟩ := h
  refine ⟨F0, g1.below hbl, g2, fun r hr2 => ?_, h4, h5⟩
  rcases List.mem_cons.1 hr2 with rfl | hr2
  · exact ⟨fun e => by have := g1.lt e; simp at this, Nat.le_trans g5.1 g4.size, hr⟩
  · exact ⟨(g3 r hr2).1, (g3 r hr2).2.1, below_keeps hbl (g3 r hr2).2.2 (Array.getElem?_eq_some_iff.1 (g3 r hr2).2.2).1⟩
/-- A row of one's own is written. -/
theorem Tab.put (h : Tab B w u b lim q R) {r r' : Rw} {R' : List Rw} (hm : r ∈ R) (hk : Me.Keeps (fun k => k = r.b) u u') (hr : u'.heap[r.b]? = some (.cells r'.cs r'.ty (0, 0))) (he : r'.b = r.b) (hR : ∀ x ∈ R', x = r' ∨ (x ∈ R ∧ x.b ≠ r.b)) : Tab B w u' b lim q R' := by
  obtain ⟨F, h1, h2, h3, h4, h5⟩ := h
  have hB := (h3 r hm).2.1
  refine ⟨F, h1.keeps hk (fun k e e2 => (h3 r hm).1 (e2 ▸ e)) (fun k e e2 => ?_), h2, fun x hx => ?_, ⟨hk.os.trans h4.os, hk.tape.trans h4.tape, hk.output.trans h4.output, Nat.le_trans h4.size hk.size, fun k hkb => (hk.block k (by have := h4.size; have := h5.1; omega) (by omega)).trans (h4.block k hkb)⟩, h5⟩
  · have := h5.2 k e; omega
  · rcases hR x hx with rfl | ⟨hx1, hx2⟩
    · rw [he]
      exact ⟨(h3 r hm).1, hB, hr⟩
    · refine ⟨(h3 x hx1).1, (h3 x hx1).2.1, (hk.block _ (Array.getElem?_eq_some_iff.1 (h3 x hx1).2.2).1 hx2).trans (h3 x hx1).2.2⟩
/-- A call on the table. -/
theorem Tab.call {f : FuncId} {args : Array Value} {P : Ending → Prop} (h : Tab B w u b lim q R) (hc : ∀ F', St u b lim q F' → Calls Tryz.prog f args u fun e w' => P e ∧ StD u w' b lim q' F') :
    Calls Tryz.prog f args u fun e w' => P e ∧ Tab B w w' b lim q' R := by
  obtain ⟨F, h1, h2, h3, h4, h5⟩ := h
  refine (hc F h1).mono fun e w' ⟨hp, F2, k1, k2, k3⟩ => ⟨hp, F2, k1, fun k e => ?_, fun r hr => ?_, ?_, h5⟩
  · rcases k2 k e with e | e
    · exact h2 k e
    · have := h4.size; have := h5.1; omega
  · have hlt := (Array.getElem?_eq_some_iff.1 (h3 r hr).2.2).1
    refine ⟨fun e => ?_, (h3 r hr).2.1, (k3.block _ hlt (h3 r hr).1).trans (h3 r hr).2.2⟩
    rcases k2 _ e with e | e
    · exact (h3 r hr).1 e
    · omega
  · exact ⟨k3.os.trans h4.os, k3.tape.trans h4.tape, k3.output.trans h4.output, Nat.le_trans h4.size k3.size, fun k hk => (k3.block k (by have := h4.size; have := h5.1; omega) fun e => by have := h2 k e; omega).trans (h4.block k hk)⟩
end

/-! ### one flow -/
structure One (q : Raw) (x bk : Tu) (st : Nat) (til : Int) : Prop where
  fx : q.f x = some 1
  fb : q.f bk = some 1
  fk : ∀ t k, q.f t = some k → k = 1
  g1 : q.g 1 = some ⟨x, bk, st, til⟩
  gk : ∀ k f, q.g k = some f → k = 1 ∧ f = ⟨x, bk, st, til⟩
  cg : q.cg = 1
theorem in64_one : Tm.In64 1 := ⟨by omega, by omega⟩

theorem open_one {x bk : Tu} {h : Hd} {B : List Nat} {c : Ct} {now : Int} (hc : rdC h B = some c) (ht : tupC h c = x) (hf : (fst0 c).2 = true) (hp : bk.p = x.p) (hn : bk ≠ x) :
    opnE 1 q0 x bk h B = 0 ∧ One (opnR 1 q0 x bk h B now) x bk (fst0 c).1 (Tm.aft now (spanF (fst0 c).1 x.p)) := by
  have e0 : opnE 1 q0 x bk h B = 0 := by
    unfold opnE; rw [hc]; simp only
    rw [if_neg (by simp [ht]), if_neg (by simp [hf, hp, hn]), if_neg (by simp [q0]), if_neg (by simp [q0])]
  refine ⟨e0, ?_⟩
  unfold opnR opnQ
  rw [if_pos e0, hc]
  have hx : ∀ t k, (keepQ 1 (numQ (numQ { q0 with last := q0.last + 1 } x) bk) (q0.last + 1) (kpF ⟨x, bk, (fst0 c).1, 0⟩ now)).f t = some k → k = 1 := fun t k e => by
    simp only [keepQ, numQ, upN, q0] at e
    split at e
    · simpa using e.symm
    · split at e
      · simpa using e.symm
      · cases e
  refine ⟨?_, ?_, hx, ?_, fun k f e => ?_, ?_⟩
  · simp only [keepQ, numQ, upN, q0]
    rw [if_neg (Ne.symm hn)]; simp
  · simp [keepQ, numQ, upN, q0]
  · simp [keepQ, numQ, upG, q0, kpF]
  · simp only [keepQ, numQ, upG, q0] at e
    split at e
    · rename_i hk
      exact ⟨hk, by simpa [kpF] using e.symm⟩
    · cases e
  · simp [keepQ, numQ, q0]

theorem move_one {q : Raw} {x bk y : Tu} {st : Nat} {til now : Int} {h : Hd} {B : List Nat} {c : Ct} (o : One q x bk st til) (hy : y = x ∨ y = bk) (hc : rdC h B = some c) (ht : tupC h c = y) (hm : (nxt st c (decide (y = bk))).2 = true) :
    ∃ q', movP 1 q h B now = (⟨x, bk, (nxt st c (decide (y = bk))).1, Tm.aft now (spanF (nxt st c (decide (y = bk))).1 x.p)⟩, 0, q') ∧ One q' x bk (nxt st c (decide (y = bk))).1 (Tm.aft now (spanF (nxt st c (decide (y = bk))).1 x.p)) := by
  have hf : q.f y = some 1 := by
    rcases hy with rfl | rfl
    · exact o.fx
    · exact o.fb
  refine ⟨keepQ 1 q 1 (kpF (stw ⟨x, bk, st, til⟩ (nxt st c (decide (y = bk))).1) now), ?_, ?_⟩
  · unfold movP
    rw [hc]; simp only
    rw [ht, hf]; simp only
    rw [o.g1]
    simp only [Option.getD_some]
    rw [if_pos hm]
    rfl
  · refine ⟨o.fx, o.fb, o.fk, ?_, fun k f e => ?_, ?_⟩
    · simp [keepQ, upG, kpF, stw]
    · simp only [keepQ, upG] at e
      split at e
      · rename_i hk
        exact ⟨hk, by simpa [kpF, stw] using e.symm⟩
      · rename_i hne
        exact absurd (o.gk k f e).1 hne
    · simp [keepQ, o.g1, o.cg]
end Go.Proofs.YtkkfioebpppffaaGreatDoor.Fl
