import Derived.Test.YtdoeebbcieiimaaFG
namespace Go.Proofs.Ytdoeebbcieiimaa
open Go.ChangeShapes Go.WideShapes Go.ChangeAt Go.RowKit
set_option maxHeartbeats 4000000
set_option maxRecDepth 100000

theorem wpList_append_pkK {w : World} {ops : Array Oper} {rest : List Oper} {o : Oper} {a : Act} {Q : Exit → Act → World → Prop} (hgd : o.guard = none) (s x : Operand)
    (ho : o.op = .call { callee := .builtin .append, args := #[s, x], argTypes := #[31, 31] })
    (base : Nat) (v : Value) (ps : List Pk) (hs : a.eval s = v) (hrow : PkRow w base v ps) (p : Pk) (vo vb : Value) (g : Nat) (hx : a.eval x = .slice (some ⟨g, 0, none⟩) 1 1)
    (hg : w.heap[g]? = some (.cells (pkCells p.1 vo vb) 29)) (hok : PkOk w base (p, vo, vb)) (hlen : ps.length ≤ 1099511627776) (hbase : base ≤ w.heap.size)
    (h : ∀ v' w', PkRow w' base v' (ps ++ [p]) → Below base w w' → (∀ (b : Nat) (u : Value) (L : List Nat), OwnB w b u L → OwnB w' b u L) → wpList Try.prog ops Q rest (a.put o.dst v') w') : wpList Try.prog ops Q (o :: rest) a w := by
  obtain ⟨R, hR, hr, hall⟩ := hrow
  have hl : ps.length = R.length := by rw [← hR, List.length_map]
  obtain ⟨i0, hi0, hz0, hz1, hz2⟩ := info_parts info29
  refine wpList_append_own w hgd s x 31 ho base 29 i0 (.agg Z29) 11 80 Try.underlying31 hi0 hz0 hz1 hz2 rfl (by decide) v R.length _ hs hr ⟨g, 0, none⟩ 1 1 (pvCells (p, vo, vb)) hx rfl ?_ ?_ ?_ (by omega) hbase ?_
  · intro j u hj
    rw [Addr.add_mid, Nat.zero_add, cell_of_row _ _ _ _ _ _ hg, ← Array.getElem?_toList]
    exact hj
  · intro u hu
    obtain ⟨ao, ca, e1⟩ := hok.opts.shape
    obtain ⟨ab, cb, e2⟩ := hok.body.shape
    simp only at e1 e2
    subst e1 e2
    have := all_pk p.1 ao p.1.opts.length ca ab p.2.length cb
    exact (Array.all_eq_true_iff_forall_mem.1 this) u (by simpa [pvCells] using hu)
  · unfold maxLen; omega
  · intro v' w' ho' hgr _
    refine h v' w' ⟨R ++ [(p, vo, vb)], by rw [List.map_append, hR]; rfl, ?_, ?_⟩ ?_ (fun b u L hO => hO.grown hgr hr (by decide))
    · rw [List.length_append, List.flatMap_append, show [(p, vo, vb)].flatMap pvCells = pvCells (p, vo, vb) by simp]
      exact ho'
    · intro y hy
      rcases List.mem_append.1 hy with hy | hy
      · exact ⟨(hall y hy).opts.grown hgr hr (by decide), (hall y hy).body.grown hgr hr (by decide), (hall y hy).ob, (hall y hy).bb⟩
      · simp at hy; subst hy
        exact ⟨hok.opts.grown hgr hr (by decide), hok.body.grown hgr hr (by decide), hok.ob, hok.bb⟩
    · exact (Below.refl _ _).grown hgr hbase (fun k hk => (World.ownsRow.lt hr k hk).1)

/-- What holds at each turn of the reference's cutting. -/
structure RTurn (w wr : World) (base : Nat) (h : Hd) (vo : Value) (B later : List Nat) (mtu : Nat) (total ps : List Pk) (vp : Value) (O : List Nat) (k : Nat) : Prop where
  ol : O.length ≤ 40
  kl : k ≤ B.length
  eq : ∃ f, (B.drop k).length ≤ f ∧ ps ++ cutL later mtu f (partH h k O h.mf) (B.drop k) = total
  how : (ps = [] ∧ vp = vo ∧ O = h.opts ∧ k = 0) ∨ (ps ≠ [] ∧ OwnB wr base vp O ∧ O = later ∧ h.df = false)

theorem RTurn.sees {w wr : World} {base : Nat} {h : Hd} {vo vp : Value} {B later O : List Nat} {mtu k : Nat} {total ps : List Pk} (t : RTurn w wr base h vo B later mtu total ps vp O k) (hso : SeesB w vo h.opts) (hb : Below w.heap.size w wr) (hl : ∀ x ∈ later, x < 256) : SeesB wr vp O := by
  rcases t.how with ⟨_, rfl, rfl, _⟩ | ⟨_, ho, rfl, _⟩
  · exact hso.below hb
  · exact ho.sees hl

theorem RTurn.last {w wr : World} {base : Nat} {h : Hd} {vo vp : Value} {B later O : List Nat} {mtu k : Nat} {total ps : List Pk} (t : RTurn w wr base h vo B later mtu total ps vp O k) (hf : 20 + O.length + (B.length - k) ≤ mtu) : ps ++ [(partH h k O h.mf, B.drop k)] = total := by
  obtain ⟨f, _, e⟩ := t.eq
  rw [cutL_fits (by show 20 + O.length + _ ≤ _; rw [List.length_drop]; exact hf)] at e
  exact e

theorem RTurn.more {w wr w' : World} {base : Nat} {h : Hd} {vo vp vp' : Value} {B later O : List Nat} {mtu k : Nat} {total ps : List Pk} (t : RTurn w wr base h vo B later mtu total ps vp O k) (hm : 68 ≤ mtu) (hl : later.length ≤ 40) (hf : ¬ 20 + O.length + (B.length - k) ≤ mtu) (hd : h.df = false) (n : Nat) (hn : n = (mtu - (20 + O.length)) / 8 * 8)
    (ho' : OwnB w' base vp' later) : RTurn w w' base h vo B later mtu total (ps ++ [(partH h k O true, (B.take (k + n)).drop k)]) vp' later (k + n) ∧ ps.length + 2 ≤ total.length := by
  have hf' : ¬ 20 + (partH h k O h.mf).opts.length + (B.drop k).length ≤ mtu := by show ¬ 20 + O.length + _ ≤ _; rw [List.length_drop]; exact hf
  have hn' : rmOf (partH h k O h.mf) mtu = n := hn.symm
  obtain ⟨r1, r2, r3⟩ := rm_le hf'
  have r4 := rm_pos (h := partH h k O h.mf) t.ol hm
  rw [hn'] at r1 r2 r3 r4
  rw [List.length_drop] at r1
  obtain ⟨f, hf1, e⟩ := t.eq
  rw [cutL_more hf' hf1 hm t.ol, hn'] at e
  have e1 : nextH (partH h k O h.mf) n later = partH h (k + n) later h.mf := by
    unfold nextH partH
    simp
    omega
  have e2 : (B.drop k).drop n = B.drop (k + n) := by rw [List.drop_drop]
  have e3 : (B.drop k).take n = (B.take (k + n)).drop k := by rw [List.drop_take]; congr 1; omega
  have e4 : frontH (partH h k O h.mf) = partH h k O true := rfl
  rw [e1, e2, e3, e4] at e
  have hkl := t.kl
  rw [List.length_drop] at hf1
  refine ⟨⟨hl, by omega, ⟨f - 1, by rw [List.length_drop]; omega, by rw [List.append_assoc]; exact e⟩, .inr ⟨by simp, ho', rfl, hd⟩⟩, ?_⟩
  rw [← e, List.length_append, List.length_cons]
  have : 1 ≤ (cutL later mtu (f - 1) (partH h (k + n) later h.mf) (B.drop (k + n))).length := by
    cases f - 1 with
    | zero => simp [cutL]
    | succ k => rw [cutL]; split <;> simp
  omega

theorem cutL_len {later : List Nat} {mtu : Nat} : ∀ (f : Nat) (h : Hd) (B : List Nat), (cutL later mtu f h B).length ≤ f + 1 := by
  intro f
  induction f with
  | zero => intro h B; simp [cutL]
  | succ f ih =>
    intro h B
    rw [cutL]
    split
    · simp
    · rw [List.length_cons]
      have := ih (nextH h (rmOf h mtu) later) (B.drop (rmOf h mtu))
      omega

theorem partH_zero (h : Hd) : partH h 0 h.opts h.mf = h := by unfold partH; simp
end Go.Proofs.Ytdoeebbcieiimaa
