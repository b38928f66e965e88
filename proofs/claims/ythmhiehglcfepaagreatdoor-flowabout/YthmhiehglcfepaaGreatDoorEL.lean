import Derived.Test.YthmhiehglcfepaaGreatDoorYFwG
namespace Go.Proofs.YthmhiehglcfepaaGreatDoor.Fl
open Go.Proofs.YthmhiehglcfepaaGreatDoor Go.ChangeShapes Go.WideShapes Go.ChangeAt Go.RowKit Go.Maps N
open Go.Shelf Go.Lib
set_option maxHeartbeats 4000000
set_option maxRecDepth 100000

/-- Known values, and a slice of one flow that was made. -/
def FS (l : List Value) (i0 : Nat) (f : Fw) (_ : Unit) (i : Nat) (v : Value) (w : World) : Prop :=
  if i = i0 then ∃ b, v = .slice (some ⟨b, 0, none⟩) 1 1 ∧ w.heap[b]? = some (.cells f.cells 44 (0, 0)) else l[i]? = some v
section
variable {l : List Value} {i0 i : Nat} {f : Fw} {un : Unit} {v : Value} {w w' : World}
theorem FS.keeps (hf : FS l i0 f un i v w) (hb : Below w.heap.size w w') : FS l i0 f un i v w' := by
  unfold FS at *
  split
  · rename_i e
    rw [if_pos e] at hf
    obtain ⟨b, e1, e2⟩ := hf
    exact ⟨b, e1, below_keeps hb e2 (Array.getElem?_eq_some_iff.1 e2).1⟩
  · rename_i e
    rw [if_neg e] at hf
    exact hf
theorem FS.dep {a : Act} {t : Operand} {y : Value} (hf : a.eval t = v ∧ FS l i0 f un i v w) (hne : i ≠ i0) (hy : l[i]? = some y) : a.eval t = y := by
  have h2 := hf.2
  unfold FS at h2
  rw [if_neg hne, hy] at h2
  rw [hf.1]; exact (Option.some.inj h2).symm
theorem FS.is {y : Value} (hf : FS l i0 f un i v w) (hne : i ≠ i0) (hy : l[i]? = some y) : v = y := by
  unfold FS at hf
  rw [if_neg hne, hy] at hf
  exact (Option.some.inj hf).symm
theorem FS.made (hf : FS l i0 f un i v w) (he : i = i0) : ∃ b, v = .slice (some ⟨b, 0, none⟩) 1 1 ∧ w.heap[b]? = some (.cells f.cells 44 (0, 0)) := by
  unfold FS at hf
  rw [if_pos he] at hf
  exact hf
theorem fs_mk (hne : i ≠ i0) (hy : l[i]? = some v) : FS l i0 f un i v w := by
  unfold FS
  rw [if_neg hne]; exact hy
theorem fs_still {P : Program} {o : Oper} {a : Act} {W : World} {Q : Exit → Act → World → Prop} {t : Tmp} (hr : (execOp a.eval o).run P w = .ok (.value v) w) (hne : i ≠ i0) (ht : o.dst = some t) (hv : l[i]? = some v) (hW : Below W.heap.size W w) :
    o.wp P a w (fun a' w' => ∃ v', a' = a.put (some t) v' ∧ FS l i0 f un i v' w' ∧ Below W.heap.size W w' ∧ Below w.heap.size w w') Q :=
  wp_val hr (by rw [ht]; exact ⟨v, rfl, fs_mk hne hv, hW, Below.refl _ _⟩)
theorem fs_bs {o : Oper} {a : Act} {W : World} {Q : Exit → Act → World → Prop} {t : Tmp} {s : Operand} (ho : o.op = .buildSlice 29 1 #[(0, s)]) (hs : a.eval s = .agg f.cells) (he : i = i0) (ht : o.dst = some t) (hW : Below W.heap.size W w) :
    o.wp Tryz.prog a w (fun a' w' => ∃ v', a' = a.put (some t) v' ∧ FS l i0 f un i v' w' ∧ Below W.heap.size W w' ∧ Below w.heap.size w w') Q :=
  wp_val (ex_bslice 29 1 #[(0, s)] #[(0, .agg f.cells)] ho (by simp only [List.map_toArray, List.map_cons, List.map_nil, hs]) (build1F f w)) (by
    rw [ht]
    have hb : Below w.heap.size w (w.alloc (.cells f.cells 44)) := (Below.refl _ _).alloc (Nat.le_refl _) _
    refine ⟨_, rfl, ?_, hW.trans (hb.mono hW.size), hb⟩
    unfold FS
    rw [if_pos he]
    exact ⟨_, rfl, heap_alloc_new w _⟩)
end

def S16 (w : World) (pa : Option Addr) (pn : Nat) : Prop := ∀ i, i < pn → ∃ g off p, pa = some ⟨g, off, none⟩ ∧ w.cell? ⟨g, off + i, none⟩ = some (.int .u16 ((p : Nat) : Int)) ∧ p < 65536
def S64 (w : World) (pa : Option Addr) (pn : Nat) : Prop := ∀ i, i < pn → ∃ g off x, pa = some ⟨g, off, none⟩ ∧ w.cell? ⟨g, off + i, none⟩ = some (.int .i64 x) ∧ Tm.In64 x
theorem cell_below {w u : World} (h : Below w.heap.size w u) {g i : Nat} {v : Value} (hc : w.cell? ⟨g, i, none⟩ = some v) : u.cell? ⟨g, i, none⟩ = some v := by
  have hlt : g < w.heap.size := by
    unfold World.cell? at hc
    simp only at hc
    cases hg : w.heap[g]? with
    | none => rw [hg] at hc; simp at hc
    | some o => exact (Array.getElem?_eq_some_iff.1 hg).1
  have hb := h.block g hlt
  unfold World.cell? at hc ⊢
  simp only at hc ⊢
  rw [hb]; exact hc

/-- The tuples of the law. -/
def xE (p : Nat) : Tu := ⟨1, 2, 17, p, 9⟩
def xG (i : Nat) : Tu := ⟨3, 2, 17, i, 9⟩
theorem xE_ok {p : Nat} (h : p < 65536) : (xE p).Ok := ⟨by show 1 < 4294967296; omega, by show 2 < 4294967296; omega, by show 17 < 256; omega, h, by show 9 < 65536; omega⟩
theorem xG_ok {p : Nat} (h : p < 65536) : (xG p).Ok := ⟨by show 3 < 4294967296; omega, by show 2 < 4294967296; omega, by show 17 < 256; omega, h, by show 9 < 65536; omega⟩
theorem xE_back (p : Nat) : (xE p).back ≠ xE p := by simp [xE, Tu.back]
theorem xG_back (p : Nat) : (xG p).back ≠ xG p := by simp [xG, Tu.back]
/-- A flow of the law's first part: its tuple, its end. -/
def fE (p : Nat) (m : Int) : Fw := ⟨xE p, (xE p).back, 1, m + 30⟩
def Fm (now : Int) (f : Fw) : Prop := ∃ (p : Nat) (m : Int), p < 65536 ∧ f = fE p m ∧ now - 199 ≤ m ∧ m ≤ now + 199
theorem fE_eq {p : Nat} {m : Int} (h1 : -1152921504606850000 ≤ m) (h2 : m ≤ 1152921504606850000) : udF (xE p) m = fE p m := by
  unfold udF fE
  have : Tm.aft m 30 = m + 30 := by unfold Tm.aft; rw [if_neg (by omega), if_neg (by omega)]
  rw [this]

/-- While the flows are opened. -/
structure E1 (w u : World) (b : Nat) (q : Raw) (L : List (Int × Fw)) (wv : Value) (now : Int) (i : Nat) : Prop where
  wd : Wd w u b q L wv (L.map (·.2))
  la : q.last = L.length
  fo : ∀ p ∈ L, Fm now p.2
  ge : 0 < i → 0 < L.length
theorem E1.start {w u : World} {b : Nat} {F : Nat → Prop} {now : Int} (hs : St u b 40 q0 F) (hF : ∀ k, F k → w.heap.size ≤ k) (hb : Below w.heap.size w u) (ht : ∀ k, isTab k → k < w.heap.size) : E1 w u b q0 [] (.slice none 0 0) now 0 :=
  ⟨⟨⟨F, hs, hF, fun k e => by cases e⟩, inv_nil (by omega), Ow.Own.nil _ _, hb, ht⟩, rfl, fun p hp => by simp at hp, fun h => absurd h (by omega)⟩
theorem tmod200 (x : Int) : -199 ≤ x.tmod 200 ∧ x.tmod 200 ≤ 199 := by
  have h := Int.natAbs_tmod x 200
  have h2 : x.natAbs % (200 : Int).natAbs < 200 := Nat.mod_lt _ (by decide)
  omega
theorem ex_addI {o : Oper} {a : Act} {w : World} (x y : Operand) (T' : TypeId) (i j : Int) (ho : o.op = .binOp .add 2 x y T') (hx : a.eval x = .int .i64 i) (hy : a.eval y = .int .i64 j) (h1 : -9223372036854775808 ≤ i + j) (h2 : i + j ≤ 9223372036854775807) : (execOp a.eval o).run Tryz.prog w = .ok (.value (.int .i64 (i + j))) w := by
  have hw : IntKind.i64.wrap (i + j) = i + j := by rw [IntKind.wrap_i64]; omega
  unfold execOp
  simp only [ho, hx, hy]
  simp [eqGuard, binOp, go_sem, hw]
theorem wpList_apF2 {ops : Array Oper} {Q : Exit → Act → World → Prop} {a : Act} {w : World} {rest : List Oper} {o : Oper} (hgd : o.guard = none) (d s : Operand) (ho : o.op = .call { callee := .builtin .append, args := #[d, s], argTypes := #[29, 29] }) {B : Nat} {v : Value} {L : List Fw} (x : Fw) (b : Nat) {T : TypeId} (hd : a.eval d = v) (hs : a.eval s = .slice (some ⟨b, 0, none⟩) 1 1)
    (hv : Ow.Own kF w B v L) (hb : w.heap[b]? = some (.cells x.cells T (0, 0))) (hB : B ≤ w.heap.size) (hbig : L.length + 1 ≤ 1073741824)
    (h : ∀ g' n' c' w', Ow.Own kF w' B (.slice (some ⟨g', 0, none⟩) n' c') (L ++ [x]) → w.grownBy w' v.ownBlock → Me.NwB v (.slice (some ⟨g', 0, none⟩) n' c') w.heap.size → wpList Tryz.prog ops Q rest (a.put o.dst (.slice (some ⟨g', 0, none⟩) n' c')) w') : wpList Tryz.prog ops Q (o :: rest) a w := by
  obtain ⟨v', w', hr, ho', hg, hn⟩ := Ow.append_one (K := kF) o.type x b hv hb hB hbig
  obtain ⟨g', n', c', rfl⟩ := ownF_some ho'
  exact wpList_plain hgd fun _ hK => wp_val (ex_append d s _ _ ho hd hs hr) (hK _ _ (h _ _ _ _ ho' hg hn))
theorem E1.came {w u u' : World} {b : Nat} {q q' : Raw} {L : List (Int × Fw)} {wv v' : Value} {now y : Int} {i p : Nat} (h : E1 w u b q L wv now i) (hw : Wd w u' b q' (L ++ [(q.last + 1, udF (xE p) (now + y))]) v' (L.map (·.2) ++ [fE p (now + y)])) (hq : q'.last = q.last + 1) (hp : p < 65536) (y1 : -199 ≤ y) (y2 : y ≤ 199) (n1 : -1152921504606846976 ≤ now) (n2 : now ≤ 1152921504606846976) : E1 w u' b q' (L ++ [(q.last + 1, udF (xE p) (now + y))]) v' now (i + 1) := by
  have e := fE_eq (p := p) (m := now + y) (by omega) (by omega)
  refine ⟨?_, ?_, fun r hr => ?_, fun _ => by simp⟩
  · rw [List.map_append, List.map_singleton]
    simp only [e] at hw ⊢
    exact hw
  · rw [hq, h.la, List.length_append]
    simp
  · rcases List.mem_append.1 hr with hr | hr
    · exact h.fo r hr
    · rw [List.mem_singleton] at hr
      subst hr
      exact ⟨p, now + y, hp, e, by omega, by omega⟩
theorem E1.same {w u u' : World} {b : Nat} {q : Raw} {L : List (Int × Fw)} {wv : Value} {now : Int} {i p : Nat} (h : E1 w u b q L wv now i) (hw : Wd w u' b q L wv (L.map (·.2))) (hp : p < 65536) (he : opnE 40 q (xE p) (xE p).back (mdH (xE p)) (mdB (xE p) 0) ≠ 0) : E1 w u' b q L wv now (i + 1) := by
  refine ⟨hw, h.la, h.fo, fun _ => ?_⟩
  rcases Nat.eq_zero_or_pos L.length with e | e
  · have : L = [] := List.eq_nil_of_length_eq_zero e
    subst this
    exact absurd (udp_room (xE_ok hp) rfl (xE_back p) h.wd.inv (fun p hp => by simp at hp) (by simp)) he
  · exact e
end Go.Proofs.YthmhiehglcfepaaGreatDoor.Fl

namespace Go.Proofs.YthmhiehglcfepaaGreatDoor.Fl
open Go.Proofs.YthmhiehglcfepaaGreatDoor Go.ChangeShapes Go.WideShapes Go.ChangeAt Go.RowKit Go.Maps N
open Go.Shelf Go.Lib
set_option maxHeartbeats 4000000
set_option maxRecDepth 100000

theorem E1.below {w u u' : World} {b : Nat} {q : Raw} {L : List (Int × Fw)} {wv : Value} {now : Int} {i : Nat} (h : E1 w u b q L wv now i) (hb : Below u.heap.size u u') : E1 w u' b q L wv now i := ⟨h.wd.below hb, h.la, h.fo, h.ge⟩
/-- While what is due is taken out. -/
structure E2 (w u : World) (b : Nat) (q : Raw) (L : List (Int × Fw)) (wv : Value) (W : List Fw) (now : Int) (k : Nat) : Prop where
  wd : Wd w u b q L wv W
  la : q.last ≤ 40
  fo : ∀ p ∈ L, Fm now p.2 ∧ p.2 ∈ W ∧ now - 200 + k ≤ p.2.til
  wl : W.length ≤ 40
section
variable {w u u' : World} {b : Nat} {q q' : Raw} {L : List (Int × Fw)} {wv : Value} {W : List Fw} {now : Int} {k i : Nat}
theorem E1.next (h : E1 w u b q L wv now i) : E2 w u b q L wv (L.map (·.2)) now 0 := by
  have := h.wd.inv.lm
  refine ⟨h.wd, by rw [h.la]; omega, fun p hp => ⟨h.fo p hp, List.mem_map.2 ⟨p, hp, rfl⟩, ?_⟩, by rw [List.length_map]; omega⟩
  obtain ⟨x, m, _, e, h1, h2⟩ := h.fo p hp
  rw [e]
  show now - 200 + ((0 : Nat) : Int) ≤ m + 30
  omega
theorem E2.below (h : E2 w u b q L wv W now k) (hb : Below u.heap.size u u') : E2 w u' b q L wv W now k := ⟨h.wd.below hb, h.la, h.fo, h.wl⟩
theorem E2.done (h : E2 w u b q L wv W now 432) : L = [] := by
  cases L with
  | nil => rfl
  | cons p L =>
    obtain ⟨⟨x, m, _, e, h1, h2⟩, _, h3⟩ := h.fo p List.mem_cons_self
    rw [e] at h3
    have : now - 200 + ((432 : Nat) : Int) ≤ m + 30 := h3
    omega
theorem E2.step (h : E2 w u b q L wv W now k) (hw : Wd w u' b q' (L.filter (stayB (now - 200 + k))) wv W) (hq : q'.last = q.last) : E2 w u' b q' (L.filter (stayB (now - 200 + k))) wv W now (k + 1) := by
  refine ⟨hw, by rw [hq]; exact h.la, fun p hp => ?_, h.wl⟩
  obtain ⟨hp, hs⟩ := List.mem_filter.1 hp
  obtain ⟨h1, h2, h3⟩ := h.fo p hp
  have hs : now - 200 + k < p.2.til := by simpa [stayB] using hs
  exact ⟨h1, h2, by omega⟩
theorem late_stay (L : List (Int × Fw)) (at' : Int) : (L.filter (lateB at')).length + (L.filter (stayB at')).length = L.length := by
  have e : stayB at' = fun p => !lateB at' p := funext fun p => by
    unfold stayB lateB
    by_cases h : p.2.til ≤ at'
    · rw [decide_eq_true h, decide_eq_false (by omega)]; rfl
    · rw [decide_eq_false h, decide_eq_true (by omega)]; rfl
  rw [e]
  induction L with
  | nil => rfl
  | cons p L ih =>
    simp only [List.filter_cons]
    cases lateB at' p <;> simp <;> omega
theorem snd_nodup {lim : Int} (I : Inv lim q L) : (L.map (·.2)).Nodup := by
  refine List.pairwise_map.2 (I.m.srt.imp_of_mem fun {a b} ha hb hab e => ?_)
  have := (I.m.apart (k := a.1) (j := b.1) (f := a.2) (g := b.2) ha hb (t := a.2.th) (.inl rfl) (.inl (by rw [e]))).1
  omega
theorem E2.due (h : E2 w u b q L wv W now k) {R : List Fw} (hp : R.Perm ((L.filter (lateB (now - 200 + k))).map (·.2))) (hs : R.Pairwise (fun x y => ltOf cmpEn y x = false)) :
    R.length + (L.filter (stayB (now - 200 + k))).length = L.length ∧
    (∀ f ∈ R, f.til = now - 200 + k ∧ (∃ p, p < 65536 ∧ f.th = xE p ∧ f.bk = (xE p).back) ∧ f ∈ W ∧ ∀ r ∈ L.filter (stayB (now - 200 + k)), f.th ≠ r.2.th ∧ f.th ≠ r.2.bk ∧ f.bk ≠ r.2.th ∧ f.bk ≠ r.2.bk) ∧
    ∀ i, 0 < i → ∀ (hi : i < R.length) (hj : i - 1 < R.length), R[i - 1].th.sp < R[i].th.sp := by
  have hmem : ∀ f ∈ R, ∃ p ∈ L, p.2 = f ∧ f.til = now - 200 + k ∧ Fm now f ∧ f ∈ W := fun f hf => by
    obtain ⟨p, hp2, rfl⟩ := List.mem_map.1 (hp.mem_iff.1 hf)
    obtain ⟨hpl, hl⟩ := List.mem_filter.1 hp2
    have hl : p.2.til ≤ now - 200 + k := by simpa [lateB] using hl
    obtain ⟨h1, h2, h3⟩ := h.fo p hpl
    exact ⟨p, hpl, rfl, by omega, h1, h2⟩
  refine ⟨?_, fun f hf => ?_, fun i hi0 hi hj => ?_⟩
  · rw [hp.length_eq, List.length_map]; exact late_stay _ _
  · obtain ⟨p, hpl, rfl, ht, ⟨x, m, hx, e, _⟩, hW⟩ := hmem f hf
    refine ⟨ht, ⟨x, hx, by rw [e]; rfl, by rw [e]; rfl⟩, hW, fun r hr => ?_⟩
    obtain ⟨hrl, hst⟩ := List.mem_filter.1 hr
    have hst : now - 200 + k < r.2.til := by simpa [stayB] using hst
    have hne : ∀ t, (t = p.2.th ∨ t = p.2.bk) → (t = r.2.th ∨ t = r.2.bk) → False := fun t a1 a2 => by
      have := (h.wd.inv.m.apart (k := p.1) (j := r.1) (f := p.2) (g := r.2) hpl hrl a1 a2).2
      rw [this] at ht
      omega
    exact ⟨fun e => hne _ (.inl rfl) (.inl e), fun e => hne _ (.inl rfl) (.inr e), fun e => hne _ (.inr rfl) (.inl e), fun e => hne _ (.inr rfl) (.inr e)⟩
  · have hnd : R.Nodup := hp.nodup_iff.2 ((snd_nodup h.wd.inv).sublist ((List.filter_sublist (l := L)).map _))
    have h1 := (List.pairwise_iff_getElem.1 hs) (i - 1) i hj hi (by omega)
    have h2 := (List.pairwise_iff_getElem.1 hnd) (i - 1) i hj hi (by omega)
    obtain ⟨p, hpl, e1, t1, ⟨x, m, hx, f1, _⟩, _⟩ := hmem R[i - 1] (List.getElem_mem hj)
    obtain ⟨r, hrl, e2, t2, ⟨y, n, hy, f2, _⟩, _⟩ := hmem R[i] (List.getElem_mem hi)
    rw [f1] at t1 h1 h2 ⊢
    rw [f2] at t2 h1 h2 ⊢
    have t1 : m + 30 = now - 200 + k := t1
    have t2 : n + 30 = now - 200 + k := t2
    have hmn : m = n := by omega
    subst hmn
    show x < y
    have hxy : ¬ (y < x) := fun hlt => by
      have : ltOf cmpEn (fE y m) (fE x m) = true := by
        show ltOf (lexC kEn) (fE y m) (fE x m) = true
        unfold kEn kTh
        rw [lex_lt, lex_lt, lex_lt, lex_lt, lex_lt]
        simp [fE, xE, hlt]
      rw [this] at h1
      cases h1
    rcases Nat.lt_or_ge x y with hh | hh
    · exact hh
    · have : x = y := by omega
      subst this
      exact absurd rfl h2
end

/-- While forty are opened. -/
structure E3 (w u : World) (b : Nat) (q : Raw) (L : List (Int × Fw)) (wv : Value) (W : List Fw) (i : Nat) : Prop where
  wd : Wd w u b q L wv W
  la : q.last ≤ 40 + i
  ln : L.length = i
  fo : ∀ p ∈ L, ∃ j, j < i ∧ p.2.th = xG j ∧ p.2.bk = (xG j).back
section
variable {w u u' : World} {b : Nat} {q q' : Raw} {L : List (Int × Fw)} {wv : Value} {W : List Fw} {now : Int} {k i : Nat}
theorem E2.last (h : E2 w u b q [] wv W now k) : E3 w u b q [] wv W 0 := ⟨h.wd, h.la, rfl, fun p hp => by simp at hp⟩
theorem E3.room (h : E3 w u b q L wv W i) (hi : i < 40) : opnE 40 q (xG i) (xG i).back (mdH (xG i)) (mdB (xG i) 0) = 0 := by
  refine udp_room (xG_ok (by omega)) rfl (xG_back i) h.wd.inv (fun p hp => ?_) (by rw [h.ln]; exact hi)
  obtain ⟨j, hj, e1, e2⟩ := h.fo p hp
  rw [e1, e2]
  have hij : i ≠ j := by omega
  simp [xG, Tu.back, hij]
theorem E3.step (h : E3 w u b q L wv W i) (hw : Wd w u' b q' (L ++ [(q.last + 1, udF (xG i) 0)]) wv W) (hq : q'.last = q.last + 1) : E3 w u' b q' (L ++ [(q.last + 1, udF (xG i) 0)]) wv W (i + 1) := by
  refine ⟨hw, by rw [hq]; have := h.la; omega, by rw [List.length_append, h.ln]; rfl, fun p hp => ?_⟩
  rcases List.mem_append.1 hp with hp | hp
  · obtain ⟨j, hj, e⟩ := h.fo p hp
    exact ⟨j, by omega, e⟩
  · rw [List.mem_singleton] at hp
    subst hp
    exact ⟨i, by omega, rfl, rfl⟩
end
/-! ### entries of an own list; tests -/
theorem own_tu {w : World} {B : Nat} {a : Option Addr} {n c : Nat} {R : List Fw} {j : Nat} {f : Fw} (h : Ow.Own kF w B (.slice a n c) R) (hx : R[j]? = some f) :
    ∃ g, a = some ⟨g, 0, none⟩ ∧ ∀ u : World, Below w.heap.size w u → (Instr.loadAt 34 (.pointer (some ⟨g, j * 12, none⟩))).run Tryz.prog u = .ok (.agg f.th.cells) u ∧ (Instr.loadAt 34 (.pointer (some ⟨g, j * 12 + 5, none⟩))).run Tryz.prog u = .ok (.agg f.bk.cells) u ∧ u.cell? ⟨g, j * 12 + 11, none⟩ = some (.int .i64 f.til) ∧ u.cell? ⟨g, j * 12 + 3, none⟩ = some (.int .u16 (f.th.sp : Int)) ∧ (Instr.loadAt 44 (.pointer (some ⟨g, j * 12, none⟩))).run Tryz.prog u = .ok (.agg f.cells) u := by
  obtain ⟨g, h1, h2, h3⟩ := h.at hx
  refine ⟨g, h1, fun u hu => ?_⟩
  obtain ⟨h4, h5⟩ := h3 u (hu.block g h2)
  have hc : ∀ i, i < 12 → u.cell? ⟨g, j * 12 + i, none⟩ = f.cells[i]? := fun i hi => (h4 i hi).1
  obtain ⟨d, hd1, hd2⟩ := isTu
  refine ⟨?_, ?_, hc 11 (by omega), hc 3 (by omega), h5⟩
  · refine run_loadAt_mid u g (j * 12) 34 f.th.cells.toList d (fun i v hv => ?_) hd1 hd2 (by kernel_rfl)
    have hi : i < 5 := (List.getElem?_eq_some_iff.1 hv).1
    rw [hc i (by omega), ← hv, Array.getElem?_toList]
    match i, hi with
    | 0, _ | 1, _ | 2, _ | 3, _ | 4, _ => rfl
  · refine run_loadAt_mid u g (j * 12 + 5) 34 f.bk.cells.toList d (fun i v hv => ?_) hd1 hd2 (by kernel_rfl)
    have hi : i < 5 := (List.getElem?_eq_some_iff.1 hv).1
    rw [Nat.add_assoc, hc (5 + i) (by omega), ← hv, Array.getElem?_toList]
    match i, hi with
    | 0, _ | 1, _ | 2, _ | 3, _ | 4, _ => rfl
section
variable {o : Oper} {a : Act} {w : World}
theorem ex_neI (x y : Operand) (T' : TypeId) (i j : Int) (r : Bool) (ho : o.op = .binOp .neq 2 x y T') (hx : a.eval x = .int .i64 i) (hy : a.eval y = .int .i64 j) (hr : (!decide (i = j)) = r) : (execOp a.eval o).run Tryz.prog w = .ok (.value (.bool r)) w := by
  unfold execOp
  simp only [ho, hx, hy]
  simp [eqGuard, binOp, go_sem]
  rw [← hr]
  by_cases e : i = j <;> simp [e]
theorem ex_gtI (x y : Operand) (T' : TypeId) (i j : Int) (r : Bool) (ho : o.op = .binOp .gtr 3 x y T') (hx : a.eval x = .int .i64 i) (hy : a.eval y = .int .i64 j) (hr : decide (j < i) = r) : (execOp a.eval o).run Tryz.prog w = .ok (.value (.bool r)) w := by
  unfold execOp
  simp only [ho, hx, hy]
  simp [eqGuard, binOp, go_sem, hr]
theorem ex_leP (x y : Operand) (T' : TypeId) (i j : Int) (r : Bool) (ho : o.op = .binOp .leq 32 x y T') (hx : a.eval x = .int .u16 i) (hy : a.eval y = .int .u16 j) (hr : decide (i ≤ j) = r) : (execOp a.eval o).run Tryz.prog w = .ok (.value (.bool r)) w := by
  unfold execOp
  simp only [ho, hx, hy]
  simp [eqGuard, binOp, go_sem, hr]
theorem ex_subN (x y : Operand) (T' : TypeId) (i : Nat) (ho : o.op = .binOp .sub 3 x y T') (hx : a.eval x = .int .i64 (i : Int)) (hy : a.eval y = .int .i64 1) (h1 : 0 < i) (h2 : i ≤ 1000000) : (execOp a.eval o).run Tryz.prog w = .ok (.value (.int .i64 ((i - 1 : Nat) : Int))) w := by
  have hw : IntKind.i64.wrap ((i : Int) - 1) = ((i - 1 : Nat) : Int) := by rw [IntKind.wrap_i64]; omega
  unfold execOp
  simp only [ho, hx, hy]
  simp [eqGuard, binOp, go_sem, hw]
theorem ex_notB (x : Operand) (T : TypeId) (b : Bool) (ho : o.op = .unOp .not T x) (hx : a.eval x = .bool b) : (execOp a.eval o).run Tryz.prog w = .ok (.value (.bool (!b))) w := by
  unfold execOp
  simp only [ho, hx]
  simp [go_sem]
end
theorem fl_til (g o : Nat) (u : World) : (Instr.fieldAt 44 (.pointer (some ⟨g, o, none⟩)) 3).run Tryz.prog u = .ok (.pointer (some ⟨g, o + 11, none⟩)) u := by kernel_rfl
theorem fl_th (g o : Nat) (u : World) : (Instr.fieldAt 44 (.pointer (some ⟨g, o, none⟩)) 0).run Tryz.prog u = .ok (.pointer (some ⟨g, o, none⟩)) u := by kernel_rfl
theorem fl_bk (g o : Nat) (u : World) : (Instr.fieldAt 44 (.pointer (some ⟨g, o, none⟩)) 1).run Tryz.prog u = .ok (.pointer (some ⟨g, o + 5, none⟩)) u := by kernel_rfl
theorem tu_sp (g o : Nat) (u : World) : (Instr.fieldAt 34 (.pointer (some ⟨g, o, none⟩)) 3).run Tryz.prog u = .ok (.pointer (some ⟨g, o + 3, none⟩)) u := by kernel_rfl
end Go.Proofs.YthmhiehglcfepaaGreatDoor.Fl
