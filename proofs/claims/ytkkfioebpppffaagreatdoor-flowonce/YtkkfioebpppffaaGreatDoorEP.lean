import Derived.Test.YtkkfioebpppffaaGreatDoorEK
import Derived.Test.YtkkfioebpppffaaGreatDoorYFwF
import Derived.Test.YtkkfioebpppffaaGreatDoorEO
import Derived.Test.YtkkfioebpppffaaGreatDoorEX
namespace Go.Proofs.YtkkfioebpppffaaGreatDoor.Fl
open Go.Proofs.YtkkfioebpppffaaGreatDoor Go.ChangeShapes Go.WideShapes Go.ChangeAt Go.RowKit Go.Maps N
open Go.Shelf Go.Lib
set_option maxHeartbeats 2000000
set_option maxRecDepth 100000

/-- A flow that was opened by a packet. -/
def GdT (t : Tu) : Prop := (t.p = 6 ∨ t.p = 1 ∨ t.p = 17) ∧ (t.p = 1 → t.dp = t.sp)
def GdL (L : List (Int × Fw)) : Prop := ∀ p ∈ L, GdT p.2.th
theorem gd_tup {h : Hd} {B : List Nat} {c : Ct} (hc : rdC h B = some c) : GdT (tupC h c) := by
  unfold rdC at hc
  split at hc
  · unfold contC at hc
    split at hc
    · rename_i h1
      split at hc
      · injection hc with hc
        subst hc
        exact ⟨.inr (.inl h1), fun _ => rfl⟩
      · cases hc
    · rename_i h1
      split at hc
      · rename_i h2
        exact ⟨.inr (.inr h2), fun e => absurd e (by show ¬ h.proto = 1; omega)⟩
      · split at hc
        · rename_i h2 h3
          exact ⟨.inl h3, fun e => absurd e (by show ¬ h.proto = 1; omega)⟩
        · cases hc
  · cases hc

section
variable {q : Raw} {L : List (Int × Fw)} {lim : Int}
theorem open_inv {th bk : Tu} {h : Hd} {B : List Nat} {now : Int} (I : Inv lim q L) (G : GdL L) (hth : th.Ok) (hbk : bk.Ok) (hnow : Tm.In64 now) :
    ∃ L', Inv lim (opnR lim q th bk h B now) L' ∧ GdL L' ∧ (opnR lim q th bk h B now).last ≤ q.last + 1 := by
  by_cases e : opnE lim q th bk h B = 0
  · obtain ⟨c, hc, h1, -⟩ := opnE_zero e
    obtain ⟨h2, h3⟩ := inv_open I e hc hth hbk hnow
    refine ⟨_, h2, fun p hp => ?_, by omega⟩
    rcases List.mem_append.1 hp with hp | hp
    · exact G p hp
    · rw [List.mem_singleton] at hp
      subst hp
      show GdT th
      rw [← h1]
      exact gd_tup hc
  · have er : opnR lim q th bk h B now = q := by unfold opnR; rw [if_neg e]
    rw [er]
    exact ⟨L, I, G, by omega⟩
theorem nxt_pos {st : Nat} {c : Ct} {b : Bool} (h1 : 1 ≤ st) (h : (nxt st c b).2 = true) : 1 ≤ (nxt st c b).1 := by
  cases c with
  | dg s d => show 1 ≤ (if b then 2 else st); split <;> omega
  | ec n r => show 1 ≤ (if b then 2 else st); split <;> omega
  | sg s d f =>
    change (tuN st f b).2 = true at h
    show 1 ≤ (tuN st f b).1
    unfold tuN at h ⊢
    split at h
    · rename_i hk; rw [if_pos hk]; show 1 ≤ 8; omega
    · rename_i hk
      rw [if_neg hk]
      simp at h
      show 1 ≤ tN st (kd f) b
      omega
theorem move_inv {h : Hd} {B : List Nat} {now : Int} (I : Inv lim q L) (G : GdL L) (hnow : Tm.In64 now) :
    ∃ L', Inv lim (movP lim q h B now).2.2 L' ∧ GdL L' ∧ (movP lim q h B now).2.2.last = q.last := by
  unfold movP
  cases hc : rdC h B with
  | none => exact ⟨L, I, G, rfl⟩
  | some c =>
    simp only
    cases hk : q.f (tupC h c) with
    | none => exact ⟨L, I, G, rfl⟩
    | some k =>
      simp only
      obtain ⟨f, hf, ht⟩ := (I.m.fk _ _).1 hk
      have hg := (I.m.gk k f).2 hf
      rw [hg]
      simp only [Option.getD_some]
      obtain ⟨o1, o2, o3, o4, o5, o6, o7⟩ := I.m.ok _ hf
      simp only at o1 o2 o3 o4 o5 o6 o7
      split
      · rename_i hn
        obtain ⟨s1, s2⟩ := spanF_in (nxt f.st c (decide (tupC h c = f.bk))).1 f.th.p
        have h64 : Tm.In64 (spanF (nxt f.st c (decide (tupC h c = f.bk))).1 f.th.p) := ⟨by omega, by omega⟩
        refine ⟨_, inv_keep (g := kpF (stw f (nxt f.st c (decide (tupC h c = f.bk))).1) now) I hf rfl rfl (nxt_pos o3 hn) (nxt_lt _ o4 _ _) (aft_in hnow h64), fun p hp => ?_, rfl⟩
        rcases (mem_ch hf).1 hp with rfl | ⟨hp, _⟩
        · exact (show GdT f.th from G (k, f) hf)
        · exact G p hp
      · exact ⟨L, I, G, rfl⟩
theorem gd_filter (G : GdL L) (P : Int × Fw → Bool) : GdL (L.filter P) := fun p hp => G p (List.mem_filter.1 hp).1

/-- Each tuple once. -/
structure Onc (R : List Fw) : Prop where
  self : ∀ f ∈ R, f.th ≠ f.bk ∧ f.th.p = f.bk.p
  ok : ∀ f ∈ R, f.th.Ok ∧ f.bk.Ok
  apart : R.Pairwise fun f g => f.th ≠ g.th ∧ f.th ≠ g.bk ∧ f.bk ≠ g.th ∧ f.bk ≠ g.bk
theorem once_of (I : Inv lim q L) {R : List Fw} (hp : R.Perm (L.map (·.2))) : Onc R := by
  have hm : ∀ f ∈ R, ∃ k, (k, f) ∈ L := fun f hf => by
    obtain ⟨p, h1, rfl⟩ := List.mem_map.1 ((hp.mem_iff).1 hf)
    exact ⟨p.1, h1⟩
  refine ⟨fun f hf => ?_, fun f hf => ?_, ?_⟩
  · obtain ⟨k, hk⟩ := hm f hf
    obtain ⟨_, _, _, _, _, o6, o7⟩ := I.m.ok _ hk
    exact ⟨fun e => o7 e.symm, o6.symm⟩
  · obtain ⟨k, hk⟩ := hm f hf
    obtain ⟨o1, o2, _⟩ := I.m.ok _ hk
    exact ⟨o1, o2⟩
  · refine (hp.pairwise_iff (fun {f g} h => ⟨fun e => h.1 e.symm, fun e => h.2.2.1 e.symm, fun e => h.2.1 e.symm, fun e => h.2.2.2 e.symm⟩)).2 ?_
    rw [List.pairwise_map]
    refine I.m.srt.imp_of_mem fun {a b} ha hb hab => ?_
    have h1 : ∀ t, (t = a.2.th ∨ t = a.2.bk) → (t = b.2.th ∨ t = b.2.bk) → False := fun t e1 e2 => by
      have := (I.m.apart (k := a.1) (f := a.2) (j := b.1) (g := b.2) ha hb e1 e2).1
      omega
    exact ⟨fun e => h1 _ (.inl rfl) (.inl e), fun e => h1 _ (.inl rfl) (.inr e), fun e => h1 _ (.inr rfl) (.inl e), fun e => h1 _ (.inr rfl) (.inr e)⟩
theorem Onc.at {R : List Fw} (h : Onc R) {i j : Nat} (hi : i < R.length) (hji : j < i) : R[i].th ≠ (R[j]'(by omega)).th ∧ R[i].th ≠ (R[j]'(by omega)).bk ∧ R[i].bk ≠ (R[j]'(by omega)).th ∧ R[i].bk ≠ (R[j]'(by omega)).bk := by
  have := (List.pairwise_iff_getElem.1 h.apart) j i (by omega) hi hji
  exact ⟨fun e => this.1 e.symm, fun e => this.2.2.1 e.symm, fun e => this.2.1 e.symm, fun e => this.2.2.2 e.symm⟩

/-- Each flow is found. -/
theorem lookP_th (I : Inv lim q L) {f : Fw} (hf : f ∈ L.map (·.2)) : lookP q f.th = (2, f) ∧ lookP q f.bk = (3, f) := by
  obtain ⟨p, hp, rfl⟩ := List.mem_map.1 hf
  have h1 := (I.m.fk p.2.th p.1).2 ⟨p.2, hp, .inl rfl⟩
  have h2 := (I.m.fk p.2.bk p.1).2 ⟨p.2, hp, .inr rfl⟩
  have h3 := (I.m.gk p.1 p.2).2 hp
  obtain ⟨_, _, _, _, _, _, o7⟩ := I.m.ok _ hp
  unfold lookP
  rw [h1, h2]
  simp only [h3, Option.getD_some, if_true]
  exact ⟨trivial, by rw [if_neg o7]⟩

theorem cmpTh_zero {x y : Fw} (h1 : ltOf cmpTh x y = false) (h2 : ltOf cmpTh y x = false) : x.th = y.th := by
  unfold cmpTh kTh at h1 h2
  rw [lex_lt] at h1 h2
  simp only [Bool.or_eq_false_iff, decide_eq_false_iff_not, Bool.and_eq_false_iff] at h1 h2
  have e1 : x.th.s = y.th.s := by omega
  have k1 := h1.2.resolve_left (by omega)
  have k2 := h2.2.resolve_left (by omega)
  rw [lex_lt] at k1 k2
  simp only [Bool.or_eq_false_iff, decide_eq_false_iff_not, Bool.and_eq_false_iff] at k1 k2
  have e2 : x.th.d = y.th.d := by omega
  have m1 := k1.2.resolve_left (by omega)
  have m2 := k2.2.resolve_left (by omega)
  rw [lex_lt] at m1 m2
  simp only [Bool.or_eq_false_iff, decide_eq_false_iff_not, Bool.and_eq_false_iff] at m1 m2
  have e3 : x.th.p = y.th.p := by omega
  have n1 := m1.2.resolve_left (by omega)
  have n2 := m2.2.resolve_left (by omega)
  rw [lex_lt] at n1 n2
  simp only [Bool.or_eq_false_iff, decide_eq_false_iff_not, Bool.and_eq_false_iff] at n1 n2
  have e4 : x.th.sp = y.th.sp := by omega
  have o1 := n1.2.resolve_left (by omega)
  have o2 := n2.2.resolve_left (by omega)
  rw [lex_lt] at o1 o2
  simp only [Bool.or_eq_false_iff, decide_eq_false_iff_not, Bool.and_eq_false_iff] at o1 o2
  have e5 : x.th.dp = y.th.dp := by omega
  obtain ⟨⟨a1, a2, a3, a4, a5⟩, _, _, _⟩ := x
  obtain ⟨⟨b1, b2, b3, b4, b5⟩, _, _, _⟩ := y
  simp only at e1 e2 e3 e4 e5
  subst e1 e2 e3 e4 e5
  rfl
theorem sorted_one : ∀ {A B : List Fw}, A.Perm B → A.Pairwise (fun x y => ltOf cmpTh y x = false) → B.Pairwise (fun x y => ltOf cmpTh y x = false) → (∀ x ∈ A, ∀ y ∈ A, x.th = y.th → x = y) → A = B
  | [], B, hp, _, _, _ => by rw [List.Perm.nil_eq hp]
  | x :: A, [], hp, _, _, _ => by have := hp.length_eq; simp at this
  | x :: A, y :: B, hp, h1, h2, hu => by
    obtain ⟨a1, a2⟩ := List.pairwise_cons.1 h1
    obtain ⟨b1, b2⟩ := List.pairwise_cons.1 h2
    have hxy : x = y := by
      have hx : x ∈ y :: B := hp.mem_iff.1 List.mem_cons_self
      have hy : y ∈ x :: A := hp.mem_iff.2 List.mem_cons_self
      rcases List.mem_cons.1 hx with e | hx
      · exact e
      · rcases List.mem_cons.1 hy with e | hy'
        · exact e.symm
        · exact hu x List.mem_cons_self y hy (cmpTh_zero (b1 x hx) (a1 y hy'))
    subst hxy
    have := sorted_one (List.Perm.cons_inv hp) a2 b2 fun u hu' v hv e => hu u (List.mem_cons_of_mem _ hu') v (List.mem_cons_of_mem _ hv) e
    rw [this]
theorem list_twice (I : Inv lim q L) {R S : List Fw} (h1 : R.Perm (L.map (·.2))) (h2 : S.Perm (L.map (·.2))) (s1 : R.Pairwise (fun x y => ltOf cmpTh y x = false)) (s2 : S.Pairwise (fun x y => ltOf cmpTh y x = false)) : R = S := by
  refine sorted_one (h1.trans h2.symm) s1 s2 fun x hx y hy e => ?_
  obtain ⟨p, hp, rfl⟩ := List.mem_map.1 (h1.mem_iff.1 hx)
  obtain ⟨r, hr, rfl⟩ := List.mem_map.1 (h1.mem_iff.1 hy)
  exact (I.m.apart (k := p.1) (f := p.2) (j := r.1) (g := r.2) hp hr (.inl rfl) (.inl e)).2
theorem fk64' (I : Inv lim q L) (hq : q.last ≤ 1000) : ∀ t k, q.f t = some k → Tm.In64 k := fun t k e => by
  obtain ⟨f, hm, _⟩ := (I.m.fk t k).1 e
  have := I.m.pos _ hm
  simp only at this
  exact ⟨by omega, by omega⟩
theorem gs10 (I : Inv lim q L) : ∀ k f, q.g k = some f → f.st < 10 := fun k f e => (I.m.ok _ ((I.m.gk k f).1 e)).2.2.2.1
end
end Go.Proofs.YtkkfioebpppffaaGreatDoor.Fl

namespace Go.Proofs.YtkkfioebpppffaaGreatDoor.Fl
open Go.Proofs.YtkkfioebpppffaaGreatDoor Go.ChangeShapes Go.WideShapes Go.ChangeAt Go.RowKit Go.Maps N
open Go.Shelf Go.Lib
set_option maxHeartbeats 8000000
set_option maxRecDepth 100000

/-- A table, all new since w. -/
structure Tb (w u : World) (b : Nat) (lim : Int) (q : Raw) (L : List (Int × Fw)) : Prop where
  st : ∃ F, St u b lim q F ∧ ∀ k, F k → w.heap.size ≤ k
  inv : Inv lim q L
  gd : GdL L
  bel : Below w.heap.size w u
/-- What a step leaves: the table, and what was made between u and u'. -/
def ActD (w u u' : World) (b : Nat) (lim : Int) (q : Raw) (w' : World) : Prop :=
  ∃ q' L', Tb w w' b lim q' L' ∧ q'.last ≤ q.last + 1 ∧ ∀ k, u.heap.size ≤ k → k < u'.heap.size → w'.heap[k]? = u'.heap[k]?
section
variable {w u u' : World} {b : Nat} {lim : Int} {q : Raw} {L : List (Int × Fw)}
theorem Tb.below (h : Tb w u b lim q L) (hb : Below u.heap.size u u') : Tb w u' b lim q L := by
  obtain ⟨F, h1, h2⟩ := h.st
  exact ⟨⟨F, h1.below hb, h2⟩, h.inv, h.gd, h.bel.trans (hb.mono h.bel.size)⟩
theorem Tb.tab (h : Tb w u b lim q L) : TabF u := by
  obtain ⟨F, h1, h2⟩ := h.st
  exact h1.tab
theorem Tb.step {q' : Raw} {L' : List (Int × Fw)} {F : Nat → Prop} {w' : World} (g1 : St u b lim q F) (h2 : ∀ k, F k → w.heap.size ≤ k) (hbel : Below w.heap.size w u) (hb : Below u.heap.size u u') (hI : Inv lim q' L') (hG : GdL L') {F' : Nat → Prop} (k1 : St w' b lim q' F') (k2 : ∀ k, F' k → F k ∨ u'.heap.size ≤ k) (k3 : Me.Keeps F u' w') :
    Tb w w' b lim q' L' ∧ ∀ k, u.heap.size ≤ k → k < u'.heap.size → w'.heap[k]? = u'.heap[k]? := by
  have hbu : Below w.heap.size w u' := hbel.trans (hb.mono hbel.size)
  refine ⟨⟨⟨F', k1, fun k e => ?_⟩, hI, hG, kp_below k3 hbu h2 (Nat.le_refl _)⟩, fun k hk hk2 => k3.block k hk2 fun e => by have := g1.lt e; omega⟩
  rcases k2 k e with e | e
  · exact h2 k e
  · exact Nat.le_trans hbu.size e
theorem Tb.call {f : FuncId} {args : Array Value} {P : Ending → Prop} {q' : Raw} {L' : List (Int × Fw)} (h : Tb w u b lim q L) (hb : Below u.heap.size u u') (hI : Inv lim q' L') (hG : GdL L') (hla : q'.last ≤ q.last + 1) (hc : ∀ F', St u' b lim q F' → Calls Tryz.prog f args u' fun e w' => P e ∧ StD u' w' b lim q' F') :
    Calls Tryz.prog f args u' fun e w' => P e ∧ ActD w u u' b lim q w' := by
  obtain ⟨F, g1, h2⟩ := h.st
  refine (hc F (g1.below hb)).mono fun e w' ⟨hp, F', k1, k2, k3⟩ => ⟨hp, ?_⟩
  obtain ⟨m1, m2⟩ := Tb.step g1 h2 h.bel hb hI hG k1 k2 k3
  exact ⟨q', L', m1, hla, m2⟩
theorem Tb.quiet {f : FuncId} {args : Array Value} {P : Ending → Prop} (h : Tb w u b lim q L) (hb : Below u.heap.size u u') (hc : Calls Tryz.prog f args u' fun e w' => P e ∧ Below u'.heap.size u' w') :
    Calls Tryz.prog f args u' fun e w' => P e ∧ ActD w u u' b lim q w' :=
  hc.mono fun e w' ⟨hp, hb'⟩ => ⟨hp, q, L, h.below (hb.trans (hb'.mono hb.size)), by omega, fun k hk hk2 => hb'.block k hk2⟩
theorem Tb.list (h : Tb w u b lim q L) (hlim : lim ≤ 65536) (hq : q.last ≤ 1000) :
    Calls Tryz.prog 7 #[.pointer (some ⟨b, 0, none⟩)] u fun e w' => ∃ ao n cp R, e = .returned (.slice ao n cp) ∧ R.Perm (L.map (·.2)) ∧ R.Pairwise (fun x y => ltOf cmpTh y x = false) ∧ Ow.Own kF w' u.heap.size (.slice ao n cp) R ∧ Below u.heap.size u w' := by
  obtain ⟨F, h1, h2⟩ := h.st
  exact list_any u b lim q F L h1 h.inv hlim (by omega)
theorem Tb.lookAny (h : Tb w u b lim q L) (hq : q.last ≤ 1000) {s : Sp} (hs : s.Ok u) (hK : TabK u) :
    Calls Tryz.prog 9 #[.pointer (some ⟨b, 0, none⟩), .agg (pkCells s.h s.vo s.vb)] u fun e w' => (∃ v, e = .returned v) ∧ Below u.heap.size u w' := by
  obtain ⟨F, h1, h2⟩ := h.st
  cases hc : rdC s.h s.B with
  | none => exact (lookN_any u b lim q F s.h s.vo s.vb s.B h1 hs.h hs.vo hs.vb hs.lo hs.lb hK hc (fk64' h.inv hq)).mono fun e w' ⟨he, hb⟩ => ⟨⟨_, he⟩, hb⟩
  | some c => exact (look_any u b lim q F s.h s.vo s.vb s.B c h1 hs.h hs.vo hs.vb hs.lo hs.lb hc (fk64' h.inv hq)).mono fun e w' ⟨he, hb⟩ => ⟨⟨_, he⟩, hb⟩
theorem Tb.openAny (h : Tb w u b lim q L) (hb : Below u.heap.size u u') (hlim : lim ≤ 65536) (hq : q.last ≤ 1000) {s : Sp} (hs : s.Ok u') :
    Calls Tryz.prog 12 #[.pointer (some ⟨b, 0, none⟩), .agg s.th.cells, .agg s.bk.cells, .agg (pkCells s.h s.vo s.vb), .int .i64 s.now] u' fun e w' => (∃ v, e = .returned v) ∧ ActD w u u' b lim q w' := by
  obtain ⟨L', hI, hG, hla⟩ := open_inv (h := s.h) (B := s.B) h.inv h.gd hs.th hs.bk hs.now
  have hl := h.inv.lm
  have hcg := h.inv.m.cg
  have hcf := h.inv.m.cf
  exact h.call hb hI hG hla fun F' hF' => (open_any u' b lim q F' s.th s.bk s.h s.vo s.vb s.B s.now hF' hs.th hs.bk hs.h hs.vo hs.vb hs.lo hs.lb hs.now h.inv.l0 (by omega) (by omega) (by omega)).mono fun e w' ⟨he, hd⟩ => ⟨⟨_, he⟩, hd⟩
theorem Tb.moveAny (h : Tb w u b lim q L) (hb : Below u.heap.size u u') (hlim : lim ≤ 65536) (hq : q.last ≤ 1000) {s : Sp} (hs : s.Ok u') :
    Calls Tryz.prog 13 #[.pointer (some ⟨b, 0, none⟩), .agg (pkCells s.h s.vo s.vb), .int .i64 s.now] u' fun e w' => (∃ v, e = .returned v) ∧ ActD w u u' b lim q w' := by
  obtain ⟨L', hI, hG, hla⟩ := move_inv (h := s.h) (B := s.B) h.inv h.gd hs.now
  have hl := h.inv.lm
  have hcg := h.inv.m.cg
  exact h.call hb hI hG (by omega) fun F' hF' => (move_any u' b lim q F' s.h s.vo s.vb s.B s.now hF' hs.h hs.vo hs.vb hs.lo hs.lb hs.now (by omega) (fk64' h.inv hq) (gs10 h.inv)).mono fun e w' ⟨he, hd⟩ => ⟨⟨_, he⟩, hd⟩
theorem Tb.dueAny (h : Tb w u b lim q L) (hb : Below u.heap.size u u') (hlim : lim ≤ 65536) (hq : q.last ≤ 1000) {now : Int} (hn : Tm.In64 now) :
    Calls Tryz.prog 15 #[.pointer (some ⟨b, 0, none⟩), .int .i64 now] u' fun e w' => (∃ v, e = .returned v) ∧ ActD w u u' b lim q w' := by
  obtain ⟨F, g1, h2⟩ := h.st
  refine (dues_any u' b lim q F L now (g1.below hb) h.inv hlim (by omega) hn).mono ?_
  rintro e w' ⟨ao, n, cp, R, q', rfl, -, -, -, hI, hla, F', k1, k2, k3, -⟩
  obtain ⟨m1, m2⟩ := Tb.step g1 h2 h.bel hb hI (gd_filter h.gd _) k1 k2 k3
  exact ⟨⟨_, rfl⟩, q', _, m1, by omega, m2⟩
end

theorem act_any {w u u' : World} {b : Nat} {lim : Int} {q : Raw} {L : List (Int × Fw)} {s : Sp} (h : Tb w u b lim q L) (hb : Below u.heap.size u u') (hs : s.Ok u') (hlim : lim ≤ 65536) (hq : q.last ≤ 1000) (hK : TabK u') :
    Calls Tryz.prog 6 #[.pointer (some ⟨b, 0, none⟩), .agg s.cells] u' fun e w' => e = .returned (.tuple #[]) ∧ ActD w u u' b lim q w' := by
  obtain ⟨w0, HW0⟩ : ∃ w0, Hid (w0 = u'.alloc (.cells s.cells 39)) := ⟨_, rfl⟩
  obtain ⟨g0, HG0⟩ : ∃ g, Hid (g = u'.heap.size) := ⟨_, rfl⟩
  have hb0 : Below u'.heap.size u' w0 := by rw [HW0.out]; exact (Below.refl _ _).alloc (Nat.le_refl _) _
  have r0 : w0.heap[g0]? = some (.cells s.cells 39 (0, 0)) := by rw [HW0.out, HG0.out]; exact heap_alloc_new _ _
  have hbu : Below u.heap.size u w0 := hb.trans (hb0.mono hb.size)
  have hs0 := hs.below hb0
  have hK0 := hK.below hb0
  have hce : ∀ i v, s.cells[i]? = some v → w0.cell? ⟨g0, 0 + i, none⟩ = some v := fun i v hv => by rw [cell_of_row _ _ _ _ _ _ r0, Nat.zero_add]; exact hv
  have ck : w0.cell? ⟨g0, 0, none⟩ = some (.int .i64 s.k) := hce 0 _ rfl
  have cn : w0.cell? ⟨g0, 23, none⟩ = some (.int .i64 s.now) := hce 23 _ rfl
  have HPK := hid (sp_pk hce)
  have HTH := hid (sp_th hce)
  have HBK := hid (sp_bk hce)
  rw [Nat.zero_add] at HPK HTH HBK
  have hmo : ∀ w', ActD w u w0 b lim q w' → ActD w u u' b lim q w' := fun w' ⟨q', L', m1, m2, m3⟩ => ⟨q', L', m1, m2, fun k h1 h2 => (m3 k h1 (Nat.lt_of_lt_of_le h2 hb0.size)).trans (hb0.block k h2)⟩
  have HMO := hid hmo
  have HC2 := hid ((h.quiet hbu ((h.below hbu).lookAny hq hs0 hK0)))
  have HC3 := hid (h.openAny hbu hlim hq hs0)
  have HC4 := hid (h.moveAny hbu hlim hq hs0)
  have HC5 := hid (h.dueAny hbu hlim hq hs0.now)
  have HC6 : Hid (Calls Tryz.prog 7 #[.pointer (some ⟨b, 0, none⟩)] w0 fun e w' => (∃ v, e = .returned v) ∧ ActD w u w0 b lim q w') := h.quiet hbu (((h.below hbu).list hlim hq).mono fun e w' ⟨ao, n, cp, R, he, _, _, _, hb⟩ => ⟨⟨_, he⟩, hb⟩)
  have HC0 : Hid (ActD w u w0 b lim q w0) := ⟨q, L, h.below hbu, by omega, fun _ _ _ => rfl⟩
  obtain ⟨pk, HPKD⟩ : ∃ p, Hid (p = pkCells s.h s.vo s.vb) := ⟨_, rfl⟩
  rw [← HPKD.out] at HPK HC2 HC3 HC4
  generalize s.th.cells = thc at HTH HC3
  generalize s.bk.cells = bkc at HBK HC3
  generalize s.cells = sc at HW0 r0 hce ⊢
  generalize s.now = now at cn HC3 HC4 HC5
  generalize s.k = kk at ck
  clear hmo hce r0 hb hb0 hbu hs hs0 hK hK0 hlim hq h HPKD
  go_enter Tryz.func6, Tryz.ntmps6
  go_upto_region 1 with fail
  rw [← HW0.out, ← HG0.out]
  by_cases e2 : kk = 2
  · subst e2
    go_wp2_with (first | (refine wpList_ld 35 ⟨g0, 2, none⟩ (.tmp 9) rfl rfl HPK.out rfl ?_) | fail)
    refine HC2.out.mono ?_
    rintro _ w2 ⟨⟨v, rfl⟩, hd⟩
    have HD := hid (HMO.out _ hd)
    clear hd
    go_wp2_with fail
    exact bodyPost_end (results_none Tryz.results6 _ _ _) rfl ⟨rfl, HD.out⟩
  · have q2 : (kk == 2) = false := by simp [e2]
    by_cases e3 : kk = 3
    · subst e3
      go_wp2_with (first | (refine wpList_ld 37 ⟨g0, 13, none⟩ (.tmp 15) rfl rfl HTH.out rfl ?_) | (refine wpList_ld 37 ⟨g0, 18, none⟩ (.tmp 17) rfl rfl HBK.out rfl ?_) | (refine wpList_ld 35 ⟨g0, 2, none⟩ (.tmp 19) rfl rfl HPK.out rfl ?_) | fail)
      refine HC3.out.mono ?_
      rintro _ w2 ⟨⟨v, rfl⟩, hd⟩
      have HD := hid (HMO.out _ hd)
      clear hd
      go_wp2_with fail
      exact bodyPost_end (results_none Tryz.results6 _ _ _) rfl ⟨rfl, HD.out⟩
    · have q3 : (kk == 3) = false := by simp [e3]
      by_cases e4 : kk = 4
      · subst e4
        go_wp2_with (first | (refine wpList_ld 35 ⟨g0, 2, none⟩ (.tmp 27) rfl rfl HPK.out rfl ?_) | fail)
        refine HC4.out.mono ?_
        rintro _ w2 ⟨⟨v, rfl⟩, hd⟩
        have HD := hid (HMO.out _ hd)
        clear hd
        go_wp2_with fail
        exact bodyPost_end (results_none Tryz.results6 _ _ _) rfl ⟨rfl, HD.out⟩
      · have q4 : (kk == 4) = false := by simp [e4]
        by_cases e5 : kk = 5
        · subst e5
          go_wp2_with fail
          refine HC5.out.mono ?_
          rintro _ w2 ⟨⟨v, rfl⟩, hd⟩
          have HD := hid (HMO.out _ hd)
          clear hd
          go_wp2_with fail
          exact bodyPost_end (results_none Tryz.results6 _ _ _) rfl ⟨rfl, HD.out⟩
        · have q5 : (kk == 5) = false := by simp [e5]
          by_cases e6 : kk = 6
          · subst e6
            go_wp2_with fail
            refine HC6.out.mono ?_
            rintro _ w2 ⟨⟨v, rfl⟩, hd⟩
            have HD := hid (HMO.out _ hd)
            clear hd
            go_wp2_with fail
            exact bodyPost_end (results_none Tryz.results6 _ _ _) rfl ⟨rfl, HD.out⟩
          · have q6 : (kk == 6) = false := by simp [e6]
            have HD := hid (HMO.out _ HC0.out)
            clear e2 e3 e4 e5 e6
            go_wp2_with fail
            exact bodyPost_end (results_none Tryz.results6 _ _ _) rfl ⟨rfl, HD.out⟩
end Go.Proofs.YtkkfioebpppffaaGreatDoor.Fl
