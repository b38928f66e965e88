import Derived.Test.YtkkfioebpppffaaGreatDoorYFwF
import Derived.Test.YtkkfioebpppffaaGreatDoorEM
namespace Go.Proofs.YtkkfioebpppffaaGreatDoor.Fl
open Go.Proofs.YtkkfioebpppffaaGreatDoor Go.ChangeShapes Go.WideShapes Go.ChangeAt Go.RowKit Go.Maps N
open Go.Shelf Go.Lib
set_option maxHeartbeats 8000000
set_option maxRecDepth 100000

theorem ex_index {P : Program} {o : Oper} {a : Act} {w : World} (T : TypeId) (x y : Operand) (m k v : Value) (ho : o.op = .indexAddr T x y) (hx : a.eval x = m) (hy : a.eval y = k) (hr : (Instr.indexAt T m k).run P w = .ok v w) : (execOp a.eval o).run P w = .ok (.value v) w := by
  unfold execOp
  simp only [ho, hx, hy]
  simp [go_sem, hr]
theorem idxFl {n cap g j : Nat} (hm : j < n) (u : World) : (Instr.indexAt 41 (.slice (some ⟨g, 0, none⟩) n cap) (.int .i64 (j : Int))).run Tryz.prog u = .ok (.pointer (some ⟨g, j * 12, none⟩)) u := by
  have h2 : (j : Int) < (n : Int) := by omega
  simp [go_sem, Tryz.underlying41, h2, Addr.add, Tryz.sizeOf45]
  exact fun h => h.symm

/-- A table for forty flows, all new since w; an own list of flows beside it. -/
structure Wd (w u : World) (b : Nat) (q : Raw) (L : List (Int × Fw)) (wv : Value) (W : List Fw) : Prop where
  st : ∃ F, St u b 40 q F ∧ (∀ k, F k → w.heap.size ≤ k) ∧ ∀ k, wv.ownBlock = some k → ¬ F k
  inv : Inv 40 q L
  own : Ow.Own kF u w.heap.size wv W
  bel : Below w.heap.size w u
  tl : ∀ k, isTab k → k < w.heap.size
section
variable {w u u' : World} {b : Nat} {q : Raw} {L : List (Int × Fw)} {wv : Value} {W : List Fw}
theorem Wd.below (h : Wd w u b q L wv W) (hb : Below u.heap.size u u') : Wd w u' b q L wv W := by
  obtain ⟨F, h1, h2, h3⟩ := h.st
  exact ⟨⟨F, h1.below hb, h2, h3⟩, h.inv, h.own.below hb, h.bel.trans (hb.mono h.bel.size), h.tl⟩
theorem Wd.call {f : FuncId} {args : Array Value} {P : Ending → Prop} {q' : Raw} {L' : List (Int × Fw)} (h0 : Wd w u b q L wv W) (hb : Below u.heap.size u u') (hI : Inv 40 q' L') (hc : ∀ F', St u' b 40 q F' → Calls Tryz.prog f args u' fun e w' => P e ∧ StD u' w' b 40 q' F') :
    Calls Tryz.prog f args u' fun e w' => P e ∧ Wd w w' b q' L' wv W ∧ ∀ k, u.heap.size ≤ k → k < u'.heap.size → w'.heap[k]? = u'.heap[k]? := by
  obtain ⟨F, g1, h2, h3⟩ := h0.st
  have h1 := g1.below hb
  have h := h0.below hb
  refine (hc F h1).mono fun e w' ⟨hp, F', k1, k2, k3⟩ => ⟨hp, ⟨⟨F', k1, fun k e => ?_, fun k e e2 => ?_⟩, hI, h.own.keeps k3 fun k e => h3 k e, kp_below k3 h.bel h2 (Nat.le_refl _), h.tl⟩, fun k hk hk2 => k3.block k hk2 fun e => by have := g1.lt e; omega⟩
  · rcases k2 k e with e | e
    · exact h2 k e
    · exact Nat.le_trans h.bel.size e
  · rcases k2 k e2 with e2 | e2
    · exact h3 k e e2
    · have := (h.own.lt e).2
      omega

theorem udp_facts {t : Tu} (ht : t.Ok) (hp : t.p = 17) : rdC (mdH t) (mdB t 0) = some (.dg t.sp t.dp) ∧ tupC (mdH t) (.dg t.sp t.dp) = t := by
  have hc := rdC_made (.inr (.inr hp)) ht 0
  have e : mdC t 0 = .dg t.sp t.dp := by unfold mdC; rw [if_neg (by omega), if_neg (by omega)]
  have h2 := tup_made (t := t) (fun h => by omega) 0
  rw [e] at hc h2
  exact ⟨hc, h2⟩
/-- A datagram's flow as it is opened. -/
def udF (t : Tu) (now : Int) : Fw := ⟨t, t.back, 1, Tm.aft now 30⟩
theorem udF_eq (t : Tu) (hp : t.p = 17) (now : Int) : opF t t.back (.dg t.sp t.dp) now = udF t now := by
  unfold opF kpF udF
  simp only [fst0]
  rw [hp, show spanF 1 17 = 30 from by decide]
theorem udp_room {t : Tu} (ht : t.Ok) (hp : t.p = 17) (hn : t.back ≠ t) (I : Inv 40 q L) (hf : ∀ p ∈ L, t ≠ p.2.th ∧ t ≠ p.2.bk ∧ t.back ≠ p.2.th ∧ t.back ≠ p.2.bk) (hl : L.length < 40) : opnE 40 q t t.back (mdH t) (mdB t 0) = 0 := by
  obtain ⟨h1, h2⟩ := udp_facts ht hp
  have hnone : ∀ s, (∀ p ∈ L, s ≠ p.2.th ∧ s ≠ p.2.bk) → q.f s = none := fun s hs => by
    cases h : q.f s with
    | none => rfl
    | some k =>
      obtain ⟨f, hf, e⟩ := (I.m.fk s k).1 h
      have := hs _ hf
      rcases e with e | e
      · exact absurd e this.1
      · exact absurd e this.2
  have e1 := hnone t fun p hp => ⟨(hf p hp).1, (hf p hp).2.1⟩
  have e2 := hnone t.back fun p hp => ⟨(hf p hp).2.2.1, (hf p hp).2.2.2⟩
  unfold opnE
  rw [h1]
  simp only
  rw [if_neg (by simp [h2]), if_neg (by
    rintro (e | e | e)
    · simp [fst0] at e
    · exact e rfl
    · exact hn e), if_neg (by simp [e1, e2]), if_neg (by rw [I.m.cg]; omega)]

/-- Open of a datagram. -/
theorem Wd.open (h : Wd w u b q L wv W) (hb : Below u.heap.size u u') (hq : q.last ≤ 1000) {t : Tu} (ht : t.Ok) (hp : t.p = 17) {now : Int} (hnow : Tm.In64 now) (ao : Option Addr) (n cap : Nat) (hs : SeesB u' (.slice ao n cap) (mdB t 0)) :
    Calls Tryz.prog 12 #[.pointer (some ⟨b, 0, none⟩), .agg t.cells, .agg t.back.cells, .agg (pkCells (mdH t) (.slice none 0 0) (.slice ao n cap)), .int .i64 now] u' fun e w' => ∃ (err : Int) (q' : Raw) (L' : List (Int × Fw)), e = .returned (.int .i64 err) ∧ Wd w w' b q' L' wv W ∧ (∀ k, u.heap.size ≤ k → k < u'.heap.size → w'.heap[k]? = u'.heap[k]?) ∧ err = opnE 40 q t t.back (mdH t) (mdB t 0) ∧ (err = 0 → L' = L ++ [(q.last + 1, udF t now)] ∧ q'.last = q.last + 1) ∧ (err ≠ 0 → L' = L ∧ q' = q) := by
  obtain ⟨h1, h2⟩ := udp_facts ht hp
  have hl := h.inv.lm
  have hcg := h.inv.m.cg
  have hcf := h.inv.m.cf
  have HO : ∀ F', St u' b 40 q F' → Calls Tryz.prog 12 #[.pointer (some ⟨b, 0, none⟩), .agg t.cells, .agg t.back.cells, .agg (pkCells (mdH t) (.slice none 0 0) (.slice ao n cap)), .int .i64 now] u' fun e w' => e = .returned (.int .i64 (opnE 40 q t t.back (mdH t) (mdB t 0))) ∧ StD u' w' b 40 (opnR 40 q t t.back (mdH t) (mdB t 0) now) F' := fun F' hF' =>
    open_any u' b 40 q F' t t.back (mdH t) (.slice none 0 0) (.slice ao n cap) (mdB t 0) now hF' ht ht.back (mdH_ok ht) (sees_nil _) hs (by show 0 ≤ _; omega) (by rw [mdB_len]; split <;> omega) hnow h.inv.l0 (by omega) (by omega) (by omega)
  by_cases e0 : opnE 40 q t t.back (mdH t) (mdB t 0) = 0
  · obtain ⟨hI, hla⟩ := inv_open (now := now) h.inv e0 h1 ht ht.back hnow
    rw [udF_eq t hp now] at hI
    exact (h.call hb hI HO).mono fun e w' ⟨he, hw, hk⟩ => ⟨_, _, _, he, hw, hk, rfl, fun _ => ⟨rfl, hla⟩, fun hne => absurd e0 hne⟩
  · have er : opnR 40 q t t.back (mdH t) (mdB t 0) now = q := by unfold opnR; rw [if_neg e0]
    rw [er] at HO
    exact (h.call hb h.inv HO).mono fun e w' ⟨he, hw, hk⟩ => ⟨_, _, _, he, hw, hk, rfl, fun h0 => absurd h0 e0, fun _ => ⟨rfl, rfl⟩⟩

/-- Due. -/
theorem Wd.due (h : Wd w u b q L wv W) (hq : q.last ≤ 1000) {now : Int} (hnow : Tm.In64 now) :
    Calls Tryz.prog 15 #[.pointer (some ⟨b, 0, none⟩), .int .i64 now] u fun e w' => ∃ ao n cp R q', e = .returned (.slice ao n cp) ∧ R.Perm ((L.filter (lateB now)).map (·.2)) ∧ R.Pairwise (fun x y => ltOf cmpEn y x = false) ∧ Ow.Own kF w' u.heap.size (.slice ao n cp) R ∧ q'.last = q.last ∧ Wd w w' b q' (L.filter (stayB now)) wv W := by
  obtain ⟨F, h1, h2, h3⟩ := h.st
  refine (dues_any u b 40 q F L now h1 h.inv (by omega) (by omega) hnow).mono ?_
  rintro e w' ⟨ao, n, cp, R, q', rfl, hp, hr, ho, hI, hla, F', k1, k2, k3, k4⟩
  refine ⟨ao, n, cp, R, q', rfl, hp, hr, ho, hla, ⟨F', k1, fun k e => ?_, fun k e e2 => ?_⟩, hI, h.own.keeps k3 fun k e => h3 k e, kp_below k3 h.bel h2 (Nat.le_refl _), h.tl⟩
  · rcases k2 k e with e | e
    · exact h2 k e
    · exact Nat.le_trans h.bel.size e
  · rcases k2 k e2 with e2 | e2
    · exact h3 k e e2
    · have := (h.own.lt e).2
      omega
/-- List: how many there are. -/
theorem Wd.list (h : Wd w u b q L wv W) (hq : q.last ≤ 1000) :
    Calls Tryz.prog 7 #[.pointer (some ⟨b, 0, none⟩)] u fun e w' => ∃ ao cp, e = .returned (.slice ao L.length cp) ∧ Below u.heap.size u w' := by
  obtain ⟨F, h1, h2, h3⟩ := h.st
  refine (list_any u b 40 q F L h1 h.inv (by omega) (by omega)).mono ?_
  rintro e w' ⟨ao, n, cp, R, rfl, hp, -, ho, hb⟩
  obtain ⟨_, _, _, e0, HN, -, -⟩ := ho.shape
  simp only [Value.slice.injEq] at e0
  obtain ⟨rfl, rfl, rfl⟩ := e0
  have : n = L.length := by rw [HN.out, hp.length_eq, List.length_map]
  subst this
  exact ⟨ao, cp, rfl, hb⟩
/-- Look at a datagram of no flow. -/
theorem Wd.look (h : Wd w u b q L wv W) (hq : q.last ≤ 1000) {t : Tu} (ht : t.Ok) (hp : t.p = 17) (hf : ∀ p ∈ L, t ≠ p.2.th ∧ t ≠ p.2.bk) (ao : Option Addr) (n cap : Nat) (hs : SeesB u (.slice ao n cap) (mdB t 0)) :
    Calls Tryz.prog 9 #[.pointer (some ⟨b, 0, none⟩), .agg (pkCells (mdH t) (.slice none 0 0) (.slice ao n cap))] u fun e w' => e = .returned (.agg (trC 1 zFw false)) ∧ Below u.heap.size u w' := by
  obtain ⟨F, h1, h2, h3⟩ := h.st
  obtain ⟨g1, g2⟩ := udp_facts ht hp
  have hnone : q.f t = none := by
    cases hx : q.f t with
    | none => rfl
    | some k =>
      obtain ⟨f, hm, e⟩ := (h.inv.m.fk t k).1 hx
      have := hf _ hm
      rcases e with e | e
      · exact absurd e this.1
      · exact absurd e this.2
  have hk : ∀ t k, q.f t = some k → Tm.In64 k := fun t k e => by
    obtain ⟨f, hm, _⟩ := (h.inv.m.fk t k).1 e
    have := h.inv.m.pos _ hm
    simp only at this
    exact ⟨by omega, by omega⟩
  have := look_any u b 40 q F (mdH t) (.slice none 0 0) (.slice ao n cap) (mdB t 0) _ h1 (mdH_ok ht) (sees_nil _) hs (by show 0 ≤ _; omega) (by rw [mdB_len]; split <;> omega) g1 hk
  rw [g2] at this
  unfold lookP at this
  rw [hnone] at this
  exact this
/-- A flow is appended to the own list. -/
theorem Wd.push (h : Wd w u b q L wv W) {f : Fw} {v' : Value} (ho : Ow.Own kF u' w.heap.size v' (W ++ [f])) (hg : u.grownBy u' wv.ownBlock) (hn : Me.NwB wv v' u.heap.size) : Wd w u' b q L v' (W ++ [f]) := by
  obtain ⟨F, h1, h2, h3⟩ := h.st
  have hk : Me.Keeps (fun k => wv.ownBlock = some k) u u' := Me.Keeps.grown hg fun k e => e
  refine ⟨⟨F, h1.keeps hk (fun k e e2 => h3 k e2 e) (fun k e e2 => by have := h.tl k e; have := (h.own.lt e2).1; omega), h2, fun k e e2 => ?_⟩, h.inv, ho, kp_below hk h.bel (fun k e => (h.own.lt e).1) (Nat.le_refl _), h.tl⟩
  rcases hn k e with e | e
  · exact h3 k e e2
  · have := h1.lt e2
    omega
end
end Go.Proofs.YtkkfioebpppffaaGreatDoor.Fl
