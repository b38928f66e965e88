import Derived.Test.YthmhiehglcfepaaGreatDoorYFwF
import Derived.Test.YthmhiehglcfepaaGreatDoorEM
namespace Go.Proofs.YthmhiehglcfepaaGreatDoor.Fl
open Go.Proofs.YthmhiehglcfepaaGreatDoor Go.ChangeShapes Go.WideShapes Go.ChangeAt Go.RowKit Go.Maps N
open Go.Shelf Go.Lib
set_option maxHeartbeats 8000000
set_option maxRecDepth 100000

theorem ex_index {P : Program} {o : Oper} {a : Act} {w : World} (T : TypeId) (x y : Operand) (m k v : Value) (ho : o.op = .indexAddr T x y) (hx : a.eval x = m) (hy : a.eval y = k) (hr : (Instr.indexAt T m k).run P w = .ok v w) : (execOp a.eval o).run P w = .ok (.value v) w := by
  unfold execOp
  simp only [ho, hx, hy]
  simp [go_sem, hr]
theorem idxFl {n cap g j : Nat} (hm : j < n) (u : World) : (Instr.indexAt 29 (.slice (some ⟨g, 0, none⟩) n cap) (.int .i64 (j : Int))).run Tryz.prog u = .ok (.pointer (some ⟨g, j * 12, none⟩)) u := by
  have h2 : (j : Int) < (n : Int) := by omega
  simp [go_sem, Tryz.underlying29, h2, Addr.add, Tryz.sizeOf44]
  exact fun h => h.symm

theorem hasF_any (w : World) (B : Nat) (a : Option Addr) (n c : Nat) (W : List Fw) (f : Fw) (ho : Ow.Own kF w B (.slice a n c) W) (hm : f ∈ W) (hl : W.length ≤ 1000000) :
    Calls Tryz.prog 15 #[.slice a n c, .agg f.cells] w fun e w' => e = .returned (.bool true) ∧ Below w.heap.size w w' := by
  obtain ⟨w0, HW0⟩ : ∃ w0, Hid (w0 = w.alloc (.cells f.cells 44)) := ⟨_, rfl⟩
  have hb0 : Below w.heap.size w w0 := by rw [HW0.out]; exact (Below.refl _ _).alloc (Nat.le_refl _) _
  obtain ⟨g0, HG0⟩ : ∃ g, Hid (g = w.heap.size) := ⟨_, rfl⟩
  have r0 : w0.heap[g0]? = some (.cells f.cells 44 (0, 0)) := by rw [HW0.out, HG0.out]; exact heap_alloc_new w _
  have ho0 := ho.below hb0
  obtain ⟨_, _, _, e0, HN, -, -⟩ := ho.shape
  simp only [Value.slice.injEq] at e0
  obtain ⟨rfl, rfl, rfl⟩ := e0
  have HAT : Hid (∀ j (hj : j < W.length), ∃ g, a = some ⟨g, 0, none⟩ ∧ ∀ u : World, Below w0.heap.size w0 u → (Instr.loadAt 44 (.pointer (some ⟨g, j * 12, none⟩))).run Tryz.prog u = .ok (.agg (W[j]'hj).cells) u) := fun j hj => by
    obtain ⟨g, h1, h2, h3⟩ := ho0.at (List.getElem?_eq_getElem hj)
    exact ⟨g, h1, fun u hu => (h3 u (hu.block g h2)).2⟩
  have HL0 : Hid (∀ u : World, Below w0.heap.size w0 u → (Instr.loadAt 44 (.pointer (some ⟨g0, 0, none⟩))).run Tryz.prog u = .ok (.agg f.cells) u) := fun u hu => load_fw (below_keeps hu r0 (Array.getElem?_eq_some_iff.1 r0).1)
  have HB0 := hid hb0
  have HM := hid hm
  have hn6 : n ≤ 1000000 := by rw [HN.out]; exact hl
  have HX0 : Hid (f ∉ W.take 0) := by unfold Hid; simp
  have HBR : Hid (Below w0.heap.size w0 w0) := Below.refl _ _
  clear ho hm hl hb0 r0 ho0
  go_enter Tryz.func15, Tryz.ntmps15
  go_upto_region 1 with fail
  rw [← HW0.out, ← HG0.out]
  go_wp2_with fail
  go_loopw [5] (fun kv wr => ∃ j : Nat, kv = .int .i64 (j : Int) ∧ j ≤ n ∧ Hid (f ∉ W.take j) ∧ Hid (Below w0.heap.size w0 wr)) (fun kv _ => match kv with | .int _ z => n - z.toNat | _ => 0)
  case atStart => exact ⟨0, rfl, Nat.zero_le _, HX0, HBR⟩
  case round =>
    obtain ⟨j, rfl, hj, HX, HB⟩ := hrel
    by_cases hjn : j < n
    · have hjl : j < W.length := by rw [← HN.out]; exact hjn
      obtain ⟨g, rfl, hld⟩ := HAT.out j hjl
      obtain ⟨x, HXX⟩ : ∃ x : Fw, Hid (x = W[j]'hjl) := ⟨W[j]'hjl, rfl⟩
      have HTK : Hid (W.take (j + 1) = W.take j ++ [x]) := by unfold Hid; rw [take_one hjl, HXX.out]
      rw [← HXX.out] at hld
      have HLD := hid hld
      have HJN := hid hjn
      clear hld HXX
      go_upto_region 4 with fail
      refine wp_region_guarded' 5 (fun i => ([12, 13, 14, 15, 16] : List Tmp).getD i 0) (Vs [.slice (some ⟨g, 0, none⟩) n c, .int .i64 (j : Int), .pointer (some ⟨g, j * 12, none⟩), .agg x.cells, .agg f.cells]) (fun u => Below wr.heap.size wr u) (fun _ u u' => Below u.heap.size u u') (by kernel_rfl) (by kernel_rfl) ⟨rfl, rfl, rfl, Nat.le_refl _, fun _ _ => rfl⟩ (fun _ _ _ _ _ _ h _ _ => h) ?_ ?_
      · simp only [List.take_succ_cons, List.take_zero, stepsG]
        refine ⟨?_, ?_, ?_, ?_, ?_, trivial⟩
        · intro a u vs hI hold hdep
          exact opAt_plain rfl (wp_still (ex_move (.tmp 0) _ rfl (hold 0 (dlM (L := [12, 13, 14, 15, 16]) (by decide)))) rfl rfl hI)
        · intro a u vs hI hold hdep
          exact opAt_plain rfl (wp_still (ex_move (.tmp 5) _ rfl (hold 5 (dlM (L := [12, 13, 14, 15, 16]) (by decide)))) rfl rfl hI)
        · intro a u vs hI hold hdep
          exact opAt_plain rfl (wp_still (ex_index 29 (.tmp 12) (.tmp 13) _ _ _ rfl (Vs.dep (hdep ⟨0, .data⟩ (by simp) rfl (by decide)) rfl) (Vs.dep (hdep ⟨1, .data⟩ (by simp) rfl (by decide)) rfl) (idxFl HJN.out u)) rfl rfl hI)
        · intro a u vs hI hold hdep
          exact opAt_plain rfl (wp_still (ex_load _ ⟨g, j * 12, none⟩ (.tmp 14) _ rfl (Vs.dep (hdep ⟨2, .data⟩ (by simp) rfl (by decide)) rfl) (HLD.out u (HB.out.trans (hI.mono HB.out.size)))) rfl rfl hI)
        · intro a u vs hI hold hdep
          exact opAt_plain rfl (wp_still (ex_load _ ⟨g0, 0, none⟩ (.tmp 3) _ rfl (hold 3 (dlM (L := [12, 13, 14, 15, 16]) (by decide))) (HL0.out u (HB.out.trans (hI.mono HB.out.size)))) rfl rfl hI)
      intro vs u hI hF
      have e0 : vs 0 = .slice (some ⟨g, 0, none⟩) n c := (Option.some.inj (hF 0 (by decide))).symm
      have e1 : vs 1 = .int .i64 (j : Int) := (Option.some.inj (hF 1 (by decide))).symm
      have e2 : vs 2 = .pointer (some ⟨g, j * 12, none⟩) := (Option.some.inj (hF 2 (by decide))).symm
      have e3 : vs 3 = .agg x.cells := (Option.some.inj (hF 3 (by decide))).symm
      have e4 : vs 4 = .agg f.cells := (Option.some.inj (hF 4 (by decide))).symm
      clear hF
      simp only [List.drop_succ_cons, List.drop_zero, puts, List.range, List.range.loop, List.foldr, if_true, List.getD_cons_zero, List.getD_cons_succ, e0, e1, e2, e3, e4, Act.put, List.setIfInBounds_toArray, List.set_cons_zero, List.set_cons_succ]
      clear e0 e1 e2 e3 e4
      have HBU := hid (HB.out.trans (hI.mono HB.out.size))
      clear hI
      by_cases he : x = f
      · have HD : Hid (decide (x = f) = true) := decide_eq_true he
        clear he
        go_wp2_with (first | (refine wpList_val (ex_eqF (.tmp 15) (.tmp 16) _ x f true rfl rfl rfl HD.out) rfl ?_) | fail)
        go_ret
        exact ⟨rfl, HB0.out.trans (HBU.out.mono HB0.out.size)⟩
      · have HD : Hid (decide (x = f) = false) := decide_eq_false he
        have HX2 : Hid (f ∉ W.take (j + 1)) := by
          unfold Hid
          rw [HTK.out, List.mem_append, List.mem_singleton]
          rintro (e | e)
          · exact HX.out e
          · exact he e.symm
        clear he
        go_wp2_with (first | (refine wpList_val (ex_eqF (.tmp 15) (.tmp 16) _ x f false rfl rfl rfl HD.out) rfl ?_) | fail)
        go_roundw
        case rel => exact ⟨j + 1, rfl, by omega, HX2, HBU⟩
        case measure => simp; omega
    · exact absurd HM.out (by
        have e : W.take j = W := List.take_of_length_le (by rw [← HN.out]; omega)
        have := HX.out
        rwa [e] at this)

/-! ### a table amid a law -/
/-- A table for forty flows, all new since w; an own list of flows beside it. -/
structure Wd (w u : World) (b : Nat) (q : Raw) (L : List (Int × Fw)) (wv : Value) (W : List Fw) : Prop where
  st : ∃ F, St u b 40 q F ∧ (∀ k, F k → w.heap.size ≤ k) ∧ ∀ k, wv.ownBlock = some k → ¬ F k
  inv : Inv 40 q L
  own : Ow.Own kF u w.heap.size wv W
  bel : Below w.heap.size w u
  tl : ∀ k, isTab k → k < w.heap.size
section
variable {w u u' : World} {b : Nat} {q : Raw} {L : List (Int × Fw)} {wv : Value} {W : List Fw}
theorem Wd.below (h : Wd w u b q L wv W) (hb : Below u.heap.size u u') : Wd w u' b q L wv W := by
  obtain ⟨F, h1, h2, h3⟩ := h.st
  exact ⟨⟨F, h1.below hb, h2, h3⟩, h.inv, h.own.below hb, h.bel.trans (hb.mono h.bel.size), h.tl⟩
theorem Wd.call {f : FuncId} {args : Array Value} {P : Ending → Prop} {q' : Raw} {L' : List (Int × Fw)} (h0 : Wd w u b q L wv W) (hb : Below u.heap.size u u') (hI : Inv 40 q' L') (hc : ∀ F', St u' b 40 q F' → Calls Tryz.prog f args u' fun e w' => P e ∧ StD u' w' b 40 q' F') :
    Calls Tryz.prog f args u' fun e w' => P e ∧ Wd w w' b q' L' wv W ∧ ∀ k, u.heap.size ≤ k → k < u'.heap.size → w'.heap[k]? = u'.heap[k]? := by
  obtain ⟨F, g1, h2, h3⟩ := h0.st
  have h1 := g1.below hb
  have h := h0.below hb
  refine (hc F h1).mono fun e w' ⟨hp, F', k1, k2, k3⟩ => ⟨hp, ⟨⟨F', k1, fun k e => ?_, fun k e e2 => ?_⟩, hI, h.own.keeps k3 fun k e => h3 k e, kp_below k3 h.bel h2 (Nat.le_refl _), h.tl⟩, fun k hk hk2 => k3.block k hk2 fun e => by have := g1.lt e; omega⟩
  · rcases k2 k e with e | e
    · exact h2 k e
    · exact Nat.le_trans h.bel.size e
  · rcases k2 k e2 with e2 | e2
    · exact h3 k e e2
    · have := (h.own.lt e).2
      omega

theorem udp_facts {t : Tu} (ht : t.Ok) (hp : t.p = 17) : rdC (mdH t) (mdB t 0) = some (.dg t.sp t.dp) ∧ tupC (mdH t) (.dg t.sp t.dp) = t := by
  have hc := rdC_made (.inr (.inr hp)) ht 0
  have e : mdC t 0 = .dg t.sp t.dp := by unfold mdC; rw [if_neg (by omega), if_neg (by omega)]
  have h2 := tup_made (t := t) (fun h => by omega) 0
  rw [e] at hc h2
  exact ⟨hc, h2⟩
/-- A datagram's flow as it is opened. -/
def udF (t : Tu) (now : Int) : Fw := ⟨t, t.back, 1, Tm.aft now 30⟩
theorem udF_eq (t : Tu) (hp : t.p = 17) (now : Int) : opF t t.back (.dg t.sp t.dp) now = udF t now := by
  unfold opF kpF udF
  simp only [fst0]
  rw [hp, show spanF 1 17 = 30 from by decide]
theorem udp_room {t : Tu} (ht : t.Ok) (hp : t.p = 17) (hn : t.back ≠ t) (I : Inv 40 q L) (hf : ∀ p ∈ L, t ≠ p.2.th ∧ t ≠ p.2.bk ∧ t.back ≠ p.2.th ∧ t.back ≠ p.2.bk) (hl : L.length < 40) : opnE 40 q t t.back (mdH t) (mdB t 0) = 0 := by
  obtain ⟨h1, h2⟩ := udp_facts ht hp
  have hnone : ∀ s, (∀ p ∈ L, s ≠ p.2.th ∧ s ≠ p.2.bk) → q.f s = none := fun s hs => by
    cases h : q.f s with
    | none => rfl
    | some k =>
      obtain ⟨f, hf, e⟩ := (I.m.fk s k).1 h
      have := hs _ hf
      rcases e with e | e
      · exact absurd e this.1
      · exact absurd e this.2
  have e1 := hnone t fun p hp => ⟨(hf p hp).1, (hf p hp).2.1⟩
  have e2 := hnone t.back fun p hp => ⟨(hf p hp).2.2.1, (hf p hp).2.2.2⟩
  unfold opnE
  rw [h1]
  simp only
  rw [if_neg (by simp [h2]), if_neg (by
    rintro (e | e | e)
    · simp [fst0] at e
    · exact e rfl
    · exact hn e), if_neg (by simp [e1, e2]), if_neg (by rw [I.m.cg]; omega)]

/-- Open of a datagram. -/
theorem Wd.open (h : Wd w u b q L wv W) (hb : Below u.heap.size u u') (hq : q.last ≤ 1000) {t : Tu} (ht : t.Ok) (hp : t.p = 17) {now : Int} (hnow : Tm.In64 now) (ao : Option Addr) (n cap : Nat) (hs : SeesB u' (.slice ao n cap) (mdB t 0)) :
    Calls Tryz.prog 10 #[.pointer (some ⟨b, 0, none⟩), .agg t.cells, .agg t.back.cells, .agg (pkCells (mdH t) (.slice none 0 0) (.slice ao n cap)), .int .i64 now] u' fun e w' => ∃ (err : Int) (q' : Raw) (L' : List (Int × Fw)), e = .returned (.int .i64 err) ∧ Wd w w' b q' L' wv W ∧ (∀ k, u.heap.size ≤ k → k < u'.heap.size → w'.heap[k]? = u'.heap[k]?) ∧ err = opnE 40 q t t.back (mdH t) (mdB t 0) ∧ (err = 0 → L' = L ++ [(q.last + 1, udF t now)] ∧ q'.last = q.last + 1) ∧ (err ≠ 0 → L' = L ∧ q' = q) := by
  obtain ⟨h1, h2⟩ := udp_facts ht hp
  have hl := h.inv.lm
  have hcg := h.inv.m.cg
  have hcf := h.inv.m.cf
  have HO : ∀ F', St u' b 40 q F' → Calls Tryz.prog 10 #[.pointer (some ⟨b, 0, none⟩), .agg t.cells, .agg t.back.cells, .agg (pkCells (mdH t) (.slice none 0 0) (.slice ao n cap)), .int .i64 now] u' fun e w' => e = .returned (.int .i64 (opnE 40 q t t.back (mdH t) (mdB t 0))) ∧ StD u' w' b 40 (opnR 40 q t t.back (mdH t) (mdB t 0) now) F' := fun F' hF' =>
    open_any u' b 40 q F' t t.back (mdH t) (.slice none 0 0) (.slice ao n cap) (mdB t 0) now hF' ht ht.back (mdH_ok ht) (sees_nil _) hs (by show 0 ≤ _; omega) (by rw [mdB_len]; split <;> omega) hnow h.inv.l0 (by omega) (by omega) (by omega)
  by_cases e0 : opnE 40 q t t.back (mdH t) (mdB t 0) = 0
  · obtain ⟨hI, hla⟩ := inv_open (now := now) h.inv e0 h1 ht ht.back hnow
    rw [udF_eq t hp now] at hI
    exact (h.call hb hI HO).mono fun e w' ⟨he, hw, hk⟩ => ⟨_, _, _, he, hw, hk, rfl, fun _ => ⟨rfl, hla⟩, fun hne => absurd e0 hne⟩
  · have er : opnR 40 q t t.back (mdH t) (mdB t 0) now = q := by unfold opnR; rw [if_neg e0]
    rw [er] at HO
    exact (h.call hb h.inv HO).mono fun e w' ⟨he, hw, hk⟩ => ⟨_, _, _, he, hw, hk, rfl, fun h0 => absurd h0 e0, fun _ => ⟨rfl, rfl⟩⟩

/-- Due. -/
theorem Wd.due (h : Wd w u b q L wv W) (hq : q.last ≤ 1000) {now : Int} (hnow : Tm.In64 now) :
    Calls Tryz.prog 14 #[.pointer (some ⟨b, 0, none⟩), .int .i64 now] u fun e w' => ∃ ao n cp R q', e = .returned (.slice ao n cp) ∧ R.Perm ((L.filter (lateB now)).map (·.2)) ∧ R.Pairwise (fun x y => ltOf cmpEn y x = false) ∧ Ow.Own kF w' u.heap.size (.slice ao n cp) R ∧ q'.last = q.last ∧ Wd w w' b q' (L.filter (stayB now)) wv W := by
  obtain ⟨F, h1, h2, h3⟩ := h.st
  refine (dues_any u b 40 q F L now h1 h.inv (by omega) (by omega) hnow).mono ?_
  rintro e w' ⟨ao, n, cp, R, q', rfl, hp, hr, ho, hI, hla, F', k1, k2, k3, k4⟩
  refine ⟨ao, n, cp, R, q', rfl, hp, hr, ho, hla, ⟨F', k1, fun k e => ?_, fun k e e2 => ?_⟩, hI, h.own.keeps k3 fun k e => h3 k e, kp_below k3 h.bel h2 (Nat.le_refl _), h.tl⟩
  · rcases k2 k e with e | e
    · exact h2 k e
    · exact Nat.le_trans h.bel.size e
  · rcases k2 k e2 with e2 | e2
    · exact h3 k e e2
    · have := (h.own.lt e).2
      omega
/-- List: how many there are. -/
theorem Wd.list (h : Wd w u b q L wv W) (hq : q.last ≤ 1000) :
    Calls Tryz.prog 13 #[.pointer (some ⟨b, 0, none⟩)] u fun e w' => ∃ ao cp, e = .returned (.slice ao L.length cp) ∧ Below u.heap.size u w' := by
  obtain ⟨F, h1, h2, h3⟩ := h.st
  refine (list_any u b 40 q F L h1 h.inv (by omega) (by omega)).mono ?_
  rintro e w' ⟨ao, n, cp, R, rfl, hp, -, ho, hb⟩
  obtain ⟨_, _, _, e0, HN, -, -⟩ := ho.shape
  simp only [Value.slice.injEq] at e0
  obtain ⟨rfl, rfl, rfl⟩ := e0
  have : n = L.length := by rw [HN.out, hp.length_eq, List.length_map]
  subst this
  exact ⟨ao, cp, rfl, hb⟩
/-- Look at a datagram of no flow. -/
theorem Wd.look (h : Wd w u b q L wv W) (hq : q.last ≤ 1000) {t : Tu} (ht : t.Ok) (hp : t.p = 17) (hf : ∀ p ∈ L, t ≠ p.2.th ∧ t ≠ p.2.bk) (ao : Option Addr) (n cap : Nat) (hs : SeesB u (.slice ao n cap) (mdB t 0)) :
    Calls Tryz.prog 16 #[.pointer (some ⟨b, 0, none⟩), .agg (pkCells (mdH t) (.slice none 0 0) (.slice ao n cap))] u fun e w' => e = .returned (.agg (trC 1 zFw false)) ∧ Below u.heap.size u w' := by
  obtain ⟨F, h1, h2, h3⟩ := h.st
  obtain ⟨g1, g2⟩ := udp_facts ht hp
  have hnone : q.f t = none := by
    cases hx : q.f t with
    | none => rfl
    | some k =>
      obtain ⟨f, hm, e⟩ := (h.inv.m.fk t k).1 hx
      have := hf _ hm
      rcases e with e | e
      · exact absurd e this.1
      · exact absurd e this.2
  have hk : ∀ t k, q.f t = some k → Tm.In64 k := fun t k e => by
    obtain ⟨f, hm, _⟩ := (h.inv.m.fk t k).1 e
    have := h.inv.m.pos _ hm
    simp only at this
    exact ⟨by omega, by omega⟩
  have := look_any u b 40 q F (mdH t) (.slice none 0 0) (.slice ao n cap) (mdB t 0) _ h1 (mdH_ok ht) (sees_nil _) hs (by show 0 ≤ _; omega) (by rw [mdB_len]; split <;> omega) g1 hk
  rw [g2] at this
  unfold lookP at this
  rw [hnone] at this
  exact this
/-- A flow is appended to the own list. -/
theorem Wd.push (h : Wd w u b q L wv W) {f : Fw} {v' : Value} (ho : Ow.Own kF u' w.heap.size v' (W ++ [f])) (hg : u.grownBy u' wv.ownBlock) (hn : Me.NwB wv v' u.heap.size) : Wd w u' b q L v' (W ++ [f]) := by
  obtain ⟨F, h1, h2, h3⟩ := h.st
  have hk : Me.Keeps (fun k => wv.ownBlock = some k) u u' := Me.Keeps.grown hg fun k e => e
  refine ⟨⟨F, h1.keeps hk (fun k e e2 => h3 k e2 e) (fun k e e2 => by have := h.tl k e; have := (h.own.lt e2).1; omega), h2, fun k e e2 => ?_⟩, h.inv, ho, kp_below hk h.bel (fun k e => (h.own.lt e).1) (Nat.le_refl _), h.tl⟩
  rcases hn k e with e | e
  · exact h3 k e e2
  · have := h1.lt e2
    omega
end
end Go.Proofs.YthmhiehglcfepaaGreatDoor.Fl
