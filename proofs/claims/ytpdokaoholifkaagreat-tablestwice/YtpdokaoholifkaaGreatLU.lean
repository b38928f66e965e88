/-
  tables, the law: TablesTwice.
-/
import Derived.Test.YtpdokaoholifkaaGreatLS
namespace Go.Proofs.YtpdokaoholifkaaGreat.Rt
open Go.Proofs.YtpdokaoholifkaaGreat Go.ChangeShapes Go.WideShapes Go.ChangeAt Go.RowKit Go.Maps Tri N
set_option maxHeartbeats 8000000
set_option maxRecDepth 100000

theorem ix_front {α κ : Type} [DecidableEq κ] {key : α → κ} {L : List α} {k : κ} {i : Nat} (h : ix key L k = some i) : ∀ j e, j < i → L[j]? = some e → key e ≠ k := by
  unfold ix at h
  rw [List.findIdx?_eq_some_iff_getElem] at h
  obtain ⟨hi, _, h2⟩ := h
  intro j e hj he hk
  have := h2 j hj
  obtain ⟨hjl, rfl⟩ := List.getElem?_eq_some_iff.1 he
  simp [hk] at this
theorem putK_twice {α κ : Type} [DecidableEq κ] {key : α → κ} {L : List α} (e : α) : putK key (putK key L e) e = putK key L e := by
  cases h : ix key L (key e) with
  | some i =>
    have h1 : putK key L e = L.set i e := by unfold putK; rw [h]
    obtain ⟨x, hx, _⟩ := ix_some h
    have hi : i < L.length := (List.getElem?_eq_some_iff.1 hx).1
    have h2 : ix key (L.set i e) (key e) = some i := ix_of (by rw [List.getElem?_set_self hi]) rfl fun j e' hj he => ix_front h j e' hj (by rwa [List.getElem?_set_ne (by omega)] at he)
    rw [h1]
    unfold putK
    rw [h2]
    simp
  | none =>
    have h1 : putK key L e = L ++ [e] := by unfold putK; rw [h]
    have h2 : ix key (L ++ [e]) (key e) = some L.length := ix_of (by simp) rfl fun j e' hj he => ix_none h e' (by rw [List.getElem?_append_left hj] at he; exact List.mem_of_getElem? he)
    rw [h1]
    unfold putK
    rw [h2]
    simp
theorem delK_twice {α κ : Type} [DecidableEq κ] {key : α → κ} {L : List α} (hn : Nod key L) (k : κ) : delK key (delK key L k) k = delK key L k := by
  have h : ix key (delK key L k) k = none := ix_of_none fun e he => ((mem_del hn).1 he).2
  generalize delK key L k = M at h
  unfold delK
  rw [h]
theorem one_twice {s : Ks} (h : s.Ok) (o : Opv) (h0 : oneE s o = 0) : oneE (oneS s o) o = 0 ∧ oneS (oneS s o) o = oneS s o := by
  have hS : ∀ t, oneE t o = 0 → oneS t o = (if o.kind = 1 then { t with R := putK Tri.Vt.key t.R o.r }
      else if o.kind = 2 then { t with R := delK Tri.Vt.key t.R o.r.key }
      else if o.kind = 3 then { t with N := putK Nb.ip t.N o.n }
      else if o.kind = 4 then { t with N := delK Nb.ip t.N o.n.ip }
      else if o.kind = 5 then { t with F := putK Fd.mac t.F o.f }
      else { t with F := delK Fd.mac t.F o.f.mac }) := fun t ht => by unfold oneS; rw [if_neg (fun hh => hh ht)]
  by_cases k1 : o.kind = 1
  · have e1 : oneS s o = { s with R := putK Tri.Vt.key s.R o.r } := by rw [hS s h0, if_pos k1]
    have hE : oneE (oneS s o) o = 0 := by
      rw [e1]
      unfold oneE at h0 ⊢
      rw [if_pos k1] at h0 ⊢
      split at h0
      · cases h0
      · rename_i hv
        rw [if_neg hv, if_pos]
        show (lk Tri.Vt.key (putK Tri.Vt.key s.R o.r) o.r.key).isSome = true
        rw [lk_put h.rn, if_pos rfl]; rfl
    refine ⟨hE, ?_⟩
    rw [hS _ hE, if_pos k1, e1]
    show ({ s with R := putK Tri.Vt.key (putK Tri.Vt.key s.R o.r) o.r } : Ks) = _
    rw [putK_twice]
  by_cases k2 : o.kind = 2
  · have e1 : oneS s o = { s with R := delK Tri.Vt.key s.R o.r.key } := by rw [hS s h0, if_neg k1, if_pos k2]
    have hE : oneE (oneS s o) o = 0 := by
      rw [← h0]
      unfold oneE
      rw [if_neg k1, if_pos k2, if_neg k1, if_pos k2]
    refine ⟨hE, ?_⟩
    rw [hS _ hE, if_neg k1, if_pos k2, e1]
    show ({ s with R := delK Tri.Vt.key (delK Tri.Vt.key s.R o.r.key) o.r.key } : Ks) = _
    rw [delK_twice h.rn]
  by_cases k3 : o.kind = 3
  · have e1 : oneS s o = { s with N := putK Nb.ip s.N o.n } := by rw [hS s h0, if_neg k1, if_neg k2, if_pos k3]
    have hE : oneE (oneS s o) o = 0 := by
      rw [e1]
      unfold oneE
      rw [if_neg k1, if_neg k2, if_pos k3, if_pos]
      show (lk Nb.ip (putK Nb.ip s.N o.n) o.n.ip).isSome = true
      rw [lk_put h.nn, if_pos rfl]; rfl
    refine ⟨hE, ?_⟩
    rw [hS _ hE, if_neg k1, if_neg k2, if_pos k3, e1]
    show ({ s with N := putK Nb.ip (putK Nb.ip s.N o.n) o.n } : Ks) = _
    rw [putK_twice]
  by_cases k4 : o.kind = 4
  · have e1 : oneS s o = { s with N := delK Nb.ip s.N o.n.ip } := by rw [hS s h0, if_neg k1, if_neg k2, if_neg k3, if_pos k4]
    have hE : oneE (oneS s o) o = 0 := by
      unfold oneE
      rw [if_neg k1, if_neg k2, if_neg k3, if_pos k4]
    refine ⟨hE, ?_⟩
    rw [hS _ hE, if_neg k1, if_neg k2, if_neg k3, if_pos k4, e1]
    show ({ s with N := delK Nb.ip (delK Nb.ip s.N o.n.ip) o.n.ip } : Ks) = _
    rw [delK_twice h.nn]
  by_cases k5 : o.kind = 5
  · have e1 : oneS s o = { s with F := putK Fd.mac s.F o.f } := by rw [hS s h0, if_neg k1, if_neg k2, if_neg k3, if_neg k4, if_pos k5]
    have hE : oneE (oneS s o) o = 0 := by
      rw [e1]
      unfold oneE
      rw [if_neg k1, if_neg k2, if_neg k3, if_neg k4, if_pos k5, if_pos]
      show (lk Fd.mac (putK Fd.mac s.F o.f) o.f.mac).isSome = true
      rw [lk_put h.fn, if_pos rfl]; rfl
    refine ⟨hE, ?_⟩
    rw [hS _ hE, if_neg k1, if_neg k2, if_neg k3, if_neg k4, if_pos k5, e1]
    show ({ s with F := putK Fd.mac (putK Fd.mac s.F o.f) o.f } : Ks) = _
    rw [putK_twice]
  have k6 : o.kind = 6 := by
    by_cases k6 : o.kind = 6
    · exact k6
    · unfold oneE at h0
      rw [if_neg k1, if_neg k2, if_neg k3, if_neg k4, if_neg k5, if_neg k6] at h0
      cases h0
  have e1 : oneS s o = { s with F := delK Fd.mac s.F o.f.mac } := by rw [hS s h0, if_neg k1, if_neg k2, if_neg k3, if_neg k4, if_neg k5]
  have hE : oneE (oneS s o) o = 0 := by
    unfold oneE
    rw [if_neg k1, if_neg k2, if_neg k3, if_neg k4, if_neg k5, if_pos k6]
  refine ⟨hE, ?_⟩
  rw [hS _ hE, if_neg k1, if_neg k2, if_neg k3, if_neg k4, if_neg k5, e1]
  show ({ s with F := delK Fd.mac (delK Fd.mac s.F o.f.mac) o.f.mac } : Ks) = _
  rw [delK_twice h.fn]
theorem do_two {s : Ks} (h : s.Ok) (o : Opv) : doN s [o, o] = 2 * (if oneE s o = 0 then 1 else 0) ∧ doE s [o, o] = oneE s o ∧ doS s [o, o] = oneS s o := by
  by_cases h0 : oneE s o = 0
  · obtain ⟨h1, h2⟩ := one_twice h o h0
    simp [doN, doE, doS, h0, h1, h2]
  · refine ⟨by simp [doN, h0], by simp [doE, h0], ?_⟩
    simp [doS, oneS, h0]
theorem sees_two {w : World} {g : Nat} {o : Opv} (h : w.heap[g]? = some (.cells (o.cells ++ o.cells) 49)) : SeesOp (fun c => c = g) w (some ⟨g, 0, none⟩) 2 [o, o] := by
  refine ⟨rfl, .inr ⟨g, 0, rfl, rfl, (Array.getElem?_eq_some_iff.1 h).1, fun j x hx i v hv => ?_⟩⟩
  rw [cell_of_row _ _ _ _ _ _ h, Array.getElem?_append, show o.cells.size = 19 from rfl]
  have hl : i < x.cells.toList.length := (List.getElem?_eq_some_iff.1 hv).1
  have h19 : x.cells.toList.length = 19 := rfl
  rw [h19] at hl
  match j, hx with
  | 0, hx =>
    obtain rfl := Option.some.inj hx
    rw [if_pos (by omega), show 0 + 0 * 19 + i = i by omega, ← Array.getElem?_toList]
    exact hv
  | 1, hx =>
    obtain rfl := Option.some.inj hx
    rw [if_neg (by omega), show 0 + 1 * 19 + i - 19 = i by omega, ← Array.getElem?_toList]
    exact hv
  | j + 2, hx => cases hx
theorem build2O (o : Opv) (u : World) : (Instr.buildSlice 30 2 #[(0, .agg o.cells), (1, .agg o.cells)]).run Tryz.prog u = .ok (.slice (some ⟨u.heap.size, 0, none⟩) 2 2) (u.alloc (.cells (o.cells ++ o.cells) 49)) := by kernel_rfl
theorem idxO {n cap g off j : Nat} (hm : j < n) (u : World) : (Instr.indexAt 30 (.slice (some ⟨g, off, none⟩) n cap) (.int .i64 (j : Int))).run Tryz.prog u = .ok (.pointer (some ⟨g, off + j * 19, none⟩)) u := by
  have hu : Tryz.prog.underlying 30 = some (.slice 49) := by kernel_rfl
  have hsz : (sizeOf 49).run Tryz.prog u = .ok 19 u := by kernel_rfl
  simp [Instr.indexAt, run_underlying hu, asIntOf, go_sem, hsz, Result.andThen, hm, Addr.add]
theorem one_again {s : Ks} (h : s.Ok) (o : Opv) : oneE (oneS s o) o = oneE s o ∧ oneS (oneS s o) o = oneS s o := by
  by_cases h0 : oneE s o = 0
  · obtain ⟨h1, h2⟩ := one_twice h o h0
    exact ⟨h1.trans h0.symm, h2⟩
  · have e : oneS s o = s := by unfold oneS; rw [if_pos h0]
    rw [e]
    exact ⟨rfl, e⟩
theorem K2.doK {w0 : World} {N : Nat} {w : World} {k1 k2 : Nat} {s1 s2 : Ks} (h : K2 w0 N w k1 k2 s1 s2) {K : Nat → Prop} {a : Option Addr} {n : Nat} (c : Nat) {L : List Opv} (hs : SeesOp K w a n L) (hK : ∀ c, K c → c < w0.heap.size ∨ N ≤ c) (hL : ∀ o ∈ L, o.Ok) (hn : n ≤ 9223372036854775807) :
    Calls Tryz.prog 12 #[.pointer (some ⟨k1, 0, none⟩), .slice a n c] w fun e w' => e = .returned (.tuple #[.int .i64 (doN s1 L : Int), .int .i64 (doE s1 L)]) ∧ K2 w0 N w' k1 k2 (doS s1 L) s2 ∧ (∀ c, c < w.heap.size → N ≤ c → w'.heap[c]? = w.heap[c]?) ∧ w.heap.size ≤ w'.heap.size := by
  obtain ⟨⟨b1, b2, h1, h2, rfl, e2, hd⟩, hb, hi⟩ := h
  have hne : ∀ x y, K x → fpK b1 y → x ≠ y := fun x y hx hy e => by
    have := h1.fpx hy
    have := hK x hx
    omega
  have ht : ∀ x, (x = b1.tb ∨ x = b1.bm ∨ x = b1.fm) → fpK b1 x := fun x e => by unfold fpK; rcases e with e | e | e <;> simp [e]
  refine (do_any w c h1 hs (fun c hc => ⟨hne c _ hc (ht _ (.inl rfl)), hne c _ hc (ht _ (.inr (.inl rfl))), hne c _ hc (ht _ (.inr (.inr rfl)))⟩) hL hn).mono ?_
  rintro e w' ⟨he, hk, hc⟩
  exact ⟨he, ⟨⟨b1, b2, hk, h2.chg hc (fun c hz _ => ⟨h1.fpx (ht c hz), hd c (ht c hz)⟩), rfl, e2, hd⟩, hb.trans (hc.keeps.below hb.size fun c hz => (h1.fpx (ht c hz)).1), Nat.le_trans hi hc.size⟩, fun c hl hn => hc.block c hl fun hz => (by have := h1.fpx (ht c hz); omega), hc.size⟩
/-- What an operation of the statement has given. -/
def FT2 (l : List Value) (cs : Array Value) (T : TypeId) (B : Nat) (S : World → Prop) (i : Nat) (vs : Nat → Value) (w : World) : Prop :=
  (i = 9 → ∃ b, vs 9 = .slice (some ⟨b, 0, none⟩) 2 2 ∧ B ≤ b ∧ w.heap[b]? = some (.cells cs T)) ∧ (i = 10 → S w) ∧ (i ≠ 9 → ∀ v, l[i]? = some v → vs i = v)
def RT2 (NN : Nat) (j : Nat) (w w' : World) : Prop := (j = 10 → ∀ c, c < w.heap.size → NN ≤ c → w'.heap[c]? = w.heap[c]?) ∧ (j ≠ 10 → Below w.heap.size w w')
theorem FT2.keep {l : List Value} {cs : Array Value} {T : TypeId} {B NN : Nat} {S : World → Prop} (hN : NN ≤ B) (hS : ∀ w w', S w → Below w.heap.size w w' → S w') {i j : Nat} {vs : Nat → Value} (v : Value) {w w' : World} (hij : i ≠ j) (h : FT2 l cs T B S i vs w) (hr : RT2 NN j w w') : FT2 l cs T B S i (Go.Proofs.YtpdokaoholifkaaGreat.N.upd vs j v) w' := by
  refine ⟨fun h9 => ?_, fun h10 => hS _ _ (h.2.1 h10) (hr.2 (by omega)), fun h9 x hx => (Go.Proofs.YtpdokaoholifkaaGreat.N.upd_ne v hij).trans (h.2.2 h9 x hx)⟩
  obtain ⟨b, e, hb, hh⟩ := h.1 h9
  have hl := (Array.getElem?_eq_some_iff.1 hh).1
  refine ⟨b, (Go.Proofs.YtpdokaoholifkaaGreat.N.upd_ne v (by omega)).trans e, hb, ?_⟩
  by_cases hj : j = 10
  · exact (hr.1 hj b hl (Nat.le_trans hN hb)).trans hh
  · exact below_keeps (hr.2 hj) hh hl
theorem f2_still {P : Program} {o : Oper} {a : Act} {w : World} {Q : Exit → Act → World → Prop} {l : List Value} {cs : Array Value} {T : TypeId} {B NN : Nat} {S I : World → Prop} {i : Nat} {vs : Nat → Value} {d : Option Tmp} (v : Value) (hr : (execOp a.eval o).run P w = .ok (.value v) w) (ht : o.dst = d) (h9 : i ≠ 9) (h10 : i ≠ 10) (hl : l[i]? = some v) (hI : I w) :
    o.wp P a w (fun a' w' => ∃ v', a' = a.put d v' ∧ FT2 l cs T B S i (Go.Proofs.YtpdokaoholifkaaGreat.N.upd vs i v') w' ∧ I w' ∧ RT2 NN i w w') Q :=
  wp_val hr (by rw [ht]; exact ⟨v, rfl, ⟨fun e => absurd e h9, fun e => absurd e h10, fun _ x hx => by rw [Go.Proofs.YtpdokaoholifkaaGreat.N.upd_eq]; rw [hl] at hx; exact Option.some.inj hx⟩, hI, fun e => absurd e h10, fun _ => Below.refl _ _⟩)
theorem f2_dep {a : Act} {l : List Value} {cs : Array Value} {T : TypeId} {B : Nat} {S : World → Prop} {j : Nat} {vs : Nat → Value} {w : World} {s : Tmp} {v : Value} {d : Option Tmp} (h : FT2 l cs T B S j vs w ∧ ∀ t, d = some t → a.eval (.tmp t) = vs j) (hd : d = some s) (h9 : j ≠ 9) (hl : l[j]? = some v) : a.eval (.tmp s) = v := (h.2 s hd).trans (h.1.2.2 h9 v hl)

theorem twice_walk (r n f : Int) (a : Option Addr) (l cp : Nat) (A : List Opv) (w : World) (hs : SeesOp (fun c => c < w.heap.size) w a l A) (hA : ∀ o ∈ A, o.Ok) (hl : l ≤ 9223372036854775807) :
    Calls Tryz.prog 5 #[.agg #[.int .i64 r, .int .i64 n, .int .i64 f], .slice a l cp] w fun e w' => e = .returned (.bool true) ∧ Below w.heap.size w w' := by
  obtain ⟨w1, HW1⟩ : ∃ w1, Hid (w1 = w.alloc (.cells #[.int .i64 r, .int .i64 n, .int .i64 f] 23)) := ⟨_, rfl⟩
  have hb1 : Below w.heap.size w w1 := by rw [HW1.out]; exact (Below.refl _ _).alloc (Nat.le_refl _) _
  have r1 : w1.heap[w.heap.size]? = some (.cells #[.int .i64 r, .int .i64 n, .int .i64 f] 23) := by rw [HW1.out]; exact heap_alloc_new w _
  have c0 : w1.cell? ⟨w.heap.size, 0, none⟩ = some (.int .i64 r) := by rw [cell_of_row _ _ _ _ _ _ r1]; rfl
  have c1 : w1.cell? ⟨w.heap.size, 1, none⟩ = some (.int .i64 n) := by rw [cell_of_row _ _ _ _ _ _ r1]; rfl
  have c2 : w1.cell? ⟨w.heap.size, 2, none⟩ = some (.int .i64 f) := by rw [cell_of_row _ _ _ _ _ _ r1]; rfl
  have HB1 := hid hb1
  have HR1 := hid r1
  have HNA := hid hs.1
  have HSA : Hid (SeesOp (fun c => c < w1.heap.size) w1 a l A) := (hs.below hb1).more fun c _ hc => Nat.lt_of_lt_of_le hc hb1.size
  have HA := hid hA
  have HC := hid (newK_any w1 r n f)
  clear hb1 r1 hs hA
  go_enter Tryz.func5, Tryz.ntmps5
  go_upto_region 1 with fail
  rw [← HW1.out]
  clear HW1
  go_wp2_with fail
  refine HC.out.mono ?_
  intro e w2 hp
  by_cases hcap : Cap r n f
  · obtain ⟨b1, rfl, hk1, hb2⟩ := hp.1 hcap
    have r2 := below_keeps hb2 HR1.out (Array.getElem?_eq_some_iff.1 HR1.out).1
    have d0 : w2.cell? ⟨w.heap.size, 0, none⟩ = some (.int .i64 r) := by rw [cell_of_row _ _ _ _ _ _ r2]; rfl
    have d1 : w2.cell? ⟨w.heap.size, 1, none⟩ = some (.int .i64 n) := by rw [cell_of_row _ _ _ _ _ _ r2]; rfl
    have d2 : w2.cell? ⟨w.heap.size, 2, none⟩ = some (.int .i64 f) := by rw [cell_of_row _ _ _ _ _ _ r2]; rfl
    have HK1 := hid hk1
    have HB2 := hid hb2
    have HCC := hid hcap
    have HC2 := hid (newK_any w2 r n f)
    clear hp hk1 hb2 r2 c0 c1 c2 hcap HC
    go_wp2_with fail
    refine HC2.out.mono ?_
    intro e w3 hp
    obtain ⟨b2, rfl, hk2, hb3⟩ := hp.1 HCC.out
    have HKK : Hid (∃ t, K2 w1 w3.heap.size w3 b1.kb b2.kb t t) := ⟨_, KK.new rfl HK1.out HB2.out hk2 hb3, HB2.out.trans (hb3.mono HB2.out.size), Nat.le_refl _⟩
    have HF := hid (first_any w3)
    generalize b1.kb = k1 at HKK ⊢
    generalize b2.kb = k2 at HKK ⊢
    obtain ⟨NN, HNN⟩ : ∃ NN, Hid (NN = w3.heap.size) := ⟨_, rfl⟩
    rw [← HNN.out] at HKK
    clear hp hk2 hb3 d0 d1 d2 HC2 HK1 HB2
    go_wp2_with fail
    refine HF.out.mono ?_
    rintro _ w4 ⟨rfl, hb4⟩
    have HI0 : Hid (∃ t, K2 w1 NN w4 k1 k2 t t) := by
      obtain ⟨t, ht⟩ := HKK.out
      exact ⟨t, ht.below hb4⟩
    clear hb4 HF HKK HNN
    go_upto_region 8 with fail
    go_loopw [9] (fun i wr => ∃ (j : Nat), i = .int .i64 (j : Int) ∧ j ≤ l ∧ Hid (∃ t, K2 w1 NN wr k1 k2 t t)) (fun i _ => l - (intOf i).toNat)
    case atStart => exact ⟨0, rfl, Nat.zero_le _, HI0⟩
    case round =>
    obtain ⟨j, rfl, hj, HI⟩ := hrel
    obtain ⟨t, ht⟩ := HI.out
    have HT := hid ht
    clear ht HI
    by_cases hlt : j < l
    · have hlt' : (j : Int) < (l : Int) := int_lt hlt
      have hj0 : (0 : Int) ≤ (j : Int) := by omega
      obtain ⟨o, HO⟩ : ∃ o, Hid (A[j]? = some o) := ⟨_, hid (List.getElem?_eq_getElem (by have := HNA.out; omega))⟩
      have hok := HA.out o (List.mem_of_getElem? HO.out)
      have HOK := hid hok
      obtain ⟨g, off, rfl, hld⟩ := (HSA.out.below HT.out.bel).load HO.out
      obtain ⟨v0, v1, v2, v3, v4, v5, v6, v7, v8, v9, v10, v11, v12, v13, v14, v15, v16, v17, v18, HOC⟩ : ∃ v0 v1 v2 v3 v4 v5 v6 v7 v8 v9 v10 v11 v12 v13 v14 v15 v16 v17 v18, Hid (o.cells = #[v0, v1, v2, v3, v4, v5, v6, v7, v8, v9, v10, v11, v12, v13, v14, v15, v16, v17, v18]) := ⟨_, _, _, _, _, _, _, _, _, _, _, _, _, _, _, _, _, _, _, rfl⟩
      rw [HOC.out] at hld
      have HLD := hid hld
      have HBU2 : Hid (∀ u : World, (Instr.buildSlice 30 2 #[(0, .agg #[v0, v1, v2, v3, v4, v5, v6, v7, v8, v9, v10, v11, v12, v13, v14, v15, v16, v17, v18]), (1, .agg #[v0, v1, v2, v3, v4, v5, v6, v7, v8, v9, v10, v11, v12, v13, v14, v15, v16, v17, v18])]).run Tryz.prog u = .ok (.slice (some ⟨u.heap.size, 0, none⟩) 2 2) (u.alloc (.cells (#[v0, v1, v2, v3, v4, v5, v6, v7, v8, v9, v10, v11, v12, v13, v14, v15, v16, v17, v18] ++ #[v0, v1, v2, v3, v4, v5, v6, v7, v8, v9, v10, v11, v12, v13, v14, v15, v16, v17, v18]) 49))) := fun u => by rw [← HOC.out]; exact build2O o u
      obtain ⟨w5, HW5⟩ : ∃ w5, Hid (w5 = wr.alloc (.cells #[v0, v1, v2, v3, v4, v5, v6, v7, v8, v9, v10, v11, v12, v13, v14, v15, v16, v17, v18] 49)) := ⟨_, rfl⟩
      have HC5 := hid (HT.out.one (w' := w5) (by rw [HW5.out, HOC.out]) hok)
      clear hld hok
      go_wp2_with (first | (refine wpList_ld 49 ⟨g, off + j * 19, none⟩ (.tmp 58) rfl rfl HLD.out rfl ?_) | fail)
      rw [← HW5.out]
      refine HC5.out.mono ?_
      rintro _ w6 ⟨rfl, hk6⟩
      have HT6 := hid hk6
      have HLDA : Hid (∀ u : World, Below w1.heap.size w1 u → (Instr.loadAt 49 (.pointer (some ⟨g, off + j * 19, none⟩))).run Tryz.prog u = .ok (.agg #[v0, v1, v2, v3, v4, v5, v6, v7, v8, v9, v10, v11, v12, v13, v14, v15, v16, v17, v18]) u) := fun u hu => by
        obtain ⟨g', off', hgo, hld6⟩ := (HSA.out.below hu).load HO.out
        simp only [Option.some.injEq, Addr.mk.injEq, and_true] at hgo
        obtain ⟨rfl, rfl⟩ := hgo
        rw [← HOC.out]
        exact hld6
      obtain ⟨q1, HQ1⟩ : ∃ q1 : Int, Hid (q1 = (((if oneE t o = 0 then 1 else 0 : Nat)) : Int)) := ⟨_, rfl⟩
      obtain ⟨q2, HQ2⟩ : ∃ q2 : Int, Hid (q2 = oneE t o) := ⟨_, rfl⟩
      have hq : q1 = 0 ∨ q1 = 1 := by rw [HQ1.out]; split <;> simp
      rw [← HQ1.out, ← HQ2.out]
      clear hk6 HC5 HLD HT HW5
      go_upto_region 11 with fail
      obtain ⟨s1, HS1⟩ : ∃ s1, Hid (s1 = oneS t o) := ⟨_, rfl⟩
      rw [← HS1.out] at HT6
      have HKT := hid HT6.out.swap.kk.ok
      have HSK : Hid (s1.Ok) := HT6.out.kk.ok
      obtain ⟨d1, d2, d3⟩ := do_two HKT.out o
      have hq2 : ((2 * (if oneE t o = 0 then 1 else 0) : Nat) : Int) = 2 * q1 := by rw [HQ1.out]; split <;> rfl
      obtain ⟨g1, g2⟩ := one_again HKT.out o
      obtain ⟨f1, f2, f3⟩ := do_two HSK.out o
      rw [HS1.out, g1] at f1
      rw [HS1.out, g1] at f2
      rw [HS1.out, g2] at f3
      have HCALL : Hid (∀ (u : World) (b : Nat), (K2 w1 NN u k1 k2 s1 t ∨ K2 w1 NN u k1 k2 s1 s1) → w6.heap.size ≤ b → u.heap[b]? = some (.cells (#[v0, v1, v2, v3, v4, v5, v6, v7, v8, v9, v10, v11, v12, v13, v14, v15, v16, v17, v18] ++ #[v0, v1, v2, v3, v4, v5, v6, v7, v8, v9, v10, v11, v12, v13, v14, v15, v16, v17, v18]) 49) → Calls Tryz.prog 12 #[.pointer (some ⟨k2, 0, none⟩), .slice (some ⟨b, 0, none⟩) 2 2] u fun e u' => e = .returned (.tuple #[.int .i64 (2 * q1), .int .i64 q2]) ∧ K2 w1 NN u' k1 k2 s1 s1 ∧ (∀ c, c < u.heap.size → NN ≤ c → u'.heap[c]? = u.heap[c]?) ∧ u.heap.size ≤ u'.heap.size) := by
        intro u b hI hb hr
        rw [← HOC.out] at hr
        have hlo : NN ≤ b := Nat.le_trans HT6.out.hi hb
        have hoo : ∀ x ∈ [o, o], x.Ok := fun x hx => by
          simp only [List.mem_cons, List.not_mem_nil, or_false, or_self] at hx
          rw [hx]
          exact HOK.out
        rcases hI with h | h
        · refine (h.swap.doK 2 (sees_two hr) (fun c hc => .inr (by rw [hc]; exact hlo)) hoo (by decide)).mono ?_
          rintro e u' ⟨he, hk, hx, hz⟩
          rw [d1, d2, hq2, ← HQ2.out] at he
          rw [d3, ← HS1.out] at hk
          exact ⟨he, hk.swap, hx, hz⟩
        · refine (h.swap.doK 2 (sees_two hr) (fun c hc => .inr (by rw [hc]; exact hlo)) hoo (by decide)).mono ?_
          rintro e u' ⟨he, hk, hx, hz⟩
          rw [HS1.out, f1, f2, hq2, ← HQ2.out] at he
          rw [HS1.out, f3, ← HS1.out] at hk
          exact ⟨he, hk.swap, hx, hz⟩
      clear d1 d2 d3 hq2 g1 g2 f1 f2 f3
      have HHI : Hid (NN ≤ w6.heap.size) := HT6.out.hi
      refine Go.Proofs.YtpdokaoholifkaaGreat.N.wp_region_all' 16 (fun i => ([some 65, some 66, some 67, some 68, some 69, some 70, some 71, some 72, some 73, some 74, some 75, some 64, some 76, some 77, some 12, some 13] : List (Option Tmp)).getD i none) (FT2 [.pointer (some ⟨k2, 0, none⟩), .slice (some ⟨g, off, none⟩) l cp, .int .i64 (j : Int), .pointer (some ⟨g, off + j * 19, none⟩), .agg #[v0, v1, v2, v3, v4, v5, v6, v7, v8, v9, v10, v11, v12, v13, v14, v15, v16, v17, v18], .slice (some ⟨g, off, none⟩) l cp, .int .i64 (j : Int), .pointer (some ⟨g, off + j * 19, none⟩), .agg #[v0, v1, v2, v3, v4, v5, v6, v7, v8, v9, v10, v11, v12, v13, v14, v15, v16, v17, v18], undef, .tuple #[.int .i64 (2 * q1), .int .i64 q2], .tuple #[.int .i64 (2 * q1), .int .i64 q2], .int .i64 (2 * q1), .int .i64 q2, .int .i64 (2 * q1), .int .i64 q2] (#[v0, v1, v2, v3, v4, v5, v6, v7, v8, v9, v10, v11, v12, v13, v14, v15, v16, v17, v18] ++ #[v0, v1, v2, v3, v4, v5, v6, v7, v8, v9, v10, v11, v12, v13, v14, v15, v16, v17, v18]) 49 w6.heap.size (fun u => K2 w1 NN u k1 k2 s1 s1)) (fun u => (K2 w1 NN u k1 k2 s1 t ∨ K2 w1 NN u k1 k2 s1 s1) ∧ w6.heap.size ≤ u.heap.size) (RT2 NN) (by kernel_rfl) (by kernel_rfl) ⟨.inl (HT6.out.below ⟨rfl, rfl, rfl, Nat.le_refl _, fun _ _ => rfl⟩), Nat.le_refl _⟩ (fun i j _ vs v u u' hij _ _ hf _ hr => FT2.keep HHI.out (fun _ _ h hb => h.below hb) v hij hf hr) ?_ ?_
      · simp only [Go.Proofs.YtpdokaoholifkaaGreat.N.stepsAll]
        refine ⟨?_, ?_, ?_, ?_, ?_, ?_, ?_, ?_, ?_, ?_, ?_, ?_, ?_, ?_, ?_, ?_, trivial⟩
        · intro a y vs hI hold hdep
          exact f2_still (.pointer (some ⟨k2, 0, none⟩)) (ex_move (.tmp 7) _ rfl (hold 7 (dl_of (L := [some 65, some 66, some 67, some 68, some 69, some 70, some 71, some 72, some 73, some 74, some 75, some 64, some 76, some 77, some 12, some 13]) (by decide)))) rfl (by decide) (by decide) rfl hI
        · intro a y vs hI hold hdep
          exact f2_still (.slice (some ⟨g, off, none⟩) l cp) (ex_move (.tmp 1) _ rfl (hold 1 (dl_of (L := [some 65, some 66, some 67, some 68, some 69, some 70, some 71, some 72, some 73, some 74, some 75, some 64, some 76, some 77, some 12, some 13]) (by decide)))) rfl (by decide) (by decide) rfl hI
        · intro a y vs hI hold hdep
          exact f2_still (.int .i64 (j : Int)) (ex_move (.tmp 9) _ rfl (hold 9 (dl_of (L := [some 65, some 66, some 67, some 68, some 69, some 70, some 71, some 72, some 73, some 74, some 75, some 64, some 76, some 77, some 12, some 13]) (by decide)))) rfl (by decide) (by decide) rfl hI
        · intro a y vs hI hold hdep
          exact f2_still (.pointer (some ⟨g, off + j * 19, none⟩)) (ex_index _ (.tmp 66) (.tmp 67) _ _ _ rfl (f2_dep (hdep ⟨1, .data⟩ (by simp) rfl) (s := 66) rfl (by decide) rfl) (f2_dep (hdep ⟨2, .data⟩ (by simp) rfl) (s := 67) rfl (by decide) rfl) (idxO hlt y)) rfl (by decide) (by decide) rfl hI
        · intro a y vs hI hold hdep
          exact f2_still (.agg #[v0, v1, v2, v3, v4, v5, v6, v7, v8, v9, v10, v11, v12, v13, v14, v15, v16, v17, v18]) (ex_load _ ⟨g, off + j * 19, none⟩ (.tmp 68) _ rfl (f2_dep (hdep ⟨3, .data⟩ (by simp) rfl) (s := 68) rfl (by decide) rfl) (HLDA.out y (hI.1.elim (fun h => h.bel) fun h => h.bel))) rfl (by decide) (by decide) rfl hI
        · intro a y vs hI hold hdep
          exact f2_still (.slice (some ⟨g, off, none⟩) l cp) (ex_move (.tmp 1) _ rfl (hold 1 (dl_of (L := [some 65, some 66, some 67, some 68, some 69, some 70, some 71, some 72, some 73, some 74, some 75, some 64, some 76, some 77, some 12, some 13]) (by decide)))) rfl (by decide) (by decide) rfl hI
        · intro a y vs hI hold hdep
          exact f2_still (.int .i64 (j : Int)) (ex_move (.tmp 9) _ rfl (hold 9 (dl_of (L := [some 65, some 66, some 67, some 68, some 69, some 70, some 71, some 72, some 73, some 74, some 75, some 64, some 76, some 77, some 12, some 13]) (by decide)))) rfl (by decide) (by decide) rfl hI
        · intro a y vs hI hold hdep
          exact f2_still (.pointer (some ⟨g, off + j * 19, none⟩)) (ex_index _ (.tmp 70) (.tmp 71) _ _ _ rfl (f2_dep (hdep ⟨5, .data⟩ (by simp) rfl) (s := 70) rfl (by decide) rfl) (f2_dep (hdep ⟨6, .data⟩ (by simp) rfl) (s := 71) rfl (by decide) rfl) (idxO hlt y)) rfl (by decide) (by decide) rfl hI
        · intro a y vs hI hold hdep
          exact f2_still (.agg #[v0, v1, v2, v3, v4, v5, v6, v7, v8, v9, v10, v11, v12, v13, v14, v15, v16, v17, v18]) (ex_load _ ⟨g, off + j * 19, none⟩ (.tmp 72) _ rfl (f2_dep (hdep ⟨7, .data⟩ (by simp) rfl) (s := 72) rfl (by decide) rfl) (HLDA.out y (hI.1.elim (fun h => h.bel) fun h => h.bel))) rfl (by decide) (by decide) rfl hI
        · intro a y vs hI hold hdep
          have e4 : a.eval (.tmp 69) = .agg #[v0, v1, v2, v3, v4, v5, v6, v7, v8, v9, v10, v11, v12, v13, v14, v15, v16, v17, v18] := (f2_dep (hdep ⟨4, .data⟩ (by simp) rfl) (s := 69) rfl (by decide) rfl)
          have e8 : a.eval (.tmp 73) = .agg #[v0, v1, v2, v3, v4, v5, v6, v7, v8, v9, v10, v11, v12, v13, v14, v15, v16, v17, v18] := (f2_dep (hdep ⟨8, .data⟩ (by simp) rfl) (s := 73) rfl (by decide) rfl)
          have hb' : Below y.heap.size y (y.alloc (.cells (#[v0, v1, v2, v3, v4, v5, v6, v7, v8, v9, v10, v11, v12, v13, v14, v15, v16, v17, v18] ++ #[v0, v1, v2, v3, v4, v5, v6, v7, v8, v9, v10, v11, v12, v13, v14, v15, v16, v17, v18]) 49)) := (Below.refl _ _).alloc (Nat.le_refl _) _
          exact wp_val (ex_bsE 30 2 #[(0, .tmp 69), (1, .tmp 73)] #[(0, .agg #[v0, v1, v2, v3, v4, v5, v6, v7, v8, v9, v10, v11, v12, v13, v14, v15, v16, v17, v18]), (1, .agg #[v0, v1, v2, v3, v4, v5, v6, v7, v8, v9, v10, v11, v12, v13, v14, v15, v16, v17, v18])] _ rfl (by simp only [List.map_toArray, List.map_cons, List.map_nil, e4, e8]) (HBU2.out y)) ⟨_, rfl, ⟨fun _ => ⟨y.heap.size, Go.Proofs.YtpdokaoholifkaaGreat.N.upd_eq _ _ _, hI.2, heap_alloc_new y _⟩, fun e => absurd e (by decide), fun e => absurd rfl e⟩, ⟨hI.1.imp (fun h => h.below hb') fun h => h.below hb', Nat.le_trans hI.2 hb'.size⟩, fun e => absurd e (by decide), fun _ => hb'⟩
        · intro a y vs hI hold hdep
          have e0 : a.eval (.tmp 65) = .pointer (some ⟨k2, 0, none⟩) := (f2_dep (hdep ⟨0, .data⟩ (by simp) rfl) (s := 65) rfl (by decide) rfl)
          have d9 := hdep ⟨9, .data⟩ (by simp) rfl
          obtain ⟨b, hvb, hBb, hrow⟩ := d9.1.1 rfl
          have e1 : a.eval (.tmp 74) = .slice (some ⟨b, 0, none⟩) 2 2 := (d9.2 74 rfl).trans hvb
          refine wp_call 12 _ _ rfl (enters_of Tryz.func12 (by kernel_rfl) rfl) #[.pointer (some ⟨k2, 0, none⟩), .slice (some ⟨b, 0, none⟩) 2 2] (by simp only [List.map_toArray, List.map_cons, List.map_nil, e0, e1]) ?_
          refine (HCALL.out y b hI.1 hBb hrow).mono ?_
          rintro e y' ⟨he, hk, hx, hz⟩
          exact ⟨_, he, _, rfl, ⟨fun e => absurd e (by decide), fun _ => hk, fun _ x hx => by rw [Go.Proofs.YtpdokaoholifkaaGreat.N.upd_eq]; exact Option.some.inj hx⟩, ⟨.inr hk, Nat.le_trans hI.2 hz⟩, fun _ => hx, fun e => absurd rfl e⟩
        · intro a y vs hI hold hdep
          exact f2_still (.tuple #[.int .i64 (2 * q1), .int .i64 q2]) (ex_move (.tmp 75) _ rfl (f2_dep (hdep ⟨10, .data⟩ (by simp) rfl) (s := 75) rfl (by decide) rfl)) rfl (by decide) (by decide) rfl hI
        · intro a y vs hI hold hdep
          exact f2_still (.int .i64 (2 * q1)) (ex_extract (.tmp 64) 0 _ _ rfl (f2_dep (hdep ⟨11, .data⟩ (by simp) rfl) (s := 64) rfl (by decide) rfl) rfl) rfl (by decide) (by decide) rfl hI
        · intro a y vs hI hold hdep
          exact f2_still (.int .i64 q2) (ex_extract (.tmp 64) 1 _ _ rfl (f2_dep (hdep ⟨11, .data⟩ (by simp) rfl) (s := 64) rfl (by decide) rfl) rfl) rfl (by decide) (by decide) rfl hI
        · intro a y vs hI hold hdep
          exact f2_still (.int .i64 (2 * q1)) (ex_assign (.tmp 76) _ rfl (f2_dep (hdep ⟨12, .data⟩ (by simp) rfl) (s := 76) rfl (by decide) rfl)) rfl (by decide) (by decide) rfl hI
        · intro a y vs hI hold hdep
          exact f2_still (.int .i64 q2) (ex_assign (.tmp 77) _ rfl (f2_dep (hdep ⟨13, .data⟩ (by simp) rfl) (s := 77) rfl (by decide) rfl)) rfl (by decide) (by decide) rfl hI
      intro vs y hI hF
      have e0 : vs 0 = .pointer (some ⟨k2, 0, none⟩) := (hF 0 (by decide)).2.2 (by decide) _ rfl
      have e1 : vs 1 = .slice (some ⟨g, off, none⟩) l cp := (hF 1 (by decide)).2.2 (by decide) _ rfl
      have e2 : vs 2 = .int .i64 (j : Int) := (hF 2 (by decide)).2.2 (by decide) _ rfl
      have e3 : vs 3 = .pointer (some ⟨g, off + j * 19, none⟩) := (hF 3 (by decide)).2.2 (by decide) _ rfl
      have e4 : vs 4 = .agg #[v0, v1, v2, v3, v4, v5, v6, v7, v8, v9, v10, v11, v12, v13, v14, v15, v16, v17, v18] := (hF 4 (by decide)).2.2 (by decide) _ rfl
      have e5 : vs 5 = .slice (some ⟨g, off, none⟩) l cp := (hF 5 (by decide)).2.2 (by decide) _ rfl
      have e6 : vs 6 = .int .i64 (j : Int) := (hF 6 (by decide)).2.2 (by decide) _ rfl
      have e7 : vs 7 = .pointer (some ⟨g, off + j * 19, none⟩) := (hF 7 (by decide)).2.2 (by decide) _ rfl
      have e8 : vs 8 = .agg #[v0, v1, v2, v3, v4, v5, v6, v7, v8, v9, v10, v11, v12, v13, v14, v15, v16, v17, v18] := (hF 8 (by decide)).2.2 (by decide) _ rfl
      have e10 : vs 10 = .tuple #[.int .i64 (2 * q1), .int .i64 q2] := (hF 10 (by decide)).2.2 (by decide) _ rfl
      have e11 : vs 11 = .tuple #[.int .i64 (2 * q1), .int .i64 q2] := (hF 11 (by decide)).2.2 (by decide) _ rfl
      have e12 : vs 12 = .int .i64 (2 * q1) := (hF 12 (by decide)).2.2 (by decide) _ rfl
      have e13 : vs 13 = .int .i64 q2 := (hF 13 (by decide)).2.2 (by decide) _ rfl
      have e14 : vs 14 = .int .i64 (2 * q1) := (hF 14 (by decide)).2.2 (by decide) _ rfl
      have e15 : vs 15 = .int .i64 q2 := (hF 15 (by decide)).2.2 (by decide) _ rfl
      obtain ⟨b9, e9, -, -⟩ := (hF 9 (by decide)).1 rfl
      have hk8 := (hF 10 (by decide)).2.1 rfl
      clear hF hI
      simp only [Go.Proofs.YtpdokaoholifkaaGreat.N.putsO, List.range, List.range.loop, List.foldr, if_true, List.getD_cons_zero, List.getD_cons_succ, e0, e1, e2, e3, e4, e5, e6, e7, e8, e9, e10, e11, e12, e13, e14, e15, Act.put, List.setIfInBounds_toArray, List.set_cons_zero, List.set_cons_succ]
      clear e0 e1 e2 e3 e4 e5 e6 e7 e8 e9 e10 e11 e12 e13 e14 e15
      have HI8 : Hid (∃ t, K2 w1 NN y k1 k2 t t) := ⟨_, hk8⟩
      clear hk8 HCALL HT6 HLDA HBU2 HQ1 HQ2 HS1 HKT HSK HHI HOC
      rcases hq with rfl | rfl
      all_goals
        go_wp2_with fail
        go_roundw
        case rel => exact ⟨j + 1, by go_num, hlt, HI8⟩
        case measure => simp [intOf]; omega
    · have hlt' : ¬ (j : Int) < (l : Int) := int_nlt hlt
      have HI7 := HT
      have HDA := hid HI7.out.kk.dump
      clear hlt HT
      go_wp2_with fail
      refine HDA.out.mono ?_
      rintro _ w8 ⟨v1, rfl, hd1⟩
      have hk8 := HI7.out.below hd1.bel
      have HK8 := hid hk8
      have HD1 := hid hd1
      have HDB := hid hk8.swap.kk.dump
      clear hd1 hk8 HDA
      go_wp2_with fail
      refine HDB.out.mono ?_
      rintro _ w9 ⟨v2, rfl, hd2⟩
      have HK9 := hid (HK8.out.below hd2.bel)
      have HDC := hid (dumps_two HI7.out.kk.ok HD1.out hd2)
      clear hd2 HDB HD1 HK8 HI7
      go_wp2_with fail
      refine HDC.out.mono ?_
      rintro _ w10 ⟨rfl, hb10⟩
      have HFIN : Hid (Below w.heap.size w w10) := HB1.out.trans ((HK9.out.below hb10).bel.mono HB1.out.size)
      clear hb10 HDC
      go_wp2_with fail
      go_ret
      exact ⟨rfl, HFIN.out⟩
  · obtain ⟨rfl, ew⟩ := hp.2 hcap
    obtain rfl := ew.symm
    have HCC := hid hcap
    have HC2 := hid (newK_any w1 r n f)
    clear hp ew hcap HC
    go_wp2_with fail
    refine HC2.out.mono ?_
    intro e w3 hp
    obtain ⟨rfl, ew⟩ := hp.2 HCC.out
    obtain rfl := ew.symm
    have HF := hid (first_any w1)
    clear hp ew HC2 c0 c1 c2
    go_wp2_with fail
    refine HF.out.mono ?_
    rintro _ w4 ⟨rfl, hb4⟩
    have HFIN : Hid (Below w.heap.size w w4) := HB1.out.trans (hb4.mono HB1.out.size)
    clear hb4 HF
    go_wp2_with fail
    go_ret
    exact ⟨rfl, HFIN.out⟩
end Go.Proofs.YtpdokaoholifkaaGreat.Rt
