/-
  TrieLeft's walk.
-/
import Derived.Test.YtmnafocmbcgdiaaYK
import Derived.Test.YtmnafocmbcgdiaaYL
namespace Go.Proofs.Ytmnafocmbcgdiaa
open Go.ChangeShapes Go.WideShapes Go.ChangeAt Go.RowKit Go.Shelf Tri N
attribute [local go_sem] Oper.semAt_some
set_option maxHeartbeats 16000000
set_option maxRecDepth 100000

theorem Lies.anti {w : World} {X Y : Nat → Prop} {m : MT} (hXY : ∀ b, Y b → X b) (h : Lies w X m) : Lies w Y m := by
  induction m with
  | nil => trivial
  | node b c k u l r il ir =>
    obtain ⟨h1, h2, h3, h4, h5⟩ := h
    exact ⟨fun hy => h1 (hXY _ hy), h2, fun v hv => ⟨fun hy => (h3 v hv).1 (hXY _ hy), (h3 v hv).2⟩, il h4, ir h5⟩

theorem TrieAt.anti {w : World} {X Y : Nat → Prop} {tb : Nat} {t : Tr} (h : TrieAt w X tb t) (hXY : ∀ b, Y b → X b) (hy : Y tb) : TrieAt w Y tb t := by
  obtain ⟨_, h2, ⟨m, h3, h4, h5⟩, h6⟩ := h
  exact ⟨hy, fun b hb => h2 b (hXY b hb), ⟨m, h3, h4, h5.anti hXY⟩, h6⟩

/-- The box sb is none of the tree's. -/
theorem TrieAt.setBox {w : World} {tb sb : Nat} {t : Tr} (h : TrieAt w (fun b => b = tb ∨ b = sb) tb t) (hne : tb ≠ sb) (v : Value) : TrieAt (w.setCell ⟨sb, 0, none⟩ v) (fun b => b = tb ∨ b = sb) tb t := by
  obtain ⟨h1, h2, ⟨m, h3, h4, h5⟩, h6⟩ := h
  have hc : Chg (fun b => b = tb ∨ b = sb) w (w.setCell ⟨sb, 0, none⟩ v) := (Chg.of_but (X := fun b => b = sb) (But.set _ _ _ _) rfl).mono fun b hb => .inr hb
  have hb := But.set sb 0 w v
  exact ⟨h1, fun b hb => Nat.lt_of_lt_of_le (h2 b hb) hc.size, ⟨m, (hb.block tb (Array.getElem?_eq_some_iff.1 h3).1 hne).trans h3, h4, h5.chg hc⟩, h6⟩

theorem left1_any (x : K) (v : Int) (cb sb k st : Nat) (W : World) (hc : W.heap[cb]? = some (.cells #[.int .i64 (k : Int)] 3)) (hs : W.heap[sb]? = some (.cells #[.int .i64 (st : Int)] 3)) (hne : sb ≠ cb) (hk : k < 4294967296) :
    Calls Try.prog 26 #[pv x, .int .i64 v, .pointer (some ⟨cb, 0, none⟩), .pointer (some ⟨sb, 0, none⟩)] W fun e W' => e = .returned (.bool (decide ((k : Int) + 1 < (st : Int)))) ∧ W'.heap[cb]? = some (.cells #[.int .i64 ((k + 1 : Nat) : Int)] 3) ∧ Chg (fun b => b = cb) W W' := by
  obtain ⟨W1, HW1⟩ : ∃ W1, Hid (W1 = W.alloc (.cells #[.int .u32 (x.x : Int), .int .i64 (x.n : Int)] 32)) := ⟨_, rfl⟩
  have hb1 : Below W.heap.size W W1 := by rw [HW1.out]; exact (Below.refl _ _).alloc (Nat.le_refl _) _
  have rc := below_keeps hb1 hc (Array.getElem?_eq_some_iff.1 hc).1
  have rs := below_keeps hb1 hs (Array.getElem?_eq_some_iff.1 hs).1
  have c0 : W1.cell? ⟨cb, 0, none⟩ = some (.int .i64 (k : Int)) := by rw [cell_of_row _ _ _ _ _ _ rc]; rfl
  have cf : W1.frozen? ⟨cb, 0, none⟩ = false := frozen_of_row _ _ _ _ _ rc
  obtain ⟨W2, HW2⟩ : ∃ W2, Hid (W2 = W1.setCell ⟨cb, 0, none⟩ (.int .i64 ((k : Int) + 1))) := ⟨_, rfl⟩
  have rc2 : W2.heap[cb]? = some (.cells #[.int .i64 ((k : Int) + 1)] 3) := by rw [HW2.out, set_row rc]; rfl
  have bt : But cb W1 W2 := by rw [HW2.out]; exact But.set _ _ _ _
  have rs2 : W2.heap[sb]? = some (.cells #[.int .i64 (st : Int)] 3) := (bt.block _ (Array.getElem?_eq_some_iff.1 rs).1 hne).trans rs
  have d0 : W2.cell? ⟨cb, 0, none⟩ = some (.int .i64 ((k : Int) + 1)) := by rw [cell_of_row _ _ _ _ _ _ rc2]; rfl
  have d1 : W2.cell? ⟨sb, 0, none⟩ = some (.int .i64 (st : Int)) := by rw [cell_of_row _ _ _ _ _ _ rs2]; rfl
  have HR2 := hid rc2
  have HCH : Hid (Chg (fun b => b = cb) W W2) := (Chg.of_below hb1).trans (Chg.of_but bt rfl)
  have hkm : (k : Int) ≤ 9223372036854775806 := by omega
  unfold pv
  clear hc hs hb1 rc rs rc2 bt rs2 hne hk
  go_enter Try.func26, Try.ntmps26
  go_upto_region 1 with fail
  rw [← HW1.out]
  go_upto_region 2 with fail
  rw [← HW2.out]
  go_wp2_with fail
  go_ret
  exact ⟨by simp, HR2.out, HCH.out⟩

/-- What is called so often. -/
def wantN (st N : Nat) : Nat := min (max st 1) N

/-- Behind the boxes of the first walk. -/
structure LfJ (V0 V2 W : World) (cb k : Nat) : Prop where
  sz : V2.heap.size ≤ W.heap.size
  bel : Below V0.heap.size V0 W
  ot : ∀ b, b < V2.heap.size → b ≠ cb → W.heap[b]? = V2.heap[b]?
  cx : W.heap[cb]? = some (.cells #[.int .i64 (k : Int)] 3)

theorem LfJ.own {V0 V2 W W' : World} {cb k : Nat} (h : LfJ V0 V2 W cb k) (h0 : V0.heap.size ≤ V2.heap.size) (hcb : cb < V2.heap.size) (hb : Below V2.heap.size W W') : LfJ V0 V2 W' cb k :=
  ⟨Nat.le_trans h.sz hb.size, h.bel.trans (hb.mono h0), fun b hb' hn => (hb.block b hb').trans (h.ot b hb' hn), below_keeps hb h.cx hcb⟩

theorem LfJ.step {V0 V2 W W' : World} {cb k j : Nat} (h : LfJ V0 V2 W cb k) (hcb : V0.heap.size ≤ cb) (hc : Chg (fun b => b = cb) W W') (hx : W'.heap[cb]? = some (.cells #[.int .i64 (j : Int)] 3)) : LfJ V0 V2 W' cb j :=
  ⟨Nat.le_trans h.sz hc.size, ⟨hc.os.trans h.bel.os, hc.tape.trans h.bel.tape, hc.output.trans h.bel.output, Nat.le_trans h.bel.size hc.size, fun b hb => (hc.block b (Nat.lt_of_lt_of_le hb h.bel.size) (by omega)).trans (h.bel.block b hb)⟩,
    fun b hb hn => (hc.block b (Nat.lt_of_lt_of_le hb h.sz) hn).trans (h.ot b hb hn), hx⟩

theorem keepsN_chg {B cb : Nat} {W W' : World} (hc : Chg (fun b => b = cb) W W') (h : cb < B) : KeepsN B W W' := ⟨hc.size, fun k _ hk h1 _ => (hc.block k (Array.getElem?_eq_some_iff.1 h1).1 (by omega)).trans h1⟩

/-- The iterator with the counting closure. -/
theorem left_calls (n : Nat) (hn : 4 ≤ n) (pq tq tb cb sb st : Nat) (m : MT) (V0 V2 : World) {lo hi : Nat} (hwf : WF lo hi m.tr) (hm : nodes m.tr ≤ 10000000000) (hsq : SeqB V2 (fun b => b = tb) pq tq tb 0 0 m) (hls : Lies V0 (fun b => b = tb) m) (h02 : V0.heap.size ≤ V2.heap.size) (hcb : cb = V0.heap.size) (hc2 : cb < V2.heap.size) (hp : pq ≠ cb) (ht : tq ≠ cb) (hb : tb ≠ cb) (hlen : (ents m.tr).length ≤ 400)
    (hs : V2.heap[sb]? = some (.cells #[.int .i64 (st : Int)] 3)) (hsb : sb ≠ cb) (hJ0 : LfJ V0 V2 V2 cb 0) :
    CallsIn Fence.wide n Try.prog 43 #[.func (.func 26) #[] #[.pointer (some ⟨cb, 0, none⟩), .pointer (some ⟨sb, 0, none⟩)], .pointer (some ⟨pq, 0, none⟩), .pointer (some ⟨tq, 0, none⟩)] V2 fun e W' => (∃ v, e = .returned v) ∧ LfJ V0 V2 W' cb (wantN st (ents m.tr).length) := by
  have hfil : (ents m.tr).filter (inP ⟨0, 0⟩) = ents m.tr := by
    refine filter_all fun e he => ?_
    have h := ents_in hwf e he
    exact (inP_ins (p := ⟨0, 0⟩) top_ok h.1).2 h.1.top
  obtain ⟨N, hN⟩ : ∃ N, N = (ents m.tr).length := ⟨_, rfl⟩
  have hown : ∀ (f : Nat → Nat → Prop), OwnN V2.heap.size (fun (k : Nat) W => LfJ V0 V2 W cb k ∧ f k k) := fun f => ownN_below (fun k W h => h.1.sz) (fun k W W' h hb => ⟨h.1.own h02 hc2 hb, h.2⟩)
  refine (within_calls n hn (fun b => b = tb) pq tq tb m ⟨0, 0⟩ top_ok hwf hm cb sb (fun k W => LfJ V0 V2 W cb k ∧ (k = 0 ∨ k < st)) (fun _ W => LfJ V0 V2 W cb (wantN st N)) V2 (hown fun k _ => k = 0 ∨ k < st) (ownN_below (fun _ W h => h.sz) (fun _ W W' h hb => h.own h02 hc2 hb)) ?_ ?_ ⟨hJ0, .inl rfl⟩).mono ?_
  · rintro k W ⟨h, _⟩
    refine ⟨hls.below h.bel, fun _ => ⟨?_, ?_, ?_⟩⟩
    · exact (h.ot pq (Array.getElem?_eq_some_iff.1 hsq.pb).1 hp).trans hsq.pb
    · exact (h.ot tq (Array.getElem?_eq_some_iff.1 hsq.tx).1 ht).trans hsq.tx
    · exact (h.ot tb (Array.getElem?_eq_some_iff.1 hsq.rt).1 hb).trans hsq.rt
  · rintro k ⟨x, v⟩ W1 ⟨h, hk⟩ hx
    rw [hfil] at hx
    have hlt := (List.getElem?_eq_some_iff.1 hx).1
    have hss := (h.ot sb (Array.getElem?_eq_some_iff.1 hs).1 hsb).trans hs
    refine (left1_any x v cb sb k st W1 h.cx hss hsb (by omega)).mono ?_
    rintro _ W' ⟨rfl, hx', hc⟩
    have hj := h.step (by omega) hc hx'
    refine ⟨keepsN_chg hc hc2, ?_⟩
    by_cases hkst : k + 1 < st
    · refine .inl ⟨?_, hj, .inr hkst⟩
      rw [show decide ((k : Int) + 1 < (st : Int)) = true by simp; omega]
    · refine .inr ⟨?_, ?_⟩
      · rw [show decide ((k : Int) + 1 < (st : Int)) = false by simp; omega]
      · have e : wantN st N = k + 1 := by unfold wantN; omega
        show LfJ V0 V2 W' cb (wantN st N)
        rw [e]; exact hj
  · rintro e W' ⟨hv, h⟩
    refine ⟨hv, ?_⟩
    rw [← hN]
    rcases h with ⟨h, hk⟩ | h
    · rw [hfil, ← hN] at h hk
      have e : wantN st N = N := by unfold wantN; omega
      rw [e]; exact h
    · exact h
end Go.Proofs.Ytmnafocmbcgdiaa
