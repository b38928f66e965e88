import Derived.Test.YtdoeebbcieiimaaAsC
namespace Go.Proofs.Ytdoeebbcieiimaa
open Go.ChangeShapes Go.WideShapes Go.ChangeAt Go.RowKit Go.Shelf
attribute [local go_sem] Oper.semAt_some
set_option maxHeartbeats 4000000
set_option maxRecDepth 100000

theorem news_any (b : Nat) (h : Hd) (vo vb : Value) (w : World) :
    Calls Try.prog 65 #[.pointer (some ⟨b, 0, none⟩), .agg (pkCells h vo vb)] w fun e w' => e = .returned (.func (.func 91) #[] #[.pointer (some ⟨w.heap.size + 1, 0, none⟩), .pointer (some ⟨w.heap.size, 0, none⟩)]) ∧ w' = (w.alloc (.cells #[.pointer (some ⟨b, 0, none⟩)] 94)).alloc (.cells (pkCells h vo vb) 29) := by
  generalize pkCells h vo vb = cs
  go_enter Try.func65, Try.ntmps65
  go_wp2_with fail
  go_ret
  exact ⟨rfl, rfl⟩

/-- What hangs on the blocks below B alone is the caller's own. -/
theorem ownFrom_below' {B : Nat} {I : Nat → World → Prop} (hs : ∀ k W, I k W → B ≤ W.heap.size) (h : ∀ k W W', I k W → Below B W W' → I k W') : OwnFrom B I := fun k W W' row hi hg hr =>
  h k W W' hi ⟨hg.os, hg.tape, hg.output, hg.size, fun j hj => hg.block j (Nat.lt_of_lt_of_le hj (hs k W hi)) (fun e => by have := (hr j e.symm).1; omega)⟩

def partN (nb i : Nat) : Nat := stepE nb i - 8 * i
def newN (hv : List Bool) (o nb k : Nat) : Nat := (((newsL hv o nb).take k).map (partN nb)).sum

theorem newN_succ {hv : List Bool} {o nb k i : Nat} (h : (newsL hv o nb)[k]? = some i) : newN hv o nb (k + 1) = newN hv o nb k + partN nb i := by
  unfold newN
  rw [take_snoc h, List.map_append, List.sum_append]
  simp

theorem news_mem {hv : List Bool} {o nb k i : Nat} (h : (newsL hv o nb)[k]? = some i) : i < stepsN nb := by
  have := List.mem_of_getElem? h
  unfold newsL at this
  have := (List.mem_filter.1 this).1
  simpa using this

theorem newN_le (hv : List Bool) (o nb k : Nat) : newN hv o nb k ≤ 8 * stepsN nb := by
  unfold newN
  have h1 : ∀ l : List Nat, (l.map (partN nb)).sum ≤ 8 * l.length := fun l => by
    induction l with
    | nil => simp
    | cons x r ih =>
      have : partN nb x ≤ 8 := by unfold partN stepE; omega
      simp only [List.map_cons, List.sum_cons, List.length_cons]
      omega
  have h2 := h1 ((newsL hv o nb).take k)
  have h3 : ((newsL hv o nb).take k).length ≤ stepsN nb := by
    rw [List.length_take]
    unfold newsL
    have := List.length_filter_le (fun i => !coversL hv (o + 8 * i)) (List.range (stepsN nb))
    simp at this
    omega
  omega

def wholeW (d : Dg) (h : Hd) (o nb : Nat) : Bool := decide (0 < lenW d h nb) && decide (((d.cov + newN d.hv o nb (newsL d.hv o nb).length : Nat) : Int) = lenW d h nb)

theorem isWholeWith_any (b : Nat) (d : Dg) (do_ db dh : Value) (h : Hd) (vo vb : Value) (B : List Nat) (o : Nat) (w : World) (hd : DgAt w b d do_ db dh) (hvb : SeesB w vb B) (ho : h.off = (o : Int)) (ho1 : o ≤ 65535) (hlb : B.length ≤ 65535) :
    Calls Try.prog 39 #[.pointer (some ⟨b, 0, none⟩), .agg (pkCells h vo vb)] w fun e w' => e = .returned (.bool (wholeW d h o B.length)) ∧ Below w.heap.size w w' := by
  obtain ⟨ab, nb, cb, rfl, HNB, _, _⟩ := hvb.shape
  have hnb : nb ≤ 65535 := by have := HNB.out; omega
  rw [← HNB.out]
  obtain ⟨w1, hw1⟩ : ∃ w1, w1 = w.alloc (.cells (pkCells h vo (.slice ab nb cb)) 29) := ⟨_, rfl⟩
  have hb1 : Below w.heap.size w w1 := by rw [hw1]; exact (Below.refl _ _).alloc (Nat.le_refl _) _
  have hs1 : w1.heap.size = w.heap.size + 1 := by rw [hw1]; simp
  have hk1 : w1.heap[w.heap.size]? = some (.cells (pkCells h vo (.slice ab nb cb)) 29) := by rw [hw1]; exact heap_alloc_new w _
  have c14 : w1.cell? ⟨b, 14, none⟩ = some (.int .i64 (d.cov : Int)) := (hd.below hb1).at 14 (by omega)
  obtain ⟨w2, hw2⟩ : ∃ w2, w2 = w1.alloc (.cells #[.int .i64 (d.cov : Int)] 3) := ⟨_, rfl⟩
  have hb2 : Below w1.heap.size w1 w2 := by rw [hw2]; exact (Below.refl _ _).alloc (Nat.le_refl _) _
  have hs2 : w2.heap.size = w.heap.size + 2 := by rw [hw2]; simp; omega
  have hk2 : w2.heap[w.heap.size + 1]? = some (.cells #[.int .i64 (d.cov : Int)] 3) := by rw [hw2, ← hs1]; exact heap_alloc_new w1 _
  have hp2 := below_keeps hb2 hk1 (by omega)
  have HL2 := hid (pk_load hp2)
  have HNW := hid (news_any b h vo (.slice ab nb cb) w2)
  obtain ⟨w4, hw4⟩ : ∃ w4, w4 = (w2.alloc (.cells #[.pointer (some ⟨b, 0, none⟩)] 94)).alloc (.cells (pkCells h vo (.slice ab nb cb)) 29) := ⟨_, rfl⟩
  have hb4 : Below w2.heap.size w2 w4 := by rw [hw4]; exact ((Below.refl _ _).alloc (Nat.le_refl _) _).alloc (by simp) _
  have hs4 : w4.heap.size = w.heap.size + 4 := by rw [hw4]; simp; omega
  have hd4 : w4.heap[w.heap.size + 2]? = some (.cells #[.pointer (some ⟨b, 0, none⟩)] 94) := by
    have h1 : Below (w2.heap.size + 1) (w2.alloc (.cells #[.pointer (some ⟨b, 0, none⟩)] 94)) w4 := by rw [hw4]; exact (Below.refl _ _).alloc (by simp) _
    rw [← hs2, h1.block _ (by omega)]
    exact heap_alloc_new w2 _
  have hq4 : w4.heap[w.heap.size + 3]? = some (.cells (pkCells h vo (.slice ab nb cb)) 29) := by
    have := heap_alloc_new (w2.alloc (.cells #[.pointer (some ⟨b, 0, none⟩)] 94)) (.cells (pkCells h vo (.slice ab nb cb)) 29)
    rw [World.size_alloc, hs2] at this
    rw [hw4]; exact this
  have hc4 := below_keeps hb4 hk2 (by omega)
  have hp4 := below_keeps hb4 hp2 (by omega)
  have hbw4 : Below w.heap.size w w4 := hb1.trans ((hb2.trans (hb4.mono (by omega))).mono (by omega))
  rw [← hw4, hs2] at HNW
  obtain ⟨cs, hcs⟩ : ∃ cs, cs = pkCells h vo (.slice ab nb cb) := ⟨_, rfl⟩
  have HCS := hid hcs
  have HD := hid hd
  have HVB := hid hvb
  have HK4 : Hid (w4.heap[w.heap.size + 1]? = some (.cells #[.int .i64 (d.cov : Int)] 3) ∧ w4.heap[w.heap.size + 2]? = some (.cells #[.pointer (some ⟨b, 0, none⟩)] 94) ∧ w4.heap[w.heap.size + 3]? = some (.cells cs 29) ∧ w4.heap[w.heap.size]? = some (.cells cs 29) ∧ Below w.heap.size w w4) := by rw [hcs]; exact ⟨hc4, hd4, hq4, hp4, hbw4⟩
  rw [← hcs] at hw1 HL2 HNW ⊢
  have HW1 := hid hw1
  have HW2 := hid hw2
  have HS1 := hid hs1
  have HS4 := hid hs4
  obtain ⟨R, hR⟩ : ∃ R, R = wholeW d h o nb := ⟨_, rfl⟩
  have HR : Hid (R = (decide (0 < lenW d h nb) && decide (((d.cov + newN d.hv o nb (newsL d.hv o nb).length : Nat) : Int) = lenW d h nb))) := hR
  rw [← hR]
  refine (callsIn_wide (n := 9)).1 ?_
  refine callsIn_of_wp_marks Try.func39 rfl trivial ?_ rfl
  refine wpIn_wide.2 ?_
  simp only [Try.ntmps39, List.size_toArray, List.length_cons, List.length_nil, Nat.reduceAdd, Nat.reduceSub, Array.replicate_succ, Array.replicate_zero, List.push_toArray, List.append_toArray, List.nil_append, List.cons_append]
  clear hw1 hw2 hcs hw4 hb1 hs1 hk1 hb2 hs2 hk2 hp2 hb4 hs4 hd4 hq4 hc4 hp4 hbw4 hd hvb hlb hR
  go_upto_region 1 with fail
  rw [← HW1.out]
  go_upto_region 2 with fail
  rw [HS1.out, ← HW2.out]
  go_wp2_with (first | (refine wpList_ld 29 ⟨w.heap.size, 0, none⟩ (.tmp 3) rfl rfl HL2.out rfl ?_) | fail)
  refine HNW.out.mono ?_
  rintro _ _ ⟨rfl, ew⟩
  obtain rfl := ew.symm
  go_wp2_with fail
  refine wpIn_wide.1 (wpIn_gives (n := 9) (F := Fence.wide) rfl (by omega) (gf := 91) (lb := #[.pointer (some ⟨w.heap.size + 2 + 1, 0, none⟩), .pointer (some ⟨w.heap.size + 2, 0, none⟩)]) rfl trivial (enters_of Try.func91 (by kernel_rfl) rfl)
    (news_gives 8 (by omega) o (w.heap.size + 2 + 1) (w.heap.size + 2) b h vo ab nb cb B w d.hv HVB.out ho ho1 hnb) (fun _ => rfl)
    (fun k W => w.heap.size + 4 ≤ W.heap.size ∧ Below w.heap.size w W ∧ W.heap[w.heap.size + 1]? = some (.cells #[.int .i64 ((d.cov + newN d.hv o nb k : Nat) : Int)] 3) ∧ W.heap[w.heap.size + 2]? = some (.cells #[.pointer (some ⟨b, 0, none⟩)] 94) ∧ W.heap[w.heap.size + 3]? = some (.cells cs 29) ∧ W.heap[w.heap.size]? = some (.cells cs 29)) ?hI ?hF ?h0
    (fun i => { tmps := #[.pointer (some ⟨b, 0, none⟩), .agg cs, undef, .pointer (some ⟨w.heap.size, 0, none⟩), .bool false, .pointer (some ⟨w.heap.size + 1, 0, none⟩), undef, partV ab nb cb i, undef, .pointer (some ⟨b, 0, none⟩), .pointer (some ⟨b, 0, none⟩), .pointer (some ⟨b, 14, none⟩), .int .i64 (d.cov : Int), .pointer (some ⟨b, 0, none⟩), .agg cs, .func (.func 91) #[] #[.pointer (some ⟨w.heap.size + 2 + 1, 0, none⟩), .pointer (some ⟨w.heap.size + 2, 0, none⟩)], .int .i64 ((o : Int) + ((8 * i : Nat) : Int)), partV ab nb cb i, undef, undef, undef, undef, undef, undef, undef, undef, undef, undef, undef, undef, undef, undef], defers := [] }) ?assign ?body ?done)
  case hI =>
    rw [HS4.out]
    refine ownFrom_below' (fun k W hi => hi.1) ?_
    rintro k W W' ⟨i1, i2, i3, i4, i5, i6⟩ hb
    exact ⟨Nat.le_trans i1 hb.size, i2.trans (hb.mono (by omega)), below_keeps hb i3 (by omega), below_keeps hb i4 (by omega), below_keeps hb i5 (by omega), below_keeps hb i6 (by omega)⟩
  case hF =>
    rintro k W ⟨i1, i2, i3, i4, i5, i6⟩
    refine ⟨?_, by rw [cell_of_row _ _ _ _ _ _ i4]; rfl, d, do_, db, dh, HD.out.below i2, fun _ _ _ => rfl⟩
    rw [← HCS.out]; exact i5
  case h0 =>
    obtain ⟨k1, k2, k3, k4, k5⟩ := HK4.out
    exact ⟨by have := HS4.out; omega, k5, by rw [k1]; simp [newN], k2, k3, k4⟩
  case assign =>
    intro l x W K hK
    gi_wp2
    exact hK
  case body =>
    rintro l k x W ⟨i1, i2, i3, i4, i5, i6⟩ hx
    have hc : W.cell? ⟨w.heap.size + 1, 0, none⟩ = some (.int .i64 ((d.cov + newN d.hv o nb k : Nat) : Int)) := by rw [cell_of_row _ _ _ _ _ _ i3]; rfl
    have hf : W.frozen? ⟨w.heap.size + 1, 0, none⟩ = false := frozen_of_row _ _ _ _ _ i3
    have HNS := hid (newN_succ hx)
    have hle := newN_le d.hv o nb k
    have hst : stepsN nb ≤ 8192 := by unfold stepsN; omega
    have hcl := HD.out.cl
    have hpn : partN nb x ≤ 8 := by unfold partN stepE; omega
    obtain ⟨pa, pc, hpv⟩ : ∃ pa pc, partV ab nb cb x = .slice pa (partN nb x) pc := ⟨_, _, rfl⟩
    rw [hpv]
    generalize newN d.hv o nb k = N at *
    generalize partN nb x = pn at *
    obtain ⟨c, hcc⟩ : ∃ c, c = d.cov + N := ⟨_, rfl⟩
    rw [← hcc] at hc i3
    have hc2 : c ≤ 200000 := by omega
    have HCC := hid hcc
    clear hcc hpv hx hle
    gi_wp2
    refine ⟨(KeepsOthers.setCell _ _ _).from _, Nat.le_trans i1 (by simp [World.setCell]), i2.setCell (p := ⟨w.heap.size + 1, 0, none⟩) (by show w.heap.size ≤ w.heap.size + 1; omega) _, ?_, ?_, ?_, ?_⟩
    · rw [set_row i3, HNS.out]
      have e1 : ((d.cov + (N + pn) : Nat) : Int) = (c : Int) + (pn : Int) := by have := HCC.out; omega
      rw [e1]; rfl
    · exact (But.set (w.heap.size + 1) 0 W _).keeps i4 (by omega)
    · exact (But.set (w.heap.size + 1) 0 W _).keeps i5 (by omega)
    · exact (But.set (w.heap.size + 1) 0 W _).keeps i6 (by omega)
  case done =>
    rintro D W hD ⟨i1, i2, i3, i4, i5, i6⟩ hK
    rw [HCS.out] at i6
    have HL := hid (pk_load i6)
    have HLW := hid (lengthWith_any b d do_ db dh h vo (.slice ab nb cb) B W (HD.out.below i2) (HVB.out.below i2) (by omega) (by omega) (by have := HNB.out; omega))
    rw [← HCS.out, ← HNB.out] at HLW
    rw [← HCS.out] at HL
    have HI := hid i2
    have HI1 := hid i1
    have HI3 := hid i3
    have HKD := hid hK
    have HDD := hid hD
    obtain ⟨c, hc⟩ : ∃ c, c = d.cov + newN d.hv o nb (newsL d.hv o nb).length := ⟨_, rfl⟩
    rw [← hc] at HI3 HR
    have hc2 : c ≤ 200000 := by
      have h1 := newN_le d.hv o nb (newsL d.hv o nb).length
      have h2 : stepsN nb ≤ 8192 := by unfold stepsN; omega
      have h3 := HD.out.cl
      omega
    obtain ⟨L, hL⟩ : ∃ L, L = lenW d h nb := ⟨_, rfl⟩
    rw [← hL] at HLW HR
    clear i1 i2 i3 i4 i5 i6 hK hD hc hL
    go_wp2_with (first | (refine wpList_ld 29 ⟨w.heap.size, 0, none⟩ (.tmp 3) rfl rfl HL.out rfl ?_) | fail)
    refine HLW.out.mono ?_
    rintro _ W5 ⟨rfl, hb5⟩
    have c1 : W5.cell? ⟨w.heap.size + 1, 0, none⟩ = some (.int .i64 (c : Int)) := by
      rw [cell_of_row _ _ _ _ _ _ (below_keeps hb5 HI3.out (by have := HI1.out; omega))]; rfl
    have HK5 := hid (below_keeps hb5 HKD.out (Array.getElem?_eq_some_iff.1 HKD.out).1)
    have HB5 : Hid (Below w.heap.size w W5) := HI.out.trans (hb5.mono HI.out.size)
    have HFB : Hid (Below w.heap.size w (W5.putObj D (.deferred none))) := HB5.out.trans (belowK_b (w := w) (Nat.le_refl _) W5 D _ _ (by have := HDD.out; have := HS4.out; omega) HK5.out rfl rfl)
    clear hb5 HL HLW
    by_cases hp : 0 < L
    · have q1 : (0 < L) = True := by simp [hp]
      by_cases he : (c : Int) = L
      · have q2 : ((c : Int) == L) = true := by simp [he]
        have HE : Hid ((decide (0 < L) && decide ((c : Int) = L)) = true) := by unfold Hid; simp [hp, he]
        clear he
        go_wp2_with fail
        refine ⟨by simp, .inl ⟨_, _, rfl, run_takeDeferred HK5.out, ?_⟩⟩
        refine ⟨_, results_tmp Try.results39 _ _ _, ?_, HFB.out⟩; rw [HR.out, HE.out]; rfl
      · have q2 : ((c : Int) == L) = false := by simp [he]
        have HE : Hid ((decide (0 < L) && decide ((c : Int) = L)) = false) := by unfold Hid; simp [hp, he]
        go_wp2_with fail
        refine ⟨by simp, .inl ⟨_, _, rfl, run_takeDeferred HK5.out, ?_⟩⟩
        refine ⟨_, results_tmp Try.results39 _ _ _, ?_, HFB.out⟩; rw [HR.out, HE.out]; rfl
    · have q1 : (0 < L) = False := by simp [hp]
      have HE : Hid ((decide (0 < L) && decide ((c : Int) = L)) = false) := by unfold Hid; simp [hp]
      go_wp2_with fail
      refine ⟨by simp, .inl ⟨_, _, rfl, run_takeDeferred HK5.out, ?_⟩⟩
      refine ⟨_, results_tmp Try.results39 _ _ _, ?_, HFB.out⟩; rw [HR.out, HE.out]; rfl
end Go.Proofs.Ytdoeebbcieiimaa
