/-
  TrieInside's walk.
-/
import Derived.Test.YtmnafocmbcgdiaaYJ
namespace Go.Proofs.Ytmnafocmbcgdiaa
open Go.ChangeShapes Go.WideShapes Go.ChangeAt Go.RowKit Go.Shelf Tri N
attribute [local go_sem] Oper.semAt_some
set_option maxHeartbeats 16000000
set_option maxRecDepth 100000

/-- What was put so far is there. -/
def PutK (L : List K) (j : Nat) (T : Tr) : Prop := (ents T).length ≤ j ∧ ∀ i k, i < j → L[i]? = some k → k ∈ (ents T).map Prod.fst

theorem PutK.step {L : List K} {j : Nat} {T : Tr} (h : PutK L j T) (hW : WF top.x (top.x + top.s) T) {k : K} (hk : L[j]? = some k) (hok : k.Ok) (v : Int) : PutK L (j + 1) (hang T k (some v)) := by
  refine ⟨by have := (hang_len hW hok v).1; have := h.1; omega, fun i k' hi hk' => ?_⟩
  have hm := (hang_facts (v := some v) top_ok hW hok hok.top).2
  by_cases he : k' = k
  · subst he
    exact List.mem_map.2 ⟨(k', v), (hm _).2 (.inl ⟨rfl, rfl⟩), rfl⟩
  · rcases Nat.lt_or_ge i j with hl | hl
    · obtain ⟨e, he1, rfl⟩ := List.mem_map.1 (h.2 i k' hl hk')
      exact List.mem_map.2 ⟨e, (hm _).2 (.inr ⟨he, he1⟩), rfl⟩
    · obtain rfl : i = j := by omega
      rw [hk] at hk'
      exact absurd (Option.some.inj hk').symm he

theorem vals_len (t : Tr) : vals t = (ents t).length := by
  induction t with
  | nil => rfl
  | node k u l r il ir => cases u <;> simp [vals, ents, own, il, ir] <;> omega

/-- k's box, and all that lay there before. -/
structure InJ (U V : World) (kb k : Nat) : Prop where
  sz : U.heap.size + 1 ≤ V.heap.size
  bel : Below U.heap.size U V
  kx : V.heap[kb]? = some (.cells #[.int .i64 (k : Int)] 3)

def kOf (kb : Nat) (W : World) : Nat := (intOf ((W.cell? ⟨kb, 0, none⟩).getD undef)).toNat

theorem kOf_of {kb k : Nat} {W : World} (h : W.heap[kb]? = some (.cells #[.int .i64 (k : Int)] 3)) : kOf kb W = k := by
  unfold kOf
  rw [cell_of_row _ _ _ _ _ _ h]
  simp [intOf]

theorem ints_at {W : World} {base n k : Nat} {ai : Option Addr} {ni ci : Nat} {xs : List Value} (h : W.ownsRow base 3 1 (.slice ai ni ci) n xs) (hk : k < n) : ∃ g, ai = some ⟨g, 0, none⟩ ∧ ni = n ∧ g < W.heap.size ∧ W.cell? ⟨g, k, none⟩ = xs[k]? := by
  rcases h.2 with ⟨_, hn⟩ | ⟨g, cap, cur, hv, hb, hg, hrest⟩
  · omega
  · simp at hv
    obtain ⟨rfl, rfl, rfl⟩ := hv
    exact ⟨g, rfl, rfl, (Array.getElem?_eq_some_iff.1 hg).1, h.cellAt k (by omega)⟩

theorem InJ.chg {U V wr : World} {kb k : Nat} (h : InJ U V kb k) (hkb : kb = U.heap.size) (hc : Chg (fun x => x = kb) V wr) : Below U.heap.size U wr :=
  ⟨hc.os.trans h.bel.os, hc.tape.trans h.bel.tape, hc.output.trans h.bel.output, Nat.le_trans h.bel.size hc.size, fun x hx => (hc.block x (Nat.lt_of_lt_of_le hx h.bel.size) (by omega)).trans (h.bel.block x hx)⟩

theorem chg_set {V wr wx : World} {kb : Nat} (hc : Chg (fun x => x = kb) V wr) (hb : Below wr.heap.size wr wx) (v : Value) : Chg (fun x => x = kb) V (wx.setCell ⟨kb, 0, none⟩ v) :=
  (hc.trans (Chg.of_below hb)).trans (Chg.of_but (But.set _ _ _ _) rfl)

theorem inside_walk (v0 : Value) (P : List (Nat × Int)) (xa : Nat) (ya : Int) (w : World) (hs0 : Sees w v0 P) (ha : AdrP P) (hxa : xa < 4294967296) (hya : In64 ya) :
    Calls Try.prog 7 #[v0, qv xa ya] w fun e w' => e = .returned (.bool true) ∧ Below w.heap.size w w' := by
  obtain ⟨ap, np, capp, rfl, HNP, hnp1, hnp2⟩ := hs0.shape
  obtain ⟨w1, HW1⟩ : ∃ w1, Hid (w1 = (w.alloc (.cells #[.int .u32 (xa : Int), .int .i64 ya] 32)).alloc (.cells #[.bool false] 4)) := ⟨_, rfl⟩
  have hb1 : Below w.heap.size w w1 := by rw [HW1.out]; exact ((Below.refl _ _).alloc (Nat.le_refl _) _).alloc (by simp) _
  have ra : w1.heap[w.heap.size]? = some (.cells #[.int .u32 (xa : Int), .int .i64 ya] 32) := by rw [HW1.out, Below.heap_alloc _ _ _ (by simp)]; exact heap_alloc_new w _
  have rb : w1.heap[w.heap.size + 1]? = some (.cells #[.bool false] 4) := by
    have h := heap_alloc_new (w.alloc (.cells #[.int .u32 (xa : Int), .int .i64 ya] 32)) (.cells #[.bool false] 4)
    rw [World.size_alloc] at h
    rw [HW1.out]; exact h
  have HB1 := hid hb1
  have HVAL := hid (valids_any _ P w1 (hs0.below hb1) ha)
  have hOK : ∀ k ∈ valL P, k.Ok := fun k hk => by
    obtain ⟨p, hp, rfl⟩ := List.mem_map.1 hk
    exact preK_ok _ _ (ha p (List.mem_of_mem_take hp)).1
  have hlen : (valL P).length ≤ 200 := by unfold valL; simp; omega
  obtain ⟨L, hL⟩ : ∃ L, L = valL P := ⟨_, rfl⟩
  rw [← hL] at HVAL hOK hlen
  have HOK := hid hOK
  have HRA := hid ra
  have HRB := hid rb
  have HXA : Hid (xa < 4294967296 ∧ In64 ya) := ⟨hxa, hya⟩
  unfold qv
  clear hs0 ha hxa hya hb1 ra rb hOK hL
  refine (callsIn_wide (n := 9)).1 ?_
  refine callsIn_of_wp_marks Try.func7 rfl trivial ?_ rfl
  refine wpIn_wide.2 ?_
  simp only [Try.ntmps7, List.size_toArray, List.length_cons, List.length_nil, Nat.reduceAdd, Nat.reduceSub, Array.replicate_succ, Array.replicate_zero, List.push_toArray, List.append_toArray, List.nil_append, List.cons_append]
  go_upto_region 1 with fail
  rw [← HW1.out]
  go_wp2_with fail
  refine HVAL.out.mono ?_
  rintro _ w2 ⟨vl, rfl, hown, hb2⟩
  have HSL := hid (sees_of_owns hown)
  obtain ⟨al, nl, capl, rfl, HNL0, hnl1, hnl2⟩ := HSL.out.shape
  have HNL : Hid (nl = L.length) := by have := HNL0.out; rw [List.length_map] at this; exact this
  have hnl : nl ≤ 200 := by have := HNL.out; omega
  have r1 := below_keeps hb2 HRA.out (Array.getElem?_eq_some_iff.1 HRA.out).1
  have a0 : w2.cell? ⟨w.heap.size, 0, none⟩ = some (.int .u32 (xa : Int)) := by rw [cell_of_row _ _ _ _ _ _ r1]; rfl
  have a1 : w2.cell? ⟨w.heap.size, 1, none⟩ = some (.int .i64 ya) := by rw [cell_of_row _ _ _ _ _ _ r1]; rfl
  have HPX := hid (prefix_any xa ya w2 HXA.out.1 HXA.out.2)
  have HB2 : Hid (Below w.heap.size w w2) := HB1.out.trans (hb2.mono HB1.out.size)
  have HR2 : Hid (w2.heap[w.heap.size + 1]? = some (.cells #[.bool false] 4)) := below_keeps hb2 HRB.out (Array.getElem?_eq_some_iff.1 HRB.out).1
  obtain ⟨q, hq⟩ : ∃ q, q = preK xa ya := ⟨_, rfl⟩
  rw [← hq] at HPX
  have HQO : Hid q.Ok := by unfold Hid; rw [hq]; exact preK_ok _ _ HXA.out.1
  unfold pv at HPX
  unfold maxLen at hnl2
  clear hown hb2 HVAL HNL0 r1 hq HRA HRB HW1
  go_wp2_with fail
  refine HPX.out.mono ?_
  rintro _ w3 ⟨rfl, hb3⟩
  obtain ⟨w4, HW4⟩ : ∃ w4, Hid (w4 = w3.alloc (.cells #[.int .u32 (q.x : Int), .int .i64 (q.n : Int)] 32)) := ⟨_, rfl⟩
  have hb34 : Below w3.heap.size w3 w4 := by rw [HW4.out]; exact (Below.refl _ _).alloc (Nat.le_refl _) _
  have hb24 : Below w2.heap.size w2 w4 := hb3.trans (hb34.mono hb3.size)
  have rq : w4.heap[w3.heap.size]? = some (.cells #[.int .u32 (q.x : Int), .int .i64 (q.n : Int)] 32) := by rw [HW4.out]; exact heap_alloc_new w3 _
  obtain ⟨qb, HQB⟩ : ∃ qb, Hid (qb = w3.heap.size) := ⟨_, rfl⟩
  rw [← HQB.out] at rq
  have HRQ := hid rq
  have HSL4 := hid (HSL.out.below hb24)
  have HB4 : Hid (Below w.heap.size w w4) := HB2.out.trans (hb24.mono HB2.out.size)
  have HR4 : Hid (w4.heap[w.heap.size + 1]? = some (.cells #[.bool false] 4)) := below_keeps hb24 HR2.out (Array.getElem?_eq_some_iff.1 HR2.out).1
  have HNEW := hid (new_any w4)
  obtain ⟨w5, hw5⟩ : ∃ w5, w5 = w4.alloc (.cells #[.pointer none] 77) := ⟨_, rfl⟩
  rw [← hw5] at HNEW
  have hb5 : Below w4.heap.size w4 w5 := by rw [hw5]; exact (Below.refl _ _).alloc (Nat.le_refl _) _
  have HT0 : Hid (TrieAt w5 (fun b => b = w4.heap.size) w4.heap.size .nil) := by rw [hw5]; exact trie_new w4
  have HB5 := hid hb5
  obtain ⟨tb, HTB⟩ : ∃ tb, Hid (tb = w4.heap.size) := ⟨_, rfl⟩
  rw [← HTB.out] at HT0 HB5 HNEW
  clear hb3 hb34 hb24 hb5 hw5 HSL rq HB1 HB2 HR2 a0 a1
  go_upto_region 3 with fail
  rw [← HW4.out, ← HQB.out]
  go_wp2_with fail
  refine HNEW.out.mono ?_
  rintro _ _ ⟨rfl, ew⟩
  obtain rfl := ew.symm
  go_upto_region 7 with fail
  go_loopw [8] (fun i wr => ∃ (j : Nat) (T : Tr), i = .int .i64 (j : Int) ∧ j ≤ nl ∧ Hid (TrieAt wr (fun b => b = tb) tb T) ∧ Hid (PutK L j T) ∧ Hid (Below tb w4 wr)) (fun i _ => nl - (intOf i).toNat)
  case atStart => exact ⟨0, .nil, rfl, by omega, HT0, ⟨by simp [ents], fun i k hi => absurd hi (by omega)⟩, HB5⟩
  case round =>
    obtain ⟨j, T, rfl, hj, HT, HP, HB⟩ := hrel
    by_cases hjn : j < nl
    · have hsl := HB.out
      rw [HTB.out] at hsl
      obtain ⟨g, off, p, hao, hg, c0, c1, HQ⟩ := (HSL4.out.below hsl).at j hjn
      subst hao
      obtain ⟨k, hk, rfl⟩ := kp_at HQ.out
      simp only [kp] at c0 c1
      have b1 : (j : Int) < (nl : Int) := by omega
      have hok : k.Ok := HOK.out k (List.mem_of_getElem? hk)
      have HPUT := hid (put_any k (j : Int) wr HT.out hok)
      have HPN : Hid (PutK L (j + 1) (hang T k (some (j : Int)))) := HP.out.step HT.out.wf hk hok _
      unfold pv at HPUT
      clear hk HQ hok hsl hg
      go_wp2_with fail
      refine HPUT.out.mono ?_
      rintro _ w7 ⟨rfl, hT7, hc7⟩
      have HB7 : Hid (Below tb w4 w7) := by
        have hle := Nat.le_of_lt (HT.out.lt tb rfl)
        exact ⟨hc7.os.trans HB.out.os, hc7.tape.trans HB.out.tape, hc7.output.trans HB.out.output, Nat.le_trans HB.out.size hc7.size, fun i hi => (hc7.block i (by omega) (by omega)).trans (HB.out.block i hi)⟩
      have HT7 := hid hT7
      clear hT7 hc7 c0 c1
      go_wp2_with fail
      go_roundw
      case rel => exact ⟨j + 1, _, by go_num, by omega, HT7, HPN, HB7⟩
      case measure => simp [intOf]; omega
    · have b1 : ¬ (j : Int) < (nl : Int) := by omega
      have HPL : Hid (PutK L L.length T) := by
        have h := HP.out
        rw [show j = L.length by have := HNL.out; omega] at h
        exact h
      have HLE0 : Hid ((ents T).length ≤ 400) := by have := HP.out.1; unfold Hid; omega
      have HTO := hid (told_any wr HT.out HLE0.out)
      have HLN0 := HT.out
      obtain ⟨m, hrow, hmt, hLi⟩ := HT.out.tree
      have hwf := HT.out.wf
      subst hmt
      have HWF := hid hwf
      have HNM : Hid (nodes m.tr ≤ 10000000000) := by
        have h := WF_nodes hwf
        rw [show top.x = 0 from rfl, top_s] at h
        unfold Hid; omega
      have HTRW : Hid (TrB wr tb m) := ⟨hLi, hrow⟩
      have HBWR : Hid (Below w.heap.size w wr) := HB4.out.trans (HB.out.mono (by rw [HTB.out]; exact HB4.out.size))
      have HBW4 : Hid (Below w4.heap.size w4 wr) := by unfold Hid; rw [← HTB.out]; exact HB.out
      have HOKE : Hid (∀ k ∈ (ents m.tr).map Prod.fst, k.Ok) := fun k hk => by
        obtain ⟨e, he, rfl⟩ := List.mem_map.1 hk
        exact (ents_in hwf e he).1
      clear hrow hLi hwf
      go_wp2_with fail
      refine HTO.out.mono ?_
      rintro _ u0 ⟨vp, vi, rfl, hp, hvi, hbu⟩
      have hp' : u0.ownsRow wr.heap.size 32 2 vp ((ents m.tr).map Prod.fst).length (kcs ((ents m.tr).map Prod.fst)) := by rw [List.length_map]; exact hp
      have HSB := hid (sees_of_owns hp')
      obtain ⟨ae, ne, ce, rfl, HNE0, hne1, hne2⟩ := HSB.out.shape
      have HNE : Hid (ne = (ents m.tr).length) := by have := HNE0.out; rw [List.length_map, List.length_map] at this; exact this
      have HTR : Hid (TrB u0 tb m) := HTRW.out.below hbu
      have HT0' : Hid (TrieAt u0 (fun b => b = tb) tb m.tr) := HT.out.grow hbu
      have HB0 : Hid (Below w.heap.size w u0) := HBWR.out.trans (hbu.mono HBWR.out.size)
      have HSL0 := hid ((HSL4.out.below HBW4.out).below hbu)
      have hbw40 : Below w4.heap.size w4 u0 := HBW4.out.trans (hbu.mono HBW4.out.size)
      have HRQ0 : Hid (u0.heap[qb]? = some (.cells #[.int .u32 (q.x : Int), .int .i64 (q.n : Int)] 32)) := below_keeps hbw40 HRQ.out (Array.getElem?_eq_some_iff.1 HRQ.out).1
      have HR0 : Hid (u0.heap[w.heap.size + 1]? = some (.cells #[.bool false] 4)) := below_keeps hbw40 HR4.out (Array.getElem?_eq_some_iff.1 HR4.out).1
      have HRI := hid hvi
      obtain ⟨ai, ni, ci, hvis⟩ : ∃ a n c, vi = .slice a n c := by
        rcases hvi.2 with ⟨hv, _⟩ | ⟨g, cap, cur, hv, _⟩
        · exact ⟨_, _, _, hv⟩
        · exact ⟨_, _, _, hv⟩
      subst hvis
      unfold maxLen at hne2
      clear hp hp' hvi hbu HNE0 HTO HP HT HTRW b1 hjn hj HLN0 hbw40 HSL4 HBW4 HRQ HR4 HBWR HB HB4 HT0 HB5 HNEW
      go_upto_region 11 with fail
      obtain ⟨u1, HU1⟩ : ∃ u1, Hid (u1 = (u0.alloc (.cells #[.slice ae ne ce] 22)).alloc (.cells #[.slice ai ni ci] 44)) := ⟨_, rfl⟩
      have hb01 : Below u0.heap.size u0 u1 := by rw [HU1.out]; exact ((Below.refl _ _).alloc (Nat.le_refl _) _).alloc (by simp) _
      obtain ⟨ab, HAB⟩ : ∃ ab, Hid (ab = u0.heap.size) := ⟨_, rfl⟩
      have rA : u1.heap[ab]? = some (.cells #[.slice ae ne ce] 22) := by rw [HU1.out, HAB.out, Below.heap_alloc _ _ _ (by simp)]; exact heap_alloc_new u0 _
      have rI : u1.heap[ab + 1]? = some (.cells #[.slice ai ni ci] 44) := by
        have h := heap_alloc_new (u0.alloc (.cells #[.slice ae ne ce] 22)) (.cells #[.slice ai ni ci] 44)
        rw [World.size_alloc] at h
        rw [HU1.out, HAB.out]; exact h
      rw [← HU1.out, ← HAB.out]
      have HTR1 := hid (HTR.out.below hb01)
      have HWI := hid (within_seq (x := q.x) (y := (q.n : Int)) u1 HTR1.out)
      unfold qv at HWI
      have rq1 := below_keeps hb01 HRQ0.out (Array.getElem?_eq_some_iff.1 HRQ0.out).1
      have q0 : u1.cell? ⟨qb, 0, none⟩ = some (.int .u32 (q.x : Int)) := by rw [cell_of_row _ _ _ _ _ _ rq1]; rfl
      have q1 : u1.cell? ⟨qb, 1, none⟩ = some (.int .i64 (q.n : Int)) := by rw [cell_of_row _ _ _ _ _ _ rq1]; rfl
      have HB01 := hid hb01
      have HRA := hid rA
      have HRI1 := hid rI
      clear rA rI rq1 hb01
      go_wp2_with fail
      refine HWI.out.mono ?_
      rintro _ u2 ⟨pq, tq, rfl, hsq, hb12⟩
      have hb02 : Below u0.heap.size u0 u2 := HB01.out.trans (hb12.mono HB01.out.size)
      have HSQ := hid hsq
      have HB02 := hid hb02
      have rA2 := below_keeps hb12 HRA.out (Array.getElem?_eq_some_iff.1 HRA.out).1
      have HRA2 := hid rA2
      have HRI2 := hid (below_keeps hb12 HRI1.out (Array.getElem?_eq_some_iff.1 HRI1.out).1)
      have l0 : ∀ t : Beh u2, t.wd.cell? ⟨ab, 0, none⟩ = some (.slice ae ne ce) := fun t => by rw [cell_of_row _ _ _ _ _ _ (below_keeps t.ok rA2 (Array.getElem?_eq_some_iff.1 rA2).1)]; rfl
      have HLN : ∀ t : Beh u2, Hid (Calls Try.prog 24 #[.pointer (some ⟨tb, 0, none⟩)] t.wd fun e w'' => e = .returned (.int .i64 (ne : Int)) ∧ ∃ t' : Beh u2, w'' = t'.wd) := fun t => by
        have h := len_any t.wd ((HT0'.out.grow hb02).grow t.ok)
        rw [vals_len, ← HNE.out] at h
        exact Calls.beh h
      have hqf := eq_seqT 43 #[] #[.pointer (some ⟨pq, 0, none⟩), .pointer (some ⟨tq, 0, none⟩)]
      clear hsq hb12 hb02 rA2 q0 q1 HWI HTR1 HB01 HRA HRI1
      go_upto_region 12 with fail
      refine wp_region_beh (by kernel_rfl) (by kernel_rfl) ?_
      repeat (go_big_quiet_step (first | (go_at_call 24; exact (HLN _).out)))
      refine wpQuiet_nil ?_
      rintro _ ⟨t, rfl⟩
      obtain ⟨U, HUU⟩ : ∃ U, Hid (U = t.wd) := ⟨_, rfl⟩
      have hb2U : Below u2.heap.size u2 U := by rw [HUU.out]; exact t.ok
      have HBU : Hid (Below u0.heap.size u0 U) := HB02.out.trans (hb2U.mono HB02.out.size)
      have HSQU := hid (HSQ.out.below hb2U)
      have HRAU := hid (below_keeps hb2U HRA2.out (Array.getElem?_eq_some_iff.1 HRA2.out).1)
      have HRIU := hid (below_keeps hb2U HRI2.out (Array.getElem?_eq_some_iff.1 HRI2.out).1)
      rw [← HUU.out]
      obtain ⟨V0, HV0⟩ : ∃ V0, Hid (V0 = U.alloc (.cells #[.int .i64 0] 3)) := ⟨_, rfl⟩
      have hbV : Below U.heap.size U V0 := by rw [HV0.out]; exact (Below.refl _ _).alloc (Nat.le_refl _) _
      have HZV : Hid (V0.heap.size = U.heap.size + 1) := by unfold Hid; rw [HV0.out]; simp
      obtain ⟨kb, HKB⟩ : ∃ kb, Hid (kb = U.heap.size) := ⟨_, rfl⟩
      have hrk : V0.heap[kb]? = some (.cells #[.int .i64 ((0 : Nat) : Int)] 3) := by rw [HV0.out, HKB.out]; exact heap_alloc_new U _
      have HJ0 : Hid (InJ U V0 kb 0) := ⟨Nat.le_of_eq HZV.out.symm, hbV, hrk⟩
      have HXS : Hid (entsIn (ents m.tr) q.x (q.n : Int) = (ents m.tr).filter (inP q)) := by
        unfold Hid entsIn
        rw [valB_ok HQO.out, if_pos rfl]
        rfl
      have HSQG := hid (seq_gives 8 (by omega) (fun b => b = tb) pq tq tb q.x (q.n : Int) m HQO.out.2.2 HWF.out HNM.out)
      rw [HXS.out] at HSQG
      obtain ⟨E, HEE⟩ : ∃ E, Hid (E = ents m.tr) := ⟨_, rfl⟩
      rw [← HEE.out] at HSQG HNE HSB HRI HOKE
      have HEL : Hid (∀ V, Below U.heap.size U V → V.heap[w.heap.size + 1]? = some (.cells #[.bool false] 4) ∧ V.heap[qb]? = some (.cells #[.int .u32 (q.x : Int), .int .i64 (q.n : Int)] 32) ∧ V.heap[ab]? = some (.cells #[.slice ae ne ce] 22) ∧ V.heap[ab + 1]? = some (.cells #[.slice ai ni ci] 44) ∧ Below u0.heap.size u0 V) := fun V hV => by
        have h0 := HBU.out.trans (hV.mono HBU.out.size)
        exact ⟨below_keeps h0 HR0.out (Array.getElem?_eq_some_iff.1 HR0.out).1, below_keeps h0 HRQ0.out (Array.getElem?_eq_some_iff.1 HRQ0.out).1, below_keeps hV HRAU.out (Array.getElem?_eq_some_iff.1 HRAU.out).1, below_keeps hV HRIU.out (Array.getElem?_eq_some_iff.1 HRIU.out).1, h0⟩
      clear hb2U hbV hrk hqf HLN l0 HSQ HRA2 HRI2 HB02 HRAU HRIU HTR HT0' HUU HBU
      clear t
      go_upto_region 15 with fail
      rw [← HV0.out, ← HKB.out]
      go_wp2_with fail
      refine wpIn_wide.1 (wpIn_givesU (β := Nat) (n := 9) (F := Fence.wide) rfl (by omega) (gf := 43) (lb := #[.pointer (some ⟨pq, 0, none⟩), .pointer (some ⟨tq, 0, none⟩)]) rfl trivial (enters_of Try.func43 (by kernel_rfl) rfl)
        HSQG.out (fun _ => rfl) (fun i V => ∃ k, InJ U V kb k ∧ Upto (inP q) E k i ∧ k ≤ ne) (fun _ _ => False) ?hI ?hIx ?hF ?h0
        (fun e b tt => (((tt.setIfInBounds 57 (pv e.1)).setIfInBounds 58 (.int .i64 e.2)).setIfInBounds 13 (.pointer (some ⟨b, 0, none⟩))).setIfInBounds 14 (.int .i64 e.2)) (fun e b V => V0.heap.size ≤ b ∧ V.heap[b]? = some (.cells #[.int .u32 (e.1.x : Int), .int .i64 (e.1.n : Int)] 32)) ?hAy ?assign ?body ?done ?stop)
      case hI =>
        have hz := HZV.out
        have hkb := HKB.out
        refine ownN_below (fun i V hi => by obtain ⟨k, h, _⟩ := hi; have := h.sz; omega) ?_
        rintro i V V' ⟨k, h, hu, hk⟩ hb
        exact ⟨k, ⟨Nat.le_trans h.sz hb.size, h.bel.trans (hb.mono (by omega)), below_keeps hb h.kx (by omega)⟩, hu, hk⟩
      case hIx => exact fun _ _ _ _ h _ _ => h.elim
      case hF =>
        rintro i V ⟨k, h, _⟩
        exact HSQU.out.below h.bel
      case h0 => exact ⟨0, HJ0.out, Upto.zero, Nat.zero_le _⟩
      case hAy =>
        rintro e b _ W W' row ⟨h1, h2⟩ hg hr
        refine ⟨h1, (hg.block _ (Array.getElem?_eq_some_iff.1 h2).1 (fun he => ?_)).trans h2⟩
        obtain ⟨_, o, ho, hm⟩ := hr b he.symm
        rw [h2] at ho
        cases ho
        rcases hm with hm | ⟨cs, hm⟩ | ⟨cs, hm⟩
        · cases hm
        · injection hm with _ hm; exact absurd hm (by decide)
        · injection hm with _ hm; exact absurd hm (by decide)
      case assign =>
        intro l i e V K hi hx hK
        obtain ⟨V2, HV2⟩ : ∃ V2, Hid (V2 = V.alloc (.cells #[.int .u32 (e.1.x : Int), .int .i64 (e.1.n : Int)] 32)) := ⟨_, rfl⟩
        have hbV : Below V.heap.size V V2 := by rw [HV2.out]; exact (Below.refl _ _).alloc (Nat.le_refl _) _
        have hrV : V2.heap[V.heap.size]? = some (.cells #[.int .u32 (e.1.x : Int), .int .i64 (e.1.n : Int)] 32) := by rw [HV2.out]; exact heap_alloc_new V _
        obtain ⟨k, h, hu, hk⟩ := hi
        have hz := HZV.out
        have hs := h.sz
        have HK := hK V.heap.size V2 (KeepsN.of_below hbV) ⟨k, ⟨Nat.le_trans h.sz hbV.size, h.bel.trans (hbV.mono h.bel.size), below_keeps hbV h.kx (Array.getElem?_eq_some_iff.1 h.kx).1⟩, hu, hk⟩ ⟨by omega, hrV⟩
        unfold pv at HK ⊢
        simp only [List.setIfInBounds_toArray, List.set_cons_zero, List.set_cons_succ] at HK ⊢
        clear hK h hu hk hx hbV hrV hz hs
        gi_wp2
        rw [← HV2.out]
        exact HK
      case body =>
        rintro l i e b V hl _ ⟨k0, hj, hu, hk0⟩ ⟨j1, j2⟩ hx
        obtain ⟨ek, ev⟩ := e
        simp only at j2
        have HJV := hid hj
        have HUV := hid hu
        have HX := hid hx
        have HPB := hid j2
        have HBG : Hid (b ≠ kb) := by have h1 := HZV.out; have h2 := HKB.out; unfold Hid; omega
        have HRCH : Hid (∀ wr, Chg (fun x => x = kb) V wr → Below U.heap.size U wr) := fun wr hc => hj.chg HKB.out hc
        clear hj hu hx j1 j2 hl
        simp only [pv, List.setIfInBounds_toArray, List.set_cons_zero, List.set_cons_succ]
        gi_wp2
        gi_loopw [] (fun wr => ∃ k : Nat, Hid (Chg (fun x => x = kb) V wr) ∧ Hid (wr.heap[kb]? = some (.cells #[.int .i64 (k : Int)] 3)) ∧ Hid (Upto (inP q) E k i) ∧ k ≤ ne) (fun wr => ne - kOf kb wr)
        case atStart => exact ⟨k0, Chg.refl _ _, HJV.out.kx, HUV, hk0⟩
        case round =>
          obtain ⟨k, HC, HK, HU, hk⟩ := hrel
          obtain ⟨_, rq, rA, rI, hb0⟩ := HEL.out wr (HRCH.out wr HC.out)
          have kc : ∀ t : Beh wr, t.wd.cell? ⟨kb, 0, none⟩ = some (.int .i64 (k : Int)) := fun t => by rw [cell_of_row _ _ _ _ _ _ (below_keeps t.ok HK.out (Array.getElem?_eq_some_iff.1 HK.out).1)]; rfl
          have ac : ∀ t : Beh wr, t.wd.cell? ⟨ab, 0, none⟩ = some (.slice ae ne ce) := fun t => by rw [cell_of_row _ _ _ _ _ _ (below_keeps t.ok rA (Array.getElem?_eq_some_iff.1 rA).1)]; rfl
          obtain ⟨q0, q1⟩ := Beh.two rq
          by_cases hkn : k < ne
          · obtain ⟨g, off, p, hae, hg, c0, c1, HQ⟩ := (HSB.out.below hb0).at k hkn
            obtain ⟨ea, hea, hpe⟩ : ∃ ea, E[k]? = some ea ∧ p = (ea.1.x, (ea.1.n : Int)) := by
              have hlt : k < E.length := by have := HNE.out; omega
              exact ⟨E[k], List.getElem?_eq_getElem hlt, kp_at' (List.getElem?_eq_getElem hlt) HQ.out⟩
            subst hae hpe
            simp only at c0 c1
            have d0 : ∀ t : Beh wr, t.wd.cell? ⟨g, off + k * 2, none⟩ = some (.int .u32 (ea.1.x : Int)) := fun t => (t.ok.cell (p := ⟨g, _, none⟩) hg).trans c0
            have d1 : ∀ t : Beh wr, t.wd.cell? ⟨g, off + k * 2 + 1, none⟩ = some (.int .i64 (ea.1.n : Int)) := fun t => (t.ok.cell (p := ⟨g, _, none⟩) hg).trans c1
            have b1 : (k : Int) < (ne : Int) := by omega
            have b2 : (0 : Int) ≤ (k : Int) := by omega
            have b3 : decide ((k : Int) < 0) = false := by simp
            have hkm : (k : Int) ≤ 9223372036854775806 := by omega
            have HKF : Hid (∀ t : Beh wr, t.wd.frozen? ⟨kb, 0, none⟩ = false) := fun t => frozen_of_row _ _ _ _ _ (below_keeps t.ok HK.out (Array.getElem?_eq_some_iff.1 HK.out).1)
            have HCT : ∀ t : Beh wr, Hid (Calls Try.prog 12 #[pv q, .int .u32 (ea.1.x : Int)] t.wd fun e w'' => e = .returned (.bool (hasK q ea.1.x)) ∧ ∃ t' : Beh wr, w'' = t'.wd) := fun t => Calls.beh (contains_ok _ _ HQO.out)
            unfold pv at HCT
            have HEA := hid hea
            have HPASS : Hid (inP q ea = false → ∀ t : Beh wr, (∃ k' : Nat, Hid (Chg (fun x => x = kb) V (t.wd.setCell ⟨kb, 0, none⟩ (.int .i64 ((k : Int) + 1)))) ∧ Hid ((t.wd.setCell ⟨kb, 0, none⟩ (.int .i64 ((k : Int) + 1))).heap[kb]? = some (.cells #[.int .i64 (k' : Int)] 3)) ∧ Hid (Upto (inP q) E k' i) ∧ k' ≤ ne) ∧ ne - kOf kb (t.wd.setCell ⟨kb, 0, none⟩ (.int .i64 ((k : Int) + 1))) < ne - kOf kb wr) := fun hp t => by
              have hrow : (t.wd.setCell ⟨kb, 0, none⟩ (.int .i64 ((k : Int) + 1))).heap[kb]? = some (.cells #[.int .i64 ((k + 1 : Nat) : Int)] 3) := by
                rw [set_row (below_keeps t.ok HK.out (Array.getElem?_eq_some_iff.1 HK.out).1)]
                rfl
              refine ⟨⟨k + 1, chg_set HC.out t.ok _, hrow, HU.out.pass hea hp, by omega⟩, ?_⟩
              rw [kOf_of hrow, kOf_of HK.out]
              omega
            clear hg hea c0 c1 HQ rq rA rI hb0
            by_cases hn : ea.1.n < q.n
            · have hp : inP q ea = false := by unfold inP; simp; omega
              have HP1 := hid (HPASS.out hp)
              have z1 : (ea.1.n : Int) < (q.n : Int) := by omega
              have z2 : decide ((ea.1.n : Int) < (q.n : Int)) = true := by simp; omega
              clear HCT HPASS hp hn
              gi_wp2
              refine wpIn_region_behR (by kernel_rfl) (by kernel_rfl) (by kernel_rfl) ?_
              repeat (go_big_quiet_step (fail))
              refine wpQuiet_nil ?_
              rintro _ ⟨t, rfl⟩
              have kf := HKF.out t
              gi_wp2
              go_roundw
              case rel => exact (HP1.out t).1
              case measure => exact (HP1.out t).2
            · have z1 : ¬ (ea.1.n : Int) < (q.n : Int) := by omega
              have z2 : decide ((ea.1.n : Int) < (q.n : Int)) = false := by simp; omega
              have z3 : (q.n : Int) ≤ (ea.1.n : Int) := by omega
              have z4 : decide (ea.1.n < q.n) = false := by simp; omega
              cases hR : hasK q ea.1.x with
              | false =>
                have hp : inP q ea = false := by unfold inP; rw [hR]; simp
                have HP1 := hid (HPASS.out hp)
                rw [hR] at HCT
                clear HPASS hp hR
                gi_wp2
                refine wpIn_region_behR (by kernel_rfl) (by kernel_rfl) (by kernel_rfl) ?_
                repeat (go_big_quiet_step (first | (go_at_call 12; exact (HCT _).out)))
                refine wpQuiet_nil ?_
                rintro _ ⟨t, rfl⟩
                have kf := HKF.out t
                gi_wp2
                go_roundw
                case rel => exact (HP1.out t).1
                case measure => exact (HP1.out t).2
              | true =>
                have hp : inP q ea = true := by unfold inP; rw [hR]; simp; omega
                rw [hR] at HCT
                have hee := HU.out.is HEA.out hp
                rw [HX.out] at hee
                obtain rfl := Option.some.inj hee
                have HNX := hid (HU.out.next HEA.out hp)
                clear HPASS hp hR hee
                gi_wp2
                refine wpIn_region_behR (by kernel_rfl) (by kernel_rfl) (by kernel_rfl) ?_
                repeat (go_big_quiet_step (first | (go_at_call 12; exact (HCT _).out)))
                refine wpQuiet_nil ?_
                rintro _ ⟨t, rfl⟩
                obtain ⟨wx, HWX⟩ : ∃ wx, Hid (wx = t.wd) := ⟨_, rfl⟩
                have hbx : Below wr.heap.size wr wx := by rw [HWX.out]; exact t.ok
                rw [← HWX.out]
                have hcx : Chg (fun x => x = kb) V wx := HC.out.trans (Chg.of_below hbx)
                obtain ⟨_, _, rA, rI, hb0⟩ := HEL.out wx (HRCH.out wx hcx)
                have rK := below_keeps hbx HK.out (Array.getElem?_eq_some_iff.1 HK.out).1
                have rP : wx.heap[b]? = some (.cells #[.int .u32 (ek.x : Int), .int .i64 (ek.n : Int)] 32) := (hcx.block b (Array.getElem?_eq_some_iff.1 HPB.out).1 HBG.out).trans HPB.out
                have kc2 : ∀ t : Beh wx, t.wd.cell? ⟨kb, 0, none⟩ = some (.int .i64 (k : Int)) := fun t => by rw [cell_of_row _ _ _ _ _ _ (below_keeps t.ok rK (Array.getElem?_eq_some_iff.1 rK).1)]; rfl
                have ac2 : ∀ t : Beh wx, t.wd.cell? ⟨ab, 0, none⟩ = some (.slice (some ⟨g, off, none⟩) ne ce) := fun t => by rw [cell_of_row _ _ _ _ _ _ (below_keeps t.ok rA (Array.getElem?_eq_some_iff.1 rA).1)]; rfl
                have ic2 : ∀ t : Beh wx, t.wd.cell? ⟨ab + 1, 0, none⟩ = some (.slice ai ni ci) := fun t => by rw [cell_of_row _ _ _ _ _ _ (below_keeps t.ok rI (Array.getElem?_eq_some_iff.1 rI).1)]; rfl
                obtain ⟨p0, p1⟩ := Beh.two rP
                obtain ⟨gi, hai, hni, hgi, ic⟩ := ints_at HRI.out (show k < E.length by have := HNE.out; omega)
                subst hai
                have ic' : u0.cell? ⟨gi, k, none⟩ = some (.int .i64 ev) := by rw [ic, List.getElem?_map, HEA.out]; rfl
                have iv2 : ∀ t : Beh wx, t.wd.cell? ⟨gi, k, none⟩ = some (.int .i64 ev) := fun t => (t.ok.cell (p := ⟨gi, _, none⟩) (Nat.lt_of_lt_of_le hgi hb0.size)).trans ((hb0.cell (p := ⟨gi, _, none⟩) hgi).trans ic')
                have e0 : ∀ t : Beh wx, t.wd.cell? ⟨g, off + k * 2, none⟩ = some (.int .u32 (ek.x : Int)) := fun t' => by
                  have h := d0 ⟨t'.wd, hbx.trans (t'.ok.mono hbx.size)⟩
                  exact h
                have e1 : ∀ t : Beh wx, t.wd.cell? ⟨g, off + k * 2 + 1, none⟩ = some (.int .i64 (ek.n : Int)) := fun t' => by
                  have h := d1 ⟨t'.wd, hbx.trans (t'.ok.mono hbx.size)⟩
                  exact h
                have n1 : (k : Int) < (ni : Int) := by have := HNE.out; omega
                have g1 : ¬ ((ne : Int) ≤ (k : Int)) := by omega
                have g2 : decide ((ne : Int) ≤ (k : Int)) = false := by simp; omega
                have g3 : ¬ (ne ≤ k) := by omega
                have g4 : decide (ne ≤ k) = false := by simp; omega
                have g5 : k < ni := by omega
                have hq : ∀ u : World, (Op.equalIn 10000 32 (.agg #[.int .u32 (ek.x : Int), .int .i64 (ek.n : Int)]) (.agg #[.int .u32 (ek.x : Int), .int .i64 (ek.n : Int)])).run Try.prog u = .ok true u := fun u => (eqK ek ek u).trans (by simp)
                have HKF2 : Hid (∀ t : Beh wx, t.wd.frozen? ⟨kb, 0, none⟩ = false) := fun t => frozen_of_row _ _ _ _ _ (below_keeps t.ok rK (Array.getElem?_eq_some_iff.1 rK).1)
                have HFIN : Hid (∀ t : Beh wx, KeepsN V0.heap.size V (t.wd.setCell ⟨kb, 0, none⟩ (.int .i64 ((k : Int) + 1))) ∧ ∃ k' : Nat, InJ U (t.wd.setCell ⟨kb, 0, none⟩ (.int .i64 ((k : Int) + 1))) kb k' ∧ Upto (inP q) E k' (i + 1) ∧ k' ≤ ne) := fun t' => by
                  have hc := chg_set hcx t'.ok (.int .i64 ((k : Int) + 1))
                  have hz := HZV.out
                  have hkb := HKB.out
                  refine ⟨⟨hc.size, fun x o hx ho _ => (hc.block x (Array.getElem?_eq_some_iff.1 ho).1 (by omega)).trans ho⟩, k + 1, ⟨Nat.le_trans HJV.out.sz hc.size, HJV.out.chg hkb hc, ?_⟩, HNX.out, by omega⟩
                  rw [set_row (below_keeps t'.ok rK (Array.getElem?_eq_some_iff.1 rK).1)]
                  rfl
                clear hbx hcx rA rI hb0 rK rP hni hgi ic ic' kc ac q0 q1 d0 d1 HCT z1 z2 HKF
                gi_wp2
                refine wpIn_region_behR (by kernel_rfl) (by kernel_rfl) (by kernel_rfl) ?_
                repeat (go_big_quiet_step (fail))
                refine wpQuiet_nil ?_
                rintro _ ⟨t2, rfl⟩
                have kf := HKF2.out t2
                gi_wp2
                exact HFIN.out t2
          · exfalso
            have h1 := HU.out.all (by have := HNE.out; omega)
            have h2 := (List.getElem?_eq_some_iff.1 HX.out).1
            omega
      case done =>
        rintro D W hD ⟨k0, hj, hu, hk0⟩ hKD
        have HJV := hid hj
        have HUV := hid hu
        have HKD := hid hKD
        have HDG : Hid (U.heap.size + 1 ≤ D) := by have h1 := HZV.out; unfold Hid; omega
        have HRCH : Hid (∀ wr, Chg (fun x => x = kb) W wr → Below U.heap.size U wr) := fun wr hc => hj.chg HKB.out hc
        clear hj hu hKD hD
        go_upto_region 23 with fail
        go_loopw [] (fun wr => ∃ k : Nat, Hid (Chg (fun x => x = kb) W wr) ∧ Hid (wr.heap[kb]? = some (.cells #[.int .i64 (k : Int)] 3)) ∧ Hid (Upto (inP q) E k (E.filter (inP q)).length) ∧ k ≤ ne) (fun wr => ne - kOf kb wr)
        case atStart => exact ⟨k0, Chg.refl _ _, HJV.out.kx, HUV, hk0⟩
        case round =>
          obtain ⟨k, HC, HK, HU, hk⟩ := hrel
          obtain ⟨rS, rq, rA, rI, hb0⟩ := HEL.out wr (HRCH.out wr HC.out)
          have kw : wr.cell? ⟨kb, 0, none⟩ = some (.int .i64 (k : Int)) := by rw [cell_of_row _ _ _ _ _ _ HK.out]; rfl
          have aw : wr.cell? ⟨ab, 0, none⟩ = some (.slice ae ne ce) := by rw [cell_of_row _ _ _ _ _ _ rA]; rfl
          by_cases hkn : k < ne
          · have kc : ∀ t : Beh wr, t.wd.cell? ⟨kb, 0, none⟩ = some (.int .i64 (k : Int)) := fun t => by rw [cell_of_row _ _ _ _ _ _ (below_keeps t.ok HK.out (Array.getElem?_eq_some_iff.1 HK.out).1)]; rfl
            have ac : ∀ t : Beh wr, t.wd.cell? ⟨ab, 0, none⟩ = some (.slice ae ne ce) := fun t => by rw [cell_of_row _ _ _ _ _ _ (below_keeps t.ok rA (Array.getElem?_eq_some_iff.1 rA).1)]; rfl
            obtain ⟨q0, q1⟩ := Beh.two rq
            obtain ⟨g, off, p, hae, hg, c0, c1, HQ⟩ := (HSB.out.below hb0).at k hkn
            obtain ⟨ea, hea, hpe⟩ : ∃ ea, E[k]? = some ea ∧ p = (ea.1.x, (ea.1.n : Int)) := by
              have hlt : k < E.length := by have := HNE.out; omega
              exact ⟨E[k], List.getElem?_eq_getElem hlt, kp_at' (List.getElem?_eq_getElem hlt) HQ.out⟩
            subst hae hpe
            simp only at c0 c1
            have d0 : ∀ t : Beh wr, t.wd.cell? ⟨g, off + k * 2, none⟩ = some (.int .u32 (ea.1.x : Int)) := fun t => (t.ok.cell (p := ⟨g, _, none⟩) hg).trans c0
            have d1 : ∀ t : Beh wr, t.wd.cell? ⟨g, off + k * 2 + 1, none⟩ = some (.int .i64 (ea.1.n : Int)) := fun t => (t.ok.cell (p := ⟨g, _, none⟩) hg).trans c1
            have b1 : (k : Int) < (ne : Int) := by omega
            have b2 : (0 : Int) ≤ (k : Int) := by omega
            have b3 : decide ((k : Int) < 0) = false := by simp
            have hkm : (k : Int) ≤ 9223372036854775806 := by omega
            have HKF : Hid (∀ t : Beh wr, t.wd.frozen? ⟨kb, 0, none⟩ = false) := fun t => frozen_of_row _ _ _ _ _ (below_keeps t.ok HK.out (Array.getElem?_eq_some_iff.1 HK.out).1)
            have HCT : ∀ t : Beh wr, Hid (Calls Try.prog 12 #[pv q, .int .u32 (ea.1.x : Int)] t.wd fun e w'' => e = .returned (.bool (hasK q ea.1.x)) ∧ ∃ t' : Beh wr, w'' = t'.wd) := fun t => Calls.beh (contains_ok _ _ HQO.out)
            unfold pv at HCT
            have HEA := hid hea
            have HPASS : Hid (inP q ea = false → ∀ t : Beh wr, (∃ k' : Nat, Hid (Chg (fun x => x = kb) W (t.wd.setCell ⟨kb, 0, none⟩ (.int .i64 ((k : Int) + 1)))) ∧ Hid ((t.wd.setCell ⟨kb, 0, none⟩ (.int .i64 ((k : Int) + 1))).heap[kb]? = some (.cells #[.int .i64 (k' : Int)] 3)) ∧ Hid (Upto (inP q) E k' (E.filter (inP q)).length) ∧ k' ≤ ne) ∧ ne - kOf kb (t.wd.setCell ⟨kb, 0, none⟩ (.int .i64 ((k : Int) + 1))) < ne - kOf kb wr) := fun hp t => by
              have hrow : (t.wd.setCell ⟨kb, 0, none⟩ (.int .i64 ((k : Int) + 1))).heap[kb]? = some (.cells #[.int .i64 ((k + 1 : Nat) : Int)] 3) := by
                rw [set_row (below_keeps t.ok HK.out (Array.getElem?_eq_some_iff.1 HK.out).1)]
                rfl
              refine ⟨⟨k + 1, chg_set HC.out t.ok _, hrow, HU.out.pass hea hp, by omega⟩, ?_⟩
              rw [kOf_of hrow, kOf_of HK.out]
              omega
            have hp : inP q ea = false := HU.out.none hea
            have HP1 := hid (HPASS.out hp)
            clear hg hea c0 c1 HQ rq rA rI rS hb0 HPASS
            by_cases hn : q.n ≤ ea.1.n
            · have hR : hasK q ea.1.x = false := by unfold inP at hp; simpa [hn] using hp
              rw [hR] at HCT
              have z1 : (q.n : Int) ≤ (ea.1.n : Int) := by omega
              have z2 : decide ((q.n : Int) ≤ (ea.1.n : Int)) = true := by simp; omega
              have z4 : decide (q.n ≤ ea.1.n) = true := by simp; omega
              clear hR hp
              go_upto_region 25 with fail
              refine wp_region_beh (by kernel_rfl) (by kernel_rfl) ?_
              repeat (go_big_quiet_step (first | (go_at_call 12; exact (HCT _).out)))
              refine wpQuiet_nil ?_
              rintro _ ⟨t, rfl⟩
              have kf := HKF.out t
              go_wp2_with fail
              go_roundw
              case rel => exact (HP1.out t).1
              case measure => exact (HP1.out t).2
            · have z1 : ¬ (q.n : Int) ≤ (ea.1.n : Int) := by omega
              have z2 : decide ((q.n : Int) ≤ (ea.1.n : Int)) = false := by simp; omega
              have z4 : decide (q.n ≤ ea.1.n) = false := by simp; omega
              clear hp HCT
              go_upto_region 25 with fail
              refine wp_region_beh (by kernel_rfl) (by kernel_rfl) ?_
              repeat (go_big_quiet_step (fail))
              refine wpQuiet_nil ?_
              rintro _ ⟨t, rfl⟩
              have kf := HKF.out t
              go_wp2_with fail
              go_roundw
              case rel => exact (HP1.out t).1
              case measure => exact (HP1.out t).2
          · have b1 : ¬ (k : Int) < (ne : Int) := by omega
            have b1' : ¬ k < ne := hkn
            have HSBW := hid (HSB.out.below hb0)
            have HRAW := hid rA
            have HSLW := hid (HSL0.out.below hb0)
            have HRSW := hid rS
            have HBWW : Hid (Below w.heap.size w wr) := HB0.out.trans (hb0.mono HB0.out.size)
            have HDW : Hid (wr.heap[D]? = some (.deferred (some []))) := by
              have h1 := HKB.out
              have h2 := HDG.out
              exact (HC.out.block D (Array.getElem?_eq_some_iff.1 HKD.out).1 (by omega)).trans HKD.out
            have HDG2 : Hid (w.heap.size + 2 ≤ D) := by
              have h1 := (Array.getElem?_eq_some_iff.1 HR0.out).1
              have h2 := (HEL.out U (Below.refl _ _)).2.2.2.2.size
              have h3 := HDG.out
              unfold Hid; omega
            have HMEM : Hid (∀ i kk, L[i]? = some kk → 0 ≤ lastTo (E.map Prod.fst) kk (E.map Prod.fst).length) := fun i kk hi => by
              have hm := HPL.out.2 i kk (List.getElem?_eq_some_iff.1 hi).1 hi
              rw [← HEE.out] at hm
              obtain ⟨i2, hi2, he2⟩ := List.mem_iff_getElem.1 hm
              have h1 := lastTo_of (L := E.map Prod.fst) (p := kk) (n := (E.map Prod.fst).length) hi2 (by rw [List.getElem?_eq_getElem hi2, he2])
              have h2 := (lastTo_lt (E.map Prod.fst) kk (E.map Prod.fst).length).2
              omega
            clear rq rA rI rS hb0
            obtain ⟨wo, hwo⟩ : ∃ wo, wo = wr := ⟨_, rfl⟩
            subst hwo
            go_upto_region 28 with fail
            go_loopw [15] (fun i wr => ∃ j2 : Nat, i = .int .i64 (j2 : Int) ∧ j2 ≤ nl ∧ Hid (Below wo.heap.size wo wr)) (fun i _ => nl - (intOf i).toNat)
            case atStart => exact ⟨0, rfl, by omega, Below.refl _ _⟩
            case round =>
              obtain ⟨j2, rfl, hj2, HB2⟩ := hrel
              by_cases hjn : j2 < nl
              · obtain ⟨g, off, p, hal, hg, c0, c1, HQ⟩ := (HSLW.out.below HB2.out).at j2 hjn
                subst hal
                obtain ⟨kk, hkk, rfl⟩ := kp_at HQ.out
                simp only [kp] at c0 c1
                have d0 : ∀ t : Beh wr, t.wd.cell? ⟨g, off + j2 * 2, none⟩ = some (.int .u32 (kk.x : Int)) := fun t => (t.ok.cell (p := ⟨g, _, none⟩) hg).trans c0
                have d1 : ∀ t : Beh wr, t.wd.cell? ⟨g, off + j2 * 2 + 1, none⟩ = some (.int .i64 (kk.n : Int)) := fun t => (t.ok.cell (p := ⟨g, _, none⟩) hg).trans c1
                have rA2 := below_keeps HB2.out HRAW.out (Array.getElem?_eq_some_iff.1 HRAW.out).1
                have ac : ∀ t : Beh wr, t.wd.cell? ⟨ab, 0, none⟩ = some (.slice ae ne ce) := fun t => by rw [cell_of_row _ _ _ _ _ _ (below_keeps t.ok rA2 (Array.getElem?_eq_some_iff.1 rA2).1)]; rfl
                obtain ⟨z, hz⟩ : ∃ z, z = lastTo (E.map Prod.fst) kk (E.map Prod.fst).length := ⟨_, rfl⟩
                have HLS : ∀ t : Beh wr, Hid (Calls Try.prog 14 #[.slice ae ne ce, pv kk] t.wd fun e w'' => e = .returned (.int .i64 z) ∧ ∃ t' : Beh wr, w'' = t'.wd) := fun t => by
                  rw [hz]
                  exact Calls.beh (last_any _ _ kk t.wd ((HSBW.out.below HB2.out).below t.ok))
                unfold pv at HLS
                have hz0 : 0 ≤ z := by rw [hz]; exact HMEM.out j2 kk hkk
                have z1 : ¬ z < 0 := by omega
                have z2 : decide (z < 0) = false := by simp; omega
                have b1 : (j2 : Int) < (nl : Int) := by omega
                have b2 : (0 : Int) ≤ (j2 : Int) := by omega
                have b3 : decide ((j2 : Int) < 0) = false := by simp
                have HBT : Hid (∀ t : Beh wr, Below wo.heap.size wo t.wd) := fun t => HB2.out.trans (t.ok.mono HB2.out.size)
                clear hz hg c0 c1 HQ hkk rA2
                go_upto_region 30 with fail
                refine wp_region_beh (by kernel_rfl) (by kernel_rfl) ?_
                repeat (go_big_quiet_step (first | (go_at_call 14; exact (HLS _).out)))
                refine wpQuiet_nil ?_
                rintro _ ⟨t, rfl⟩
                have HBT2 := hid (HBT.out t)
                go_wp2_with fail
                go_roundw
                case rel => exact ⟨j2 + 1, by go_num, by omega, HBT2⟩
                case measure => simp [intOf]; omega
              · have b1 : ¬ (j2 : Int) < (nl : Int) := by omega
                have rS2 := below_keeps HB2.out HRSW.out (Array.getElem?_eq_some_iff.1 HRSW.out).1
                have hD2 := below_keeps HB2.out HDW.out (Array.getElem?_eq_some_iff.1 HDW.out).1
                have hBB : Below w.heap.size w wr := HBWW.out.trans (HB2.out.mono HBWW.out.size)
                have rs0 : wr.cell? ⟨w.heap.size + 1, 0, none⟩ = some (.bool false) := by rw [cell_of_row _ _ _ _ _ _ rS2]; rfl
                have rsf : wr.frozen? ⟨w.heap.size + 1, 0, none⟩ = false := frozen_of_row _ _ _ _ _ rS2
                obtain ⟨Y2, hY2⟩ : ∃ Y2, Y2 = wr.setCell ⟨w.heap.size + 1, 0, none⟩ (.bool true) := ⟨_, rfl⟩
                have bt : But (w.heap.size + 1) wr Y2 := by rw [hY2]; exact But.set _ _ _ _
                have RS : Hid (Y2.heap[w.heap.size + 1]? = some (.cells #[.bool true] 4)) := by rw [hY2]; exact set_row rS2
                have HBY : Hid (Below w.heap.size w Y2) := bt.below hBB hBB.size (by omega)
                have hdg := HDG2.out
                have E0 : Hid (Y2.heap[D]? = some (.deferred (some []))) := (bt.block _ (Array.getElem?_eq_some_iff.1 hD2).1 (by omega)).trans hD2
                have HY2 := hid hY2
                clear rS2 hD2 hBB hY2 bt hdg
                go_wp2_with fail
                rw [← HY2.out]
                have hK0 := E0.out
                have hf0 : Below w.heap.size w (Y2.putObj D (.deferred none)) := HBY.out.trans (belowK_b (w := w) (Nat.le_refl _) Y2 D _ _ (by have := HDG2.out; omega) hK0 rfl rfl)
                have rz : (Y2.putObj D (.deferred none)).heap[w.heap.size + 1]? = some (.cells #[.bool true] 4) := (World.putObj_heap_other (by have := HDG2.out; omega)).trans RS.out
                have g0 : (Y2.putObj D (.deferred none)).cell? ⟨w.heap.size + 1, 0, none⟩ = some (.bool true) := by rw [cell_of_row _ _ _ _ _ _ rz]; rfl
                refine ⟨by simp, .inl ⟨_, _, rfl, run_takeDeferred hK0, ?_⟩⟩
                exact ⟨_, (by simp [results, Try.results7, go_sem, g0]), rfl, hf0⟩
      case stop =>
        rintro D c W hD h hK
        exact h.elim
end Go.Proofs.Ytmnafocmbcgdiaa
