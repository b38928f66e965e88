/-
  trie.below: a node and all below it, rising.
-/
import Derived.Test.YtmnafocmbcgdiabXA
import Derived.Test.YtmnafocmbcgdiabVT
import Derived.Laws.AppendOwn
import Derived.Great.BuildSlice
namespace Go.Proofs.Ytmnafocmbcgdiab
open Go.ChangeShapes Go.WideShapes Go.ChangeAt Go.RowKit Go.Shelf Tri N
attribute [local go_sem] Oper.semAt_some
set_option maxHeartbeats 4000000
set_option maxRecDepth 100000

/-- The nodes, a node ahead of those below it. -/
def pre : MT → List MT
  | .nil => []
  | .node b c k u l r => .node b c k u l r :: (pre l ++ pre r)

def todo (S : List MT) : List MT := S.reverse.flatMap pre
def wt (q : MT) : Nat := 2 * nodes q.tr + 1
def tot (S : List MT) : Nat := (S.map wt).sum

theorem tot_len (S : List MT) : S.length ≤ tot S := by
  induction S with
  | nil => exact Nat.le_refl _
  | cons q S ih => simp only [tot, List.map_cons, List.sum_cons, List.length_cons, wt] at ih ⊢; omega
theorem tot_snoc (S : List MT) (q : MT) : tot (S ++ [q]) = tot S + wt q := by simp [tot]
theorem todo_snoc (S : List MT) (q : MT) : todo (S ++ [q]) = pre q ++ todo S := by simp [todo]

structure BelowAt (X : Nat → Prop) (m : MT) (B : Nat) (J : Nat → World → Prop) (gk : Nat) (v : Value) (wr : World) (S : List MT) (k : Nat) : Prop where
  row : wr.ownsRow B 48 1 v S.length (S.map MT.ptr)
  gh : gk = tot S
  rest : (pre m).drop k = todo S
  le : k ≤ (pre m).length
  sub : ∀ q ∈ S, ∀ W', Lies W' X m → Lies W' X q
  inv : J k wr
  size : B ≤ wr.heap.size
  few : tot S ≤ 2 * nodes m.tr + 1

theorem idx_ns {n cap g m : Nat} {i : Int} (hi : i = (m : Int)) (hm : m < n) (u : World) : (Instr.indexAt 102 (.slice (some ⟨g, 0, none⟩) n cap) (.int .i64 i)).run Try.prog u = .ok (.pointer (some ⟨g, m, none⟩)) u := by
  subst hi
  have hu : Try.prog.underlying 102 = some (.slice 48) := by kernel_rfl
  have hsz : (sizeOf 48).run Try.prog u = .ok 1 u := by kernel_rfl
  simp [Instr.indexAt, run_underlying hu, asIntOf, go_sem, hsz, Result.andThen]
  omega

theorem cut_ns {n cap g m : Nat} {i : Int} (hi : i = (m : Int)) (hm : m ≤ n) (hc : n ≤ cap) (u : World) : (Instr.sliceAt 102 (.slice (some ⟨g, 0, none⟩) n cap) none (some (.int .i64 i)) none).run Try.prog u = .ok (.slice (some ⟨g, 0, none⟩) m cap) u := by
  subst hi
  have hu : Try.prog.underlying 102 = some (.slice (Try.prog.elem 102)) := by kernel_rfl
  have hsz : (sizeOf (Try.prog.elem 102)).run Try.prog u = .ok 1 u := by kernel_rfl
  rw [run_sliceAt_slice (h := hu), run_slice_h (ht := hu) (h0 := by omega) (h2 := by omega), hsz]
  simp [Result.andThen, sliced, Addr.add]

theorem infoN : (Try.prog.info? 48).map (fun i => (i.zero, i.size, i.bytes)) = some (some (.pointer none), 1, 8) := by kernel_rfl

theorem fill_two (rp lp : Option Addr) : Instr.fill (fun i => some (i * 1, 1)) (Array.map (fun x => (Value.pointer none).cells[x % (Value.pointer none).cells.size]!) (Array.range (2 * 1))) [(0, Value.pointer rp), (1, Value.pointer lp)] = some #[Value.pointer rp, Value.pointer lp] := by
  first
  | kernel_rfl
  | simp [Instr.fill, Value.cells, Array.range]
  | (unfold Instr.fill; simp [Value.cells, Array.range])

theorem ptr_one (q : MT) : q.ptr.oneCell' = true := by cases q <;> rfl

/-- What region 6 reads and makes. -/
def FB (v lp rp : Value) (b B : Nat) (i : Nat) (x : Value) (u : World) : Prop :=
  match i with
  | 0 => x = v
  | 1 => x = .pointer (some ⟨b, 0, none⟩)
  | 2 => x = .pointer (some ⟨b, 0, none⟩)
  | 3 => x = .pointer (some ⟨b, 3, none⟩)
  | 4 => x = .pointer (some ⟨b, 4, none⟩)
  | 5 => x = rp
  | 6 => x = .pointer (some ⟨b, 0, none⟩)
  | 7 => x = .pointer (some ⟨b, 0, none⟩)
  | 8 => x = .pointer (some ⟨b, 3, none⟩)
  | 9 => x = .pointer (some ⟨b, 3, none⟩)
  | 10 => x = lp
  | _ => ∃ g, x = .slice (some ⟨g, 0, none⟩) 2 2 ∧ B ≤ g ∧ u.heap[g]? = some (.cells #[rp, lp] 48)

theorem FB.keeps (v lp rp : Value) (b B : Nat) : ∀ (i : Nat) (x : Value) (w w' : World), FB v lp rp b B i x w → Below w.heap.size w w' → FB v lp rp b B i x w' := fun i x w w' h hb => by
  match i with
  | 0 | 1 | 2 | 3 | 4 | 5 | 6 | 7 | 8 | 9 | 10 => exact h
  | n + 11 => obtain ⟨g, h1, h2, h3⟩ := h; exact ⟨g, h1, h2, below_keeps hb h3 (Array.getElem?_eq_some_iff.1 h3).1⟩

theorem below_gives (n : Nat) (hn : 2 ≤ n) (X : Nat → Prop) (tbx : Nat) (m : MT) (hm : nodes m.tr ≤ 10000000000) :
    GivesN Fence.wide n Try.prog 57 #[.pointer (some ⟨tbx, 0, none⟩)] (fun q : MT => #[q.ptr]) (pre m) (fun k W => Lies W X m ∧ (k = 0 → W.heap[tbx]? = some (.cells #[m.ptr] 48))) := by
  intro l J Z W hJ hZ hJF hY h0
  obtain ⟨mp, hmp⟩ := ptr_is m
  have hF0 := hJF _ _ h0
  have t0 : W.cell? ⟨tbx, 0, none⟩ = some (.pointer mp) := by rw [← hmp, cell_of_row _ _ _ _ _ _ (hF0.2 rfl)]; rfl
  obtain ⟨W1, HW1⟩ : ∃ W1, Hid (W1 = W.alloc (.cells #[.pointer mp] 48)) := ⟨_, rfl⟩
  have HREL : Hid (∃ S k, BelowAt X m W.heap.size J (2 * nodes m.tr + 1) (.slice (some ⟨W.heap.size, 0, none⟩) 1 1) W1 S k) := by
    refine ⟨[m], 0, ⟨rfl, .inr ⟨W.heap.size, 1, #[.pointer mp], rfl, Nat.le_refl _, ?_, Nat.le_refl _, by unfold maxLen; omega, rfl, by rw [← hmp]; rfl⟩⟩, by simp [tot, wt], by simp [todo], Nat.zero_le _, fun q hq W' h => by simp at hq; subst hq; exact h, ?_, ?_, by simp [tot, wt]⟩
    · rw [HW1.out]; exact heap_alloc_new W _
    · rw [HW1.out]; exact hJ.alloc _ h0
    · rw [HW1.out]; simp
  refine callsIn_of_wp Try.func57 rfl trivial ?_ rfl
  refine wpIn_wide.2 ?_
  simp only [Try.ntmps57, List.size_toArray, List.length_cons, List.length_nil, Nat.reduceAdd, Nat.reduceSub, Array.replicate_succ, Array.replicate_zero, List.push_toArray, List.append_toArray, List.nil_append, List.cons_append]
  have HJ := hid hJ
  have HZ := hid hZ
  have HJF := hid hJF
  have HY := hid hY
  have HM := hid hm
  clear hJ hZ hJF hY h0 hmp hF0 hm
  obtain ⟨i0, HI0⟩ : ∃ i0, Hid (Try.prog.info? 48 = some i0 ∧ i0.zero = some (.pointer none) ∧ i0.size = 1 ∧ i0.bytes = 8) := by
    have h := infoN
    cases hq : Try.prog.info? 48 with
    | none => rw [hq] at h; cases h
    | some i => rw [hq] at h; simp at h; exact ⟨i, rfl, h.1, h.2.1, h.2.2⟩
  go_upto_region 1 with fail
  rw [← HW1.out]
  clear t0
  obtain ⟨N0, HN0⟩ : ∃ N0, Hid (N0 = 2 * nodes m.tr + 1) := ⟨_, rfl⟩
  rw [← HN0.out] at HREL
  go_loopg [3] N0 (fun gk v wr => ∃ vv, vv = v ∧ Hid (∃ S k, BelowAt X m W.heap.size J gk vv wr S k))
  case atStart => exact ⟨_, rfl, HREL⟩
  case round =>
    obtain ⟨vv, hvv, hrel⟩ := hrel
    subst hvv
    obtain ⟨S, k, hS⟩ := hrel.out
    clear hrel HREL
    rcases List.eq_nil_or_concat S with hnil | ⟨S0, q, hcon⟩
    · subst hnil
      obtain ⟨ao, cap, hv⟩ : ∃ ao cap, vv = .slice ao 0 cap := by
        rcases hS.row.2 with ⟨hv, _⟩ | ⟨g, cap, cur, hv, _⟩
        · exact ⟨_, _, hv⟩
        · exact ⟨_, _, hv⟩
      subst hv
      have HJE : Hid (J (pre m).length wr) := by
        have h1 := hS.rest
        have h2 := hS.le
        rw [show todo [] = [] from rfl, List.drop_eq_nil_iff] at h1
        have : k = (pre m).length := by omega
        rw [← this]; exact hS.inv
      clear hS
      go_wp2_with fail
      go_end0
      exact ⟨⟨_, rfl⟩, .inl HJE.out⟩
    · rw [List.concat_eq_append] at hcon
      subst hcon
      obtain ⟨g, cap, cur, hv, hg1, hg2, hg3, hg4, hg5, hg6⟩ : ∃ g cap cur, vv = .slice (some ⟨g, 0, none⟩) (S0 ++ [q]).length cap ∧ W.heap.size ≤ g ∧ wr.heap[g]? = some (.cells cur 48 (0, 0)) ∧ (S0 ++ [q]).length ≤ cap ∧ cap ≤ maxLen ∧ cur.size = cap * 1 ∧ cur.toList.take ((S0 ++ [q]).length * 1) = (S0 ++ [q]).map MT.ptr := by
        rcases hS.row.2 with ⟨_, hz⟩ | h
        · simp at hz
        · exact h
      obtain ⟨nl, HNL⟩ : ∃ nl, Hid (nl = (S0 ++ [q]).length) := ⟨_, rfl⟩
      obtain ⟨ns, HNS⟩ : ∃ ns, Hid (ns = S0.length) := ⟨_, rfl⟩
      have HL1 : Hid (nl = ns + 1) := by unfold Hid; rw [HNL.out, HNS.out]; simp
      rw [← HNL.out] at hv hg3 hg6
      subst hv
      have hfew : nl ≤ 20000000001 := by
        have h1 := tot_len (S0 ++ [q])
        have h2 := hS.few
        have h3 := HM.out
        rw [← HNL.out] at h1
        omega
      have hb0 : (0 : Int) < (nl : Int) := by have := HL1.out; omega
      have hcq : cur[ns]? = some q.ptr := by
        have h1 := congrArg (fun L => L[ns]?) hg6
        simp only [List.getElem?_take, List.getElem?_map] at h1
        rw [if_pos (by have := HL1.out; omega), HNS.out] at h1
        rw [HNS.out]
        simpa using h1
      have hix : ∀ u : World, (Instr.indexAt 102 (.slice (some ⟨g, 0, none⟩) nl cap) (.int .i64 ((nl : Int) - 1))).run Try.prog u = .ok (.pointer (some ⟨g, ns, none⟩)) u := fun u => idx_ns (by have := HL1.out; omega) (by have := HL1.out; omega) u
      have hcut : ∀ u : World, (Instr.sliceAt 102 (.slice (some ⟨g, 0, none⟩) nl cap) none (some (.int .i64 ((nl : Int) - 1))) none).run Try.prog u = .ok (.slice (some ⟨g, 0, none⟩) ns cap) u := fun u => cut_ns (by have := HL1.out; omega) (by have := HL1.out; omega) hg3 u
      obtain ⟨qp, hqp⟩ := ptr_is q
      rw [hqp] at hcq
      have hcell : wr.cell? ⟨g, ns, none⟩ = some (.pointer qp) := by rw [cell_of_row _ _ _ _ _ _ hg2]; exact hcq
      have hrow0 : wr.ownsRow W.heap.size 48 1 (.slice (some ⟨g, 0, none⟩) ns cap) S0.length (S0.map MT.ptr) := by
        refine ⟨by simp, .inr ⟨g, cap, cur, by rw [HNS.out], hg1, hg2, by have := HL1.out; have := HNS.out; omega, hg4, hg5, ?_⟩⟩
        have h1 := congrArg (fun L => L.take S0.length) hg6
        simp only [List.take_take, List.map_append] at h1
        rw [List.take_left' (by simp)] at h1
        rw [Nat.mul_one, ← h1]
        congr 1
        have := HL1.out
        have := HNS.out
        omega
      have HROW0 := hid hrow0
      have HQP := hid hqp
      have HS := hid hS
      clear hrow0 hS hg1 hg2 hg3 hg4 hg5 hg6 hcq
      cases q with
      | nil =>
        obtain rfl : qp = none := by simpa [MT.ptr] using hqp.symm
        have HNX : Hid (BelowAt X m W.heap.size J (gk - 1) (.slice (some ⟨g, 0, none⟩) ns cap) wr S0 k) := by
          have h := HS.out
          have ht := tot_snoc S0 .nil
          have hw : wt .nil = 1 := rfl
          refine ⟨HROW0.out, ?_, ?_, h.le, fun q hq => h.sub q (List.mem_append_left _ hq), h.inv, h.size, ?_⟩
          · have := h.gh; omega
          · rw [h.rest, todo_snoc]; rfl
          · have := h.few; omega
        have HPOS : Hid (gk - 1 < gk) := by
          have h1 := HS.out.gh
          have ht := tot_snoc S0 .nil
          have hw : wt .nil = 1 := rfl
          unfold Hid
          omega
        clear hqp HROW0 HS HY HJF HJ HZ
        go_wp2_with fail
        go_roundg (gk - 1)
        case measure => exact HPOS.out
        case rel => exact ⟨_, rfl, S0, k, HNX.out⟩
      | node b c kk u lt rt =>
        obtain rfl : qp = some ⟨b, 0, none⟩ := by simpa [MT.ptr] using hqp.symm
        have HAT : Hid ((pre m)[k]? = some (.node b c kk u lt rt)) := by
          have h1 := congrArg (fun L => L[0]?) HS.out.rest
          rw [todo_snoc] at h1
          unfold Hid
          simpa [pre] using h1
        have hJt := HS.out.inv
        obtain ⟨fn, tmps, assign, body, hy, hR⟩ := HY.out _ _ wr hJt HAT.out
        simp only [MT.ptr] at hy
        clear hqp
        go_upto_region 5 with fail
        refine (wpIn_wide (n := n)).1 ?_
        gi_wp2
        refine ⟨fun _ => by omega, hR.mono ?_⟩
        rintro _ W3 ⟨hK, (⟨rfl, hJ3⟩ | ⟨rfl, hZ3⟩)⟩
        case inr =>
          have HZ3 := hid hZ3
          clear hZ3 hy hR hJt HY HJF hK
          gi_wp2
          go_wp2_with fail
          exact bodyPost_ret (v := .tuple #[]) (by simp [results, Try.results57]) rfl ⟨⟨_, rfl⟩, .inr HZ3.out⟩
        have hrow3 : W3.ownsRow W.heap.size 48 1 (.slice (some ⟨g, 0, none⟩) ns cap) S0.length (S0.map MT.ptr) := by
          refine ⟨HROW0.out.1, ?_⟩
          rcases HROW0.out.2 with h | ⟨g', cap', cur', hv, hb', hg', hrest⟩
          · exact .inl h
          · exact .inr ⟨g', cap', cur', hv, hb', hK.same _ _ hb' hg' (.inr (.inl ⟨_, rfl⟩)), hrest⟩
        have hF3 := HJF.out _ _ hJ3
        obtain ⟨_, hnode, _, _, _⟩ := HS.out.sub _ (List.mem_append_right _ (List.mem_singleton.2 rfl)) W3 hF3.1
        obtain ⟨lp, hlp⟩ := ptr_is lt
        obtain ⟨rp, hrp⟩ := ptr_is rt
        have hsz3 : W.heap.size ≤ W3.heap.size := Nat.le_trans HS.out.size hK.size
        have HNODE := hid hnode
        have HROW3 := hid hrow3
        have HJ3 := hid hJ3
        have HLP := hid hlp
        have HRP := hid hrp
        have HSZ3 := hid hsz3
        have HLT3 : Hid (b < W3.heap.size) := (Array.getElem?_eq_some_iff.1 hnode).1
        clear hy hR hJt HY HJF hK hJ3 hF3 hnode hrow3 hlp hrp hsz3 HROW0 hcell hix hcut
        gi_wp2
        go_upto_region 6 with fail
        refine wp_region_mono' 12 (fun i => 27 + i) (FB (.slice (some ⟨g, 0, none⟩) ns cap) (.pointer lp) (.pointer rp) b W.heap.size) (by kernel_rfl) (by kernel_rfl) (FB.keeps _ _ _ _ _) ?_ ?_
        · simp only [List.take_succ_cons, List.take_zero, N.stepsOk]
          refine ⟨?_, ?_, ?_, ?_, ?_, ?_, ?_, ?_, ?_, ?_, ?_, ?_, trivial⟩
          · intro a u vs hb hold hdep
            exact wp_val (ex_move (.tmp 3) _ rfl (hold 3 (fun j hj => low (by decide)))) ⟨_, rfl, rfl, hb, Below.refl _ _⟩
          · intro a u vs hb hold hdep
            exact wp_val (ex_move (.tmp 4) _ rfl (hold 4 (fun j hj => low (by decide)))) ⟨_, rfl, rfl, hb, Below.refl _ _⟩
          · intro a u vs hb hold hdep
            have h0 := hdep ⟨1, .data⟩ (by simp) rfl (by decide)
            exact wp_val (ex_nil ⟨b, 0, none⟩ (.tmp 28) rfl (h0.1.trans h0.2)) ⟨_, rfl, rfl, hb, Below.refl _ _⟩
          · intro a u vs hb hold hdep
            have h0 := hdep ⟨2, .data⟩ (by simp) rfl (by decide)
            exact wp_val (ex_field _ ⟨b, 0, none⟩ (.tmp 29) 2 _ rfl (h0.1.trans h0.2) (fld_nd u).2.2) ⟨_, rfl, rfl, hb, Below.refl _ _⟩
          · intro a u vs hb hold hdep
            have h0 := hdep ⟨3, .data⟩ (by simp) rfl (by decide)
            exact wp_val (ex_index _ (.tmp 30) (.const (.int .i64 1)) _ _ _ rfl (h0.1.trans h0.2) rfl (idx_two (g := b) (o := 3) (i := 1) (by omega) u)) ⟨_, rfl, rfl, hb, Below.refl _ _⟩
          · intro a u vs hb hold hdep
            have h0 := hdep ⟨4, .data⟩ (by simp) rfl (by decide)
            have hr := below_keeps hb HNODE.out HLT3.out
            exact wp_val (ex_load _ ⟨b, 4, none⟩ (.tmp 31) _ rfl (h0.1.trans h0.2) (load_nd (by rw [cell_of_row _ _ _ _ _ _ hr, ← HRP.out]; rfl))) ⟨_, rfl, rfl, hb, Below.refl _ _⟩
          · intro a u vs hb hold hdep
            exact wp_val (ex_move (.tmp 4) _ rfl (hold 4 (fun j hj => low (by decide)))) ⟨_, rfl, rfl, hb, Below.refl _ _⟩
          · intro a u vs hb hold hdep
            have h0 := hdep ⟨6, .data⟩ (by simp) rfl (by decide)
            exact wp_val (ex_nil ⟨b, 0, none⟩ (.tmp 33) rfl (h0.1.trans h0.2)) ⟨_, rfl, rfl, hb, Below.refl _ _⟩
          · intro a u vs hb hold hdep
            have h0 := hdep ⟨7, .data⟩ (by simp) rfl (by decide)
            exact wp_val (ex_field _ ⟨b, 0, none⟩ (.tmp 34) 2 _ rfl (h0.1.trans h0.2) (fld_nd u).2.2) ⟨_, rfl, rfl, hb, Below.refl _ _⟩
          · intro a u vs hb hold hdep
            have h0 := hdep ⟨8, .data⟩ (by simp) rfl (by decide)
            exact wp_val (ex_index _ (.tmp 35) (.const (.int .i64 0)) _ _ _ rfl (h0.1.trans h0.2) rfl (idx_two (g := b) (o := 3) (i := 0) (by omega) u)) ⟨_, rfl, rfl, hb, Below.refl _ _⟩
          · intro a u vs hb hold hdep
            have h0 := hdep ⟨9, .data⟩ (by simp) rfl (by decide)
            have hr := below_keeps hb HNODE.out HLT3.out
            exact wp_val (ex_load _ ⟨b, 3, none⟩ (.tmp 36) _ rfl (h0.1.trans h0.2) (load_nd (by rw [cell_of_row _ _ _ _ _ _ hr, ← HLP.out]; rfl))) ⟨_, rfl, rfl, hb, Below.refl _ _⟩
          · intro a u vs hb hold hdep
            have h5 := hdep ⟨5, .data⟩ (by simp) rfl (by decide)
            have h10 := hdep ⟨10, .data⟩ (by simp) rfl (by decide)
            have e5 : a.eval (.tmp 32) = .pointer rp := h5.1.trans h5.2
            have e10 : a.eval (.tmp 37) = .pointer lp := h10.1.trans h10.2
            have hb' : Below u.heap.size u (u.alloc (.cells #[.pointer rp, .pointer lp] 48)) := (Below.refl _ _).alloc (Nat.le_refl _) _
            refine wp_buildSlice 102 48 2 #[(0, .tmp 32), (1, .tmp 37)] rfl #[.pointer rp, .pointer lp] i0 (.pointer none) (by kernel_rfl) HI0.out.1 HI0.out.2.1 (by rw [HI0.out.2.2.1]; decide) (by rw [HI0.out.2.2.1]; decide) ?_ ⟨_, rfl, ⟨_, rfl, Nat.le_trans HSZ3.out hb.size, heap_alloc_new u _⟩, hb.trans (hb'.mono hb.size), hb'⟩
            rw [HI0.out.2.2.1]
            simp only [List.map_toArray, List.map_cons, List.map_nil, e5, e10]
            exact fill_two rp lp
        intro vs W4 hb4 hF
        have e0 : vs 0 = .slice (some ⟨g, 0, none⟩) ns cap := hF 0 (by decide)
        obtain ⟨g4, e11, hg4, r4⟩ := hF 11 (by decide)
        clear hF
        simp only [List.drop_succ_cons, List.drop_zero, puts, List.range, List.range.loop, List.foldr, Nat.reduceAdd, if_true, e0, e11, Act.put, List.setIfInBounds_toArray, List.set_cons_zero, List.set_cons_succ]
        clear e0 e11
        generalize vs 1 = z1
        generalize vs 2 = z2
        generalize vs 3 = z3
        generalize vs 4 = z4
        generalize vs 5 = z5
        generalize vs 6 = z6
        generalize vs 7 = z7
        generalize vs 8 = z8
        generalize vs 9 = z9
        generalize vs 10 = z10
        obtain ⟨hi0, hi1, hi2, hi3⟩ := HI0.out
        have HI := hid hi0
        have hrow4 := owns_below HROW3.out hb4
        have hJ4 := HJ.out.below HJ3.out hb4
        have HROW4 := hid hrow4
        have HJ4 := hid hJ4
        have HB4 : Hid (W.heap.size ≤ W4.heap.size) := Nat.le_trans HSZ3.out hb4.size
        have R4 := hid r4
        clear hi0 hrow4 hJ4 r4
        go_wp2_with (at_builtin; refine wpList_append_own _ rfl _ _ 102 rfl W.heap.size 48 i0 (.pointer none) 1 8 (by kernel_rfl) HI.out hi1 hi2 hi3 rfl (by decide) _ _ _ rfl HROW4.out ⟨g4, 0, none⟩ 2 2 [.pointer rp, .pointer lp] rfl rfl ?bb1 ?bb2 ?bb3 ?bb4 ?bb5 ?_)
        case bb1 =>
          intro j u hu
          rcases j with _ | _ | j
          · rw [show (⟨g4, 0, none⟩ : Addr).add 0 = ⟨g4, 0, none⟩ by simp [Addr.add], cell_of_row _ _ _ _ _ _ R4.out]
            exact hu
          · rw [show (⟨g4, 0, none⟩ : Addr).add (0 + 1) = ⟨g4, 1, none⟩ by simp [Addr.add], cell_of_row _ _ _ _ _ _ R4.out]
            exact hu
          · simp at hu
        case bb2 => intro u hu; simp at hu; rcases hu with rfl | rfl <;> rfl
        case bb3 => have := HNS.out; have := HL1.out; unfold maxLen; omega
        case bb4 => have := HNS.out; have := HL1.out; omega
        case bb5 => exact HB4.out
        intro v5 W5 hown5 hgrow _
        have HNX : Hid (BelowAt X m W.heap.size J (gk - 1) v5 W5 (S0 ++ [rt] ++ [lt]) (k + 1)) := by
          have h := HS.out
          have ht := tot_snoc S0 (.node b c kk u lt rt)
          have ht1 := tot_snoc S0 rt
          have ht2 := tot_snoc (S0 ++ [rt]) lt
          have hw : wt (.node b c kk u lt rt) = wt lt + wt rt + 1 := by simp [wt, MT.tr, nodes]; omega
          have hk : k < (pre m).length := (List.getElem?_eq_some_iff.1 HAT.out).1
          refine ⟨?_, ?_, ?_, hk, fun q hq W' hW' => ?_, ?_, Nat.le_trans HB4.out hgrow.size, ?_⟩
          · have e : (S0 ++ [rt] ++ [lt]).map MT.ptr = S0.map MT.ptr ++ [.pointer rp, .pointer lp] := by simp [← HRP.out, ← HLP.out]
            rw [e]
            simpa using hown5
          · have := h.gh; omega
          · rw [← List.drop_drop, h.rest, todo_snoc, todo_snoc, todo_snoc]; simp [pre]
          · have hq' : q ∈ S0 ∨ q = rt ∨ q = lt := by simpa [or_assoc] using hq
            rcases hq' with hq | rfl | rfl
            · exact h.sub q (List.mem_append_left _ hq) W' hW'
            · exact (h.sub _ (List.mem_append_right _ (List.mem_singleton.2 rfl)) W' hW').2.2.2.2
            · exact (h.sub _ (List.mem_append_right _ (List.mem_singleton.2 rfl)) W' hW').2.2.2.1
          · refine HJ.out _ _ _ _ HJ4.out hgrow fun r e => ?_
            rcases HROW4.out.2 with ⟨hv, _⟩ | ⟨g', cap', cur', hv, hb', hg', _⟩
            · cases hv
            · simp at hv
              obtain ⟨rfl, _⟩ := hv
              obtain rfl : g = r := by simpa [Value.ownBlock] using e
              exact ⟨hb', _, hg', .inr (.inl ⟨_, rfl⟩)⟩
          · have := h.few; omega
        have HPOS : Hid (gk - 1 < gk) := by
          have h1 := HS.out.gh
          have ht := tot_snoc S0 (.node b c kk u lt rt)
          have hw : wt (.node b c kk u lt rt) = wt lt + wt rt + 1 := by simp [wt, MT.tr, nodes]; omega
          unfold Hid
          omega
        clear hown5 hgrow hb4
        go_wp2_with fail
        go_roundg (gk - 1)
        case measure => exact HPOS.out
        case rel => exact ⟨_, rfl, _, _, HNX.out⟩
end Go.Proofs.Ytmnafocmbcgdiab
