/-
  AddrNewMemory: views of lists that are written and appended to.
-/
import Derived.Test.YtenhofbhkchjoaaAU1
namespace Go.Proofs.Ytenhofbhkchjoaa
open Go.ChangeShapes Go.WideShapes Go.ChangeAt Go.RowKit
set_option maxHeartbeats 1000000
set_option maxRecDepth 100000

def mz (z : Nat) : Nat × Int := (z, 40 + (z : Int))
/-- All lists in view. -/
structure Vv (w0 w : World) (Xs : List (Value × List (Nat × Int))) : Prop where
  be : Below w0.heap.size w0 w
  vs : ∀ e ∈ Xs, Me.OwnQ w w0.heap.size e.1 e.2
def Top (v : Value) (n : Nat) (Xs : List (Value × List (Nat × Int))) : Prop := ∀ e ∈ Xs, ∀ k, v.ownBlock = some k → e.1.ownBlock = some k → e.2.length ≤ n
def Dis (v u : Value) : Prop := ∀ k, v.ownBlock = some k → u.ownBlock ≠ some k
def Aln (v : Value) (Xs : List (Value × List (Nat × Int))) : Prop := ∀ e ∈ Xs, Dis v e.1

section
variable {w0 w w' : World} {Xs Ys : List (Value × List (Nat × Int))}
theorem Dis.symm {v u : Value} (h : Dis v u) : Dis u v := fun k hk hk' => h k hk' hk
theorem Vv.below (h : Vv w0 w Xs) (hb : Below w.heap.size w w') : Vv w0 w' Xs := ⟨h.be.trans (hb.mono h.be.size), fun e he => Me.row_below (h.vs e he) hb⟩
theorem Vv.sub (h : Vv w0 w Xs) (hs : ∀ e ∈ Ys, e ∈ Xs) : Vv w0 w Ys := ⟨h.be, fun e he => h.vs e (hs e he)⟩
theorem Vv.lt (h : Vv w0 w Xs) {e : Value × List (Nat × Int)} (he : e ∈ Xs) {k : Nat} (hk : e.1.ownBlock = some k) : k < w.heap.size := (World.ownsRow.lt (h.vs e he) k hk).2
/-- A new list. -/
theorem Vv.cons {v : Value} {A : List (Nat × Int)} (h : Vv w0 w Xs) (hb : Below w.heap.size w w') (ho : Me.OwnQ w' w.heap.size v A) : Vv w0 w' ((v, A) :: Xs) ∧ Aln v Xs := by
  refine ⟨⟨(h.below hb).be, fun e he => ?_⟩, fun e he k hk hk' => ?_⟩
  · rcases List.mem_cons.1 he with rfl | he
    · exact Me.row_low ho h.be.size
    · exact (h.below hb).vs e he
  · have := (World.ownsRow.lt ho k hk).1
    have := h.lt he hk'
    omega
theorem Vv.app (h : Vv w0 w Xs) {v : Value} {A M : List (Nat × Int)} {m : Nat} (hv : (v, A) ∈ Xs) (ht : Top v A.length Xs) (hm : M.length = m) (hm0 : 0 < m) (hbig : A.length + m ≤ 8796093022208) (cs : Array Value) (hcs : cs = (Me.pp M).toArray) :
    ∃ a' c' w', (Builtin.append_ #[25, 25] 25 #[v, .slice (some ⟨w.heap.size, 0, none⟩) m m]).run Try.prog (w.alloc (.cells cs 30)) = .ok (.slice a' (A.length + m) c') w' ∧ Vv w0 w' ((.slice a' (A.length + m) c', A ++ M) :: Xs) ∧ Top (.slice a' (A.length + m) c') (A.length + m) ((.slice a' (A.length + m) c', A ++ M) :: Xs) ∧
      (∀ u n, (∀ k, u.ownBlock = some k → k < w.heap.size) → Dis v u → Top u n Xs → Dis (.slice a' (A.length + m) c') u ∧ Top u n ((.slice a' (A.length + m) c', A ++ M) :: Xs)) := by
  have hB1 : Below w.heap.size w (w.alloc (.cells cs 30)) := (Below.refl _ _).alloc (Nat.le_refl _) _
  have hz1 := hB1.size
  have hB := h.be.size
  have r1 := heap_alloc_new w (.cells cs 30 (0, 0))
  have hA := h.below hB1
  have hvo := hA.vs _ hv
  obtain ⟨v', w', hr, ho, hg, hn, hkp, -⟩ := Me.append_q _ w0.heap.size v A M w.heap.size m m hvo hm hm0 (fun j x hj => by
    rw [cell_of_row _ _ _ _ _ _ r1, hcs, ← Array.getElem?_toList, hj]) (by omega) hbig
  obtain ⟨a', c', e, -⟩ := Me.ownQ_len ho
  rw [List.length_append, hm] at e
  subst e
  refine ⟨a', c', w', hr, ⟨Me.below_grown hA.be hg (fun k hk => (World.ownsRow.lt hvo k hk).1) (by omega), fun e he => ?_⟩, fun e he k hk hk' => ?_, fun u n hu hd ht' => ⟨fun k hk hk' => ?_, fun e he k hk hk' => ?_⟩⟩
  · rcases List.mem_cons.1 he with rfl | he
    · exact ho
    · exact hkp _ _ _ (hA.vs e he) fun k hk hk' => ht e he k hk hk'
  · rcases List.mem_cons.1 he with rfl | he
    · show (A ++ M).length ≤ _
      rw [List.length_append, hm]
      exact Nat.le_refl _
    · rcases hn k hk with e1 | e1
      · have := ht e he k e1 hk'
        omega
      · have := h.lt he hk'
        omega
  · rcases hn k hk with e1 | e1
    · exact hd k e1 hk'
    · have := hu k hk'
      omega
  · rcases List.mem_cons.1 he with rfl | he
    · rcases hn k hk' with e1 | e1
      · exact absurd hk (hd k e1)
      · have := hu k hk
        omega
    · exact ht' e he k hk hk'

/-- A list while it is written full of a mark. -/
structure Mk1 (w0 w : World) (v : Value) (D : List (Nat × Int)) (z i : Nat) (Xs : List (Value × List (Nat × Int))) : Prop where
  vv : Vv w0 w ((v, List.replicate i (mz z) ++ D.drop i) :: Xs)
  al : Aln v Xs
  le : i ≤ D.length
theorem Mk1.below {v : Value} {D : List (Nat × Int)} {z i : Nat} (h : Mk1 w0 w v D z i Xs) (hb : Below w.heap.size w w') : Mk1 w0 w' v D z i Xs := ⟨h.vv.below hb, h.al, h.le⟩
theorem Mk1.start {v : Value} {D : List (Nat × Int)} {z : Nat} (h : Vv w0 w ((v, D) :: Xs)) (hal : Aln v Xs) : Mk1 w0 w v D z 0 Xs := ⟨h, hal, Nat.zero_le _⟩
theorem Mk1.done {v : Value} {D : List (Nat × Int)} {z i : Nat} (h : Mk1 w0 w v D z i Xs) (hi : i = D.length) : Vv w0 w ((v, List.replicate i (mz z)) :: Xs) := by
  have := h.vv
  rw [hi, List.drop_length, List.append_nil] at this
  rw [hi]
  exact this
theorem Mk1.step {D : List (Nat × Int)} {z i n c : Nat} {a : Option Addr} (h : Mk1 w0 w (.slice a n c) D z i Xs) (hi' : i < D.length) :
    ∃ (q : Nat) (x : Nat × Int), a = some ⟨q, 0, none⟩ ∧ w.cell? ⟨q, i * 2, none⟩ = some (.int .u32 (x.1 : Int)) ∧ w.frozen? ⟨q, i * 2, none⟩ = false ∧ (w.setCell ⟨q, i * 2, none⟩ (.int .u32 (z : Int))).cell? ⟨q, i * 2 + 1, none⟩ = some (.int .i64 x.2) ∧ (w.setCell ⟨q, i * 2, none⟩ (.int .u32 (z : Int))).frozen? ⟨q, i * 2 + 1, none⟩ = false ∧
      Hid (Mk1 w0 ((w.setCell ⟨q, i * 2, none⟩ (.int .u32 (z : Int))).setCell ⟨q, i * 2 + 1, none⟩ (.int .i64 (40 + (z : Int)))) (.slice (some ⟨q, 0, none⟩) n c) D z (i + 1) Xs) := by
  have hlen : (List.replicate i (mz z) ++ D.drop i).length = D.length := by
    have := h.le
    rw [List.length_append, List.length_replicate, List.length_drop]
    omega
  have hov := h.vv.vs _ List.mem_cons_self
  simp only at hov
  obtain ⟨a1, c1, e1, -, -, k0, k1⟩ := Me.ownQ_len hov
  rw [hlen] at e1 k0
  simp only [Value.slice.injEq] at e1
  obtain ⟨rfl, rfl, rfl⟩ := e1
  cases a with
  | none => have := (k0 rfl).1; omega
  | some p =>
    obtain ⟨q, rfl, hqB, hqz⟩ := k1 p rfl
    have hx : (List.replicate i (mz z) ++ D.drop i)[i]? = some D[i] := by
      rw [List.getElem?_append_right (by simp), List.length_replicate, Nat.sub_self, List.getElem?_drop, Nat.add_zero, List.getElem?_eq_getElem hi']
    obtain ⟨hc, -, hf, -⟩ := Me.own_cell hov hx
    obtain ⟨hc2, hf2⟩ := Me.own_next hov hx (.int .u32 (z : Int))
    have hg := Me.grown_two w q (i * 2) (i * 2 + 1) (.int .u32 (z : Int)) (.int .i64 (40 + (z : Int)))
    have hov' := hov
    rw [← hlen] at hov'
    have ho2 := Me.own_set hov' (k := i) (by rw [hlen]; exact hi') (mz z)
    rw [hlen] at ho2
    have hset : (List.replicate i (mz z) ++ D.drop i).set i (mz z) = List.replicate (i + 1) (mz z) ++ D.drop (i + 1) := by
      rw [List.set_append_right _ _ (by simp), List.length_replicate, Nat.sub_self, List.drop_eq_getElem_cons hi', List.set_cons_zero, List.replicate_succ']
      simp
    rw [hset] at ho2
    refine ⟨q, D[i], rfl, hc, hf, hc2, hf2, ⟨Me.below_grown h.vv.be hg (fun k e => by cases e; exact hqB) h.vv.be.size, fun e he => ?_⟩, h.al, hi'⟩
    rcases List.mem_cons.1 he with rfl | he
    · exact ho2
    · exact Me.row_grown (h.vv.vs e (List.mem_cons_of_mem _ he)) hg fun k hk e' => by
        cases e'
        exact h.al e he q rfl hk

/-- Four lists that are appended to, apart from one another. -/
def Ln (w0 w : World) (Bs : List (Value × List (Nat × Int))) (v1 : Value) (A1 : List (Nat × Int)) (v2 : Value) (A2 : List (Nat × Int)) (v3 : Value) (A3 : List (Nat × Int)) (v4 : Value) (A4 : List (Nat × Int)) : Prop :=
  ∃ Xs, Vv w0 w Xs ∧ (∀ e ∈ Bs, e ∈ Xs) ∧ ((v1, A1) ∈ Xs ∧ Top v1 A1.length Xs) ∧ ((v2, A2) ∈ Xs ∧ Top v2 A2.length Xs) ∧ ((v3, A3) ∈ Xs ∧ Top v3 A3.length Xs) ∧ ((v4, A4) ∈ Xs ∧ Top v4 A4.length Xs) ∧ Dis v1 v2 ∧ Dis v1 v3 ∧ Dis v1 v4 ∧ Dis v2 v3 ∧ Dis v2 v4 ∧ Dis v3 v4
variable {Bs : List (Value × List (Nat × Int))} {v1 v2 v3 v4 : Value} {A1 A2 A3 A4 : List (Nat × Int)}
theorem Ln.below (h : Ln w0 w Bs v1 A1 v2 A2 v3 A3 v4 A4) (hb : Below w.heap.size w w') : Ln w0 w' Bs v1 A1 v2 A2 v3 A3 v4 A4 := by
  obtain ⟨Xs, h1, h2⟩ := h
  exact ⟨Xs, h1.below hb, h2⟩
theorem Ln.rot (h : Ln w0 w Bs v1 A1 v2 A2 v3 A3 v4 A4) : Ln w0 w Bs v2 A2 v3 A3 v4 A4 v1 A1 := by
  obtain ⟨Xs, h1, h2, h3, h4, h5, h6, d12, d13, d14, d23, d24, d34⟩ := h
  exact ⟨Xs, h1, h2, h4, h5, h6, h3, d23, d24, d12.symm, d34, d13.symm, d14.symm⟩
theorem Ln.all (h : Ln w0 w Bs v1 A1 v2 A2 v3 A3 v4 A4) : Vv w0 w ((v1, A1) :: (v2, A2) :: (v3, A3) :: (v4, A4) :: Bs) := by
  obtain ⟨Xs, h1, h2, h3, h4, h5, h6, -⟩ := h
  refine h1.sub fun e he => ?_
  simp only [List.mem_cons] at he
  rcases he with rfl | rfl | rfl | rfl | he
  · exact h3.1
  · exact h4.1
  · exact h5.1
  · exact h6.1
  · exact h2 e he
/-- append to the first. -/
theorem Ln.app (h : Ln w0 w Bs v1 A1 v2 A2 v3 A3 v4 A4) {M : List (Nat × Int)} {m : Nat} (hm : M.length = m) (hm0 : 0 < m) (hbig : A1.length + m ≤ 8796093022208) (cs : Array Value) (hcs : cs = (Me.pp M).toArray) :
    ∃ a' n' c' w', Hid ((Builtin.append_ #[25, 25] 25 #[v1, .slice (some ⟨w.heap.size, 0, none⟩) m m]).run Try.prog (w.alloc (.cells cs 30)) = .ok (.slice a' n' c') w') ∧ Hid (Ln w0 w' Bs (.slice a' n' c') (A1 ++ M) v2 A2 v3 A3 v4 A4) ∧ Hid (n' = A1.length + m) := by
  obtain ⟨Xs, h1, h2, h3, h4, h5, h6, d12, d13, d14, d23, d24, d34⟩ := h
  obtain ⟨a', c', w', hr, hV, hT, ho⟩ := h1.app h3.1 h3.2 hm hm0 hbig cs hcs
  obtain ⟨x2, t2⟩ := ho v2 A2.length (fun k hk => h1.lt h4.1 hk) d12 h4.2
  obtain ⟨x3, t3⟩ := ho v3 A3.length (fun k hk => h1.lt h5.1 hk) d13 h5.2
  obtain ⟨x4, t4⟩ := ho v4 A4.length (fun k hk => h1.lt h6.1 hk) d14 h6.2
  exact ⟨a', _, c', w', hr, ⟨_, hV, fun e he => List.mem_cons_of_mem _ (h2 e he), ⟨List.mem_cons_self, by rw [List.length_append, hm]; exact hT⟩, ⟨List.mem_cons_of_mem _ h4.1, t2⟩, ⟨List.mem_cons_of_mem _ h5.1, t3⟩, ⟨List.mem_cons_of_mem _ h6.1, t4⟩, x2, x3, x4, d23, d24, d34⟩, rfl⟩
theorem Ln.start (h : Vv w0 w Xs) (hp : Xs.Pairwise fun e e' => Dis e.1 e'.1) (hB : ∀ e ∈ Bs, e ∈ Xs) {i1 i2 i3 i4 : Nat} (h1 : Xs[i1]? = some (v1, A1)) (h2 : Xs[i2]? = some (v2, A2)) (h3 : Xs[i3]? = some (v3, A3)) (h4 : Xs[i4]? = some (v4, A4)) (n12 : i1 ≠ i2) (n13 : i1 ≠ i3) (n14 : i1 ≠ i4) (n23 : i2 ≠ i3) (n24 : i2 ≠ i4) (n34 : i3 ≠ i4) : Ln w0 w Bs v1 A1 v2 A2 v3 A3 v4 A4 := by
  have key : ∀ {i j : Nat} {e e' : Value × List (Nat × Int)}, Xs[i]? = some e → Xs[j]? = some e' → i ≠ j → Dis e.1 e'.1 := fun {i j e e'} hi hj hij => by
    obtain ⟨hi', rfl⟩ := List.getElem?_eq_some_iff.1 hi
    obtain ⟨hj', rfl⟩ := List.getElem?_eq_some_iff.1 hj
    have hq := List.pairwise_iff_getElem.1 hp
    rcases Nat.lt_or_gt_of_ne hij with e | e
    · exact hq i j hi' hj' e
    · exact (hq j i hj' hi' e).symm
  have top : ∀ {i : Nat} {v : Value} {A : List (Nat × Int)}, Xs[i]? = some (v, A) → (v, A) ∈ Xs ∧ Top v A.length Xs := fun {i v A} hi => by
    refine ⟨List.mem_of_getElem? hi, fun e he k hk hk' => ?_⟩
    obtain ⟨j, hj, rfl⟩ := List.getElem_of_mem he
    by_cases e : j = i
    · subst e
      rw [List.getElem?_eq_getElem hj] at hi
      rw [Option.some.inj hi]
      exact Nat.le_refl _
    · exact absurd hk' (key hi (List.getElem?_eq_getElem hj) (fun e' => e e'.symm) k hk)
  exact ⟨Xs, h, hB, top h1, top h2, top h3, top h4, key h1 h2 n12, key h1 h3 n13, key h1 h4 n14, key h2 h3 n23, key h2 h4 n24, key h3 h4 n34⟩
end

theorem mark_any (z : Nat) (w : World) (hz : z ≤ 100) : Calls Try.prog 17 #[.int .i64 (z : Int)] w fun e w' => e = .returned (.agg #[.int .u32 (z : Int), .int .i64 (40 + (z : Int))]) ∧ Below w.heap.size w w' := by
  have hw32 : IntKind.u32.wrap (z : Int) = (z : Int) := by rw [IntKind.wrap_u32]; omega
  have e1 : (-9223372036854775808 : Int) ≤ 40 + (z : Int) := by omega
  have e2 : 40 + (z : Int) ≤ 9223372036854775807 := by omega
  go_enter Try.func17, Try.ntmps17
  go_wp2_with fail
  refine bodyPost_ret (v := .agg #[.int .u32 (z : Int), .int .i64 (40 + (z : Int))]) (by simp [results, Try.results17, go_sem]) rfl ⟨rfl, ?_⟩
  exact (Below.refl _ _).alloc (Nat.le_refl _) _

theorem all_any (z : Nat) (v : Value) (k : Nat) (w : World) (hz : z ≤ 100) (hs : Sees w v (List.replicate k (mz z))) : Calls Try.prog 18 #[v, .int .i64 (z : Int)] w fun e w' => e = .returned (.bool true) ∧ Below w.heap.size w w' := by
  obtain ⟨ao, n, cap, rfl, HN, hn1, hn2⟩ := hs.shape
  unfold maxLen at hn2
  have HS := hid hs
  have HMK : Hid (∀ u : World, Calls Try.prog 17 #[.int .i64 (z : Int)] u fun e w' => e = .returned (.agg #[.int .u32 (z : Int), .int .i64 (40 + (z : Int))]) ∧ Below u.heap.size u w') := fun u => mark_any z u hz
  clear hs
  go_enter Try.func18, Try.ntmps18
  go_upto_region 2 with fail
  go_loopw [5] (fun i wv => ∃ (j : Nat) (wr : World), wr = wv ∧ i = .int .i64 (j : Int) ∧ j ≤ n ∧ Hid (Below w.heap.size w wr)) (fun i _ => n - (intOf i).toNat)
  case atStart => exact ⟨0, _, rfl, rfl, Nat.zero_le _, Below.refl _ _⟩
  case round =>
    obtain ⟨j, x, rfl, rfl, hj, HB⟩ := hrel
    by_cases hjn : j < n
    · have b1 : (j : Int) < (n : Int) := by omega
      have b2 : (0 : Int) ≤ (j : Int) := by omega
      have b3 : decide ((j : Int) < 0) = false := by simp
      obtain ⟨g, off, p, rfl, hg, f0, f1, HP⟩ := (HS.out.below HB.out).at j hjn
      have hp : p = mz z := by
        have := HP.out
        rw [List.getElem?_replicate] at this
        split at this
        · exact (Option.some.inj this).symm
        · cases this
      subst hp
      unfold mz at f0 f1
      simp only at f0 f1
      have y0 : ∀ t : Beh x, t.wd.cell? ⟨g, off + j * 2, none⟩ = some (.int .u32 (z : Int)) := fun t => (t.ok.cell (p := ⟨g, _, none⟩) hg).trans f0
      have y1 : ∀ t : Beh x, t.wd.cell? ⟨g, off + j * 2 + 1, none⟩ = some (.int .i64 (40 + (z : Int))) := fun t => (t.ok.cell (p := ⟨g, _, none⟩) hg).trans f1
      have HSM : ∀ t : Beh x, Hid (Calls Try.prog 17 #[.int .i64 (z : Int)] t.wd fun e w' => e = .returned (.agg #[.int .u32 (z : Int), .int .i64 (40 + (z : Int))]) ∧ ∃ t' : Beh x, w' = t'.wd) := fun t => Calls.beh (HMK.out t.wd)
      clear f0 f1 hg HP
      go_upto_region 4 with fail
      refine wp_region_beh (by kernel_rfl) (by kernel_rfl) ?_
      repeat (go_big_quiet_step (first | (go_at_call 17; exact (HSM _).out)))
      refine wpQuiet_nil ?_
      rintro _ ⟨t, rfl⟩
      have HB2 : Hid (Below w.heap.size w t.wd) := HB.out.trans (t.ok.mono HB.out.size)
      clear y0 y1 HSM
      go_wp2_with fail
      go_roundw
      case rel => exact ⟨j + 1, _, rfl, by go_num, hjn, HB2⟩
      case measure => simp [intOf]; omega
    · have b1 : ¬ (j : Int) < (n : Int) := by omega
      go_wp2_with fail
      go_ret
      exact ⟨rfl, HB.out⟩

theorem cut_lo (g n cap m k : Nat) (hm : n = m + k) (hmc : m < cap) (u : World) : (Instr.sliceAt 25 (.slice (some ⟨g, 0, none⟩) n cap) (some (.int .i64 (m : Int))) none none).run Try.prog u = .ok (.slice (some ⟨g, m * 2, none⟩) k (cap - m)) u := by
  subst hm
  have ue : Try.prog.underlying 25 = some (.slice (Try.prog.elem 25)) := by kernel_rfl
  have sze : (sizeOf (Try.prog.elem 25)).run Try.prog u = .ok 2 u := by kernel_rfl
  rw [run_sliceAt_slice (h := ue), run_slice_l (ht := ue) (h0 := by omega) (h1 := by omega), sze]
  have : ¬ cap = m := by omega
  simp [Result.andThen, sliced, Addr.add, this]
  all_goals omega
theorem cut_hi (g n cap m : Nat) (hm : m ≤ cap) (u : World) : (Instr.sliceAt 25 (.slice (some ⟨g, 0, none⟩) n cap) none (some (.int .i64 (m : Int))) none).run Try.prog u = .ok (.slice (some ⟨g, 0, none⟩) m cap) u := by
  have ue : Try.prog.underlying 25 = some (.slice (Try.prog.elem 25)) := by kernel_rfl
  have sze : (sizeOf (Try.prog.elem 25)).run Try.prog u = .ok 2 u := by kernel_rfl
  rw [run_sliceAt_slice (h := ue), run_slice_h (ht := ue) (h0 := by omega) (h2 := by omega), sze]
  simp [Result.andThen, sliced, Addr.add]
end Go.Proofs.Ytenhofbhkchjoaa
