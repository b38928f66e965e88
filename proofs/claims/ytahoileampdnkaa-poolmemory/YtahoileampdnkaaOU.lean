/-
  keep.
-/
import Derived.Test.YtahoileampdnkaaOT
namespace Go.Proofs.Ytahoileampdnkaa
open Go.ChangeShapes Go.WideShapes Go.ChangeAt Go.RowKit Ru N Tri
set_option maxHeartbeats 1000000
set_option maxRecDepth 100000

/-- A pool that is being made. -/
structure Mk (w : World) (pb : Nat) (sub lo hi : Nat) (u : World) (vk : Value) (ks : List R) : Prop where
  new : w.heap.size ≤ pb
  vnew : ∀ g, vk.ownBlock = some g → w.heap.size ≤ g
  be : Below w.heap.size w u
  pool : PoolAt u pb vk (.slice none 0 0) sub lo hi ks []

theorem Mk.below {w u u' : World} {pb sub lo hi : Nat} {vk : Value} {ks : List R} (h : Mk w pb sub lo hi u vk ks) (hb : Below u.heap.size u u') : Mk w pb sub lo hi u' vk ks :=
  ⟨h.new, h.vnew, h.be.trans (hb.mono h.be.size), h.pool.below hb⟩

theorem Mk.add {w u u' : World} {pb sub lo hi n : Nat} {vk : Value} {ks : List R} (h : Mk w pb sub lo hi u vk ks) (ha : Added pb 3 (pcells sub lo hi vk (.slice none 0 0)) vk ks n u u') (hn : adr sub n < 4294967296) :
    ∃ vk' ks', Mk w pb sub lo hi u' vk' ks' ∧ ∀ m, Mem ks' m ↔ m = n ∨ Mem ks m := by
  obtain ⟨v', rs', h1, h2, h3, h4, h5, h6, h7⟩ := ha
  refine ⟨v', rs', ⟨h.new, ?_, ?_, ⟨?_, h4, ⟨rfl, .inl ⟨rfl, rfl⟩⟩, h1, runs_nil, .inr ?_, h.pool.hs, h.pool.hh, h.pool.lh, h.pool.ah, ?_, fun m hm => absurd hm mem_nil⟩⟩, h2⟩
  · intro g hg
    rcases h6 with h6 | ⟨g', h6, hg'⟩
    · exact h.vnew g (by rw [← h6]; exact hg)
    · rw [hg] at h6; simp at h6; subst h6; exact Nat.le_trans h.be.size hg'
  · refine ⟨h7.os.trans h.be.os, h7.tape.trans h.be.tape, h7.output.trans h.be.output, Nat.le_trans h.be.size h7.size, fun k hk => ?_⟩
    refine (h7.block k (Nat.lt_of_lt_of_le hk h.be.size) ?_).trans (h.be.block k hk)
    rintro (e | e)
    · have := h.new; omega
    · have := h.vnew k e; omega
  · rw [h5]; rfl
  · intro e
    obtain ⟨a, l, c, rfl, -⟩ := OwnR.shape h4
    rcases h4.2 with ⟨h0, h0'⟩ | ⟨g, cap, cur, h0, -⟩
    · have : rs' = [] := List.eq_nil_of_length_eq_zero h0'.symm.symm
      rw [this] at h2
      exact mem_nil ((h2 n).2 (.inl rfl))
    · rw [h0] at e; cases e
  · intro m hm
    rcases (h2 m).1 hm with rfl | hm
    · exact hn
    · exact h.pool.ak m hm

theorem keep_any (pb sub lo hi x a : Nat) (y b : Int) (vk : Value) (ks : List R) (w u : World) (hm : Mk w pb sub lo hi u vk ks) (hx : x < 4294967296) (hv : valB x y = true) (ha : a < 4294967296) :
    Calls Try.prog 37 #[.pointer (some ⟨pb, 0, none⟩), .agg #[.int .u32 (x : Int), .int .i64 y], .agg #[.int .u32 (a : Int), .int .i64 b]] u fun e u' =>
      (alg sub a b = false ∧ e = .returned (.int .i64 100) ∧ Below w.heap.size w u') ∨ (alg sub a b = true ∧ inN x y a = false ∧ e = .returned (.int .i64 101) ∧ Below w.heap.size w u') ∨
      (alg sub a b = true ∧ inN x y a = true ∧ Mem ks (num sub a) ∧ e = .returned (.int .i64 5) ∧ Below w.heap.size w u') ∨
      (alg sub a b = true ∧ inN x y a = true ∧ ¬ Mem ks (num sub a) ∧ e = .returned (.int .i64 0) ∧ ∃ vk' ks', Mk w pb sub lo hi u' vk' ks' ∧ ∀ m, Mem ks' m ↔ m = num sub a ∨ Mem ks m) := by
  obtain ⟨wa, HWA⟩ : ∃ wa, Hid (wa = (u.alloc (.cells #[.int .u32 (x : Int), .int .i64 y] 25)).alloc (.cells #[.int .u32 (a : Int), .int .i64 b] 25)) := ⟨_, rfl⟩
  have hb0 : Below u.heap.size u wa := by rw [HWA.out]; exact ((Below.refl _ _).alloc (Nat.le_refl _) _).alloc (by simp) _
  have r1 : wa.heap[u.heap.size]? = some (.cells #[.int .u32 (x : Int), .int .i64 y] 25) := by rw [HWA.out, Below.heap_alloc _ _ _ (by simp)]; exact heap_alloc_new u _
  have r2 : wa.heap[u.heap.size + 1]? = some (.cells #[.int .u32 (a : Int), .int .i64 b] 25) := by
    have h := heap_alloc_new (u.alloc (.cells #[.int .u32 (x : Int), .int .i64 y] 25)) (.cells #[.int .u32 (a : Int), .int .i64 b] 25)
    rw [World.size_alloc] at h
    rw [HWA.out]; exact h
  obtain ⟨q0, q1⟩ := Beh.two r1
  obtain ⟨q2, q3⟩ := Beh.two r2
  have HB0 := hid hb0
  have HM := hid (hm.below hb0)
  have HMw : ∀ t : Beh wa, Mk w pb sub lo hi t.wd vk ks := fun t => HM.out.below t.ok
  have hs := hm.pool.hs
  have HA : ∀ t : Beh wa, Hid (Calls Try.prog 27 #[.pointer (some ⟨pb, 0, none⟩), .agg #[.int .u32 (a : Int), .int .i64 b]] t.wd fun e w' => e = .returned (.bool (alg sub a b)) ∧ ∃ t' : Beh wa, w' = t'.wd) := fun t =>
    Calls.beh (aligned_any pb a sub b t.wd ha hs (fun u hu => ((HMw t).pool.cells u hu).1))
  have HC : ∀ t : Beh wa, Hid (Calls Try.prog 50 #[.agg #[.int .u32 (x : Int), .int .i64 y], .int .u32 (a : Int)] t.wd fun e w' => e = .returned (.bool (inN x y a)) ∧ ∃ t' : Beh wa, w' = t'.wd) := fun t => Calls.beh (contains_val x y a _ hx hv)
  have hnl := num_lt (sub := sub) ha
  have hadr : alg sub a b = true → adr sub (num sub a) < 4294967296 := fun h => by
    have : adr sub (num sub a) ≤ a := Nat.div_mul_le_self _ _
    omega
  clear hm hb0 r1 r2
  go_enter Try.func37, Try.ntmps37
  go_upto_region 1 with fail
  rw [← HWA.out]
  have p2 := q2 ⟨wa, Below.refl _ _⟩
  have p3 := q3 ⟨wa, Below.refl _ _⟩
  go_wp2_with fail
  refine (HA ⟨wa, Below.refl _ _⟩).out.mono ?_
  rintro _ _ ⟨rfl, t1, rfl⟩
  cases hal : alg sub a b with
  | false =>
    go_wp2_with fail
    go_ret
    exact .inl ⟨hal, rfl, (HMw t1).be⟩
  | true =>
    have z0 := q0 t1
    have z1 := q1 t1
    have z2 := q2 t1
    go_wp2_with fail
    refine (HC t1).out.mono ?_
    rintro _ _ ⟨rfl, t2, rfl⟩
    cases hin : inN x y a with
    | false =>
      go_wp2_with fail
      go_ret
      exact .inr (.inl ⟨hal, hin, rfl, (HMw t2).be⟩)
    | true =>
      have HMD : Hid (Mk w pb sub lo hi t2.wd.drew vk ks) := (HMw t2).below ⟨rfl, rfl, rfl, Nat.le_refl _, fun _ _ => rfl⟩
      have c0 := (HMD.out.pool.cells _ (Below.refl _ _)).1
      have HNUM := hid (number_any pb a sub t2.wd.drew ha hs c0)
      have HADD := hid (add_any pb 3 (num sub a) (pcells sub lo hi vk (.slice none 0 0)) vk ks t2.wd.drew HMD.out.pool.row rfl HMD.out.pool.ok HMD.out.pool.rk hnl HMD.out.pool.rk.len)
      have y2 := q2 t2
      obtain ⟨nn, HNN⟩ : ∃ nn, Hid (nn = num sub a) := ⟨_, rfl⟩
      rw [← HNN.out] at HADD HNUM hadr
      go_upto_region 5 with fail
      refine wp_region_still_tail 7 (by kernel_rfl) (by kernel_rfl) ?_
      simp only [List.take_succ_cons, List.take_zero, List.drop_succ_cons, List.drop_zero]
      iterate 6 still_step
      still_call HNUM.out
      refine wpStill_nil ?_
      go_wp2_with fail
      refine HADD.out.mono ?_
      rintro e w3 (⟨rfl, hm, hb3⟩ | ⟨rfl, hm, had⟩)
      · have HF := hid (And.intro hm hb3)
        clear hm hb3
        go_wp2_with fail
        go_ret
        exact .inr (.inr (.inl ⟨hal, hin, by rw [← HNN.out]; exact HF.out.1, rfl, (HMD.out.below HF.out.2).be⟩))
      · have HF := hid (And.intro hm (HMD.out.add had (hadr hal)))
        clear hm had
        go_wp2_with fail
        go_ret
        exact .inr (.inr (.inr ⟨hal, hin, by rw [← HNN.out]; exact HF.out.1, rfl, by rw [← HNN.out]; exact HF.out.2⟩))
end Go.Proofs.Ytahoileampdnkaa
