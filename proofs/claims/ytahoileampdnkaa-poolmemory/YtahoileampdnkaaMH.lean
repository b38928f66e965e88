/-
  (*Pool).Free.
-/
import Derived.Test.YtahoileampdnkaaMG
import Derived.Deep.RegionLaw
namespace Go.Proofs.Ytahoileampdnkaa
open Go.ChangeShapes Go.WideShapes Go.ChangeAt Go.RowKit Ru N Tri
set_option maxHeartbeats 1000000
set_option maxRecDepth 100000

/-- What Free answers. -/
def Frees (pb : Nat) (vk vt : Value) (sub lo hi x : Nat) (y : Int) (ks ts : List R) (w : World) (e : Ending) (w' : World) : Prop :=
  ((alg sub x y = false ∨ ¬ Mem ts (num sub x)) ∧ e = .returned (.int .i64 3) ∧ Below w.heap.size w w') ∨
  (alg sub x y = true ∧ Mem ts (num sub x) ∧ e = .returned (.int .i64 0) ∧ ∃ vt' ts', Turned pb vk vt sub lo hi ks w w' vt' ts' ∧ ∀ m, Mem ts' m ↔ m ≠ num sub x ∧ Mem ts m)

theorem free_any (pb sub lo hi x : Nat) (y : Int) (vk vt : Value) (ks ts : List R) (w : World) (hp : PoolAt w pb vk vt sub lo hi ks ts) (hx : x < 4294967296) :
    Calls Try.prog 15 #[.pointer (some ⟨pb, 0, none⟩), .agg #[.int .u32 (x : Int), .int .i64 y]] w (Frees pb vk vt sub lo hi x y ks ts w) := by
  obtain ⟨wa, HWA⟩ : ∃ wa, Hid (wa = w.alloc (.cells #[.int .u32 (x : Int), .int .i64 y] 25)) := ⟨_, rfl⟩
  have hb0 : Below w.heap.size w wa := by rw [HWA.out]; exact (Below.refl _ _).alloc (Nat.le_refl _) _
  have r1 : wa.heap[w.heap.size]? = some (.cells #[.int .u32 (x : Int), .int .i64 y] 25) := by rw [HWA.out]; exact heap_alloc_new w _
  obtain ⟨q0, q1⟩ := Beh.two r1
  have HB0 := hid hb0
  have HP := hid (hp.below hb0)
  have HPw : ∀ t : Beh wa, PoolAt t.wd pb vk vt sub lo hi ks ts := fun t => HP.out.below t.ok
  have hbw : ∀ t : Beh wa, Below w.heap.size w t.wd := fun t => HB0.out.trans (t.ok.mono HB0.out.size)
  have hs := hp.hs
  have hnl := num_lt (sub := sub) hx
  have HA : ∀ t : Beh wa, Hid (Calls Try.prog 27 #[.pointer (some ⟨pb, 0, none⟩), .agg #[.int .u32 (x : Int), .int .i64 y]] t.wd fun e w' => e = .returned (.bool (alg sub x y)) ∧ ∃ t' : Beh wa, w' = t'.wd) := fun t =>
    Calls.beh (aligned_any pb x sub y t.wd hx hs (fun u hu => ((HPw t).cells u hu).1))
  obtain ⟨nn, HNN⟩ : ∃ nn, Hid (nn = num sub x) := ⟨_, rfl⟩
  rw [← HNN.out] at hnl
  have HNUM : ∀ t : Beh wa, Hid (Calls Try.prog 28 #[.pointer (some ⟨pb, 0, none⟩), .int .u32 (x : Int)] t.wd fun e w' => e = .returned (.int .i64 (nn : Int)) ∧ w' = t.wd) := fun t => by
    have h := number_any pb x sub t.wd hx hs ((HPw t).cells _ (Below.refl _ _)).1
    rw [← HNN.out] at h
    exact h
  have HREM : ∀ t : Beh wa, Hid (Calls Try.prog 35 #[.pointer (some ⟨pb, 4, none⟩), .int .i64 (nn : Int)] t.wd fun e w' => ∃ b : Bool, e = .returned (.bool b) ∧ ((b = false ∧ ¬ Mem ts nn ∧ Below w.heap.size w w') ∨ (b = true ∧ Mem ts nn ∧ ∃ vt' ts', Turned pb vk vt sub lo hi ks w w' vt' ts' ∧ ∀ m, Mem ts' m ↔ m ≠ nn ∧ Mem ts m))) := fun t => hid ((remove_any pb 4 nn _ _ ts t.wd (HPw t).row rfl (HPw t).ot (HPw t).rt hnl).mono fun e w' h => by
    rcases h with ⟨h1, h2, h3⟩ | ⟨h1, h2, h3⟩
    · exact ⟨false, h1, .inl ⟨rfl, h2, (hbw t).trans (h3.mono (hbw t).size)⟩⟩
    · obtain ⟨vt', ts', h4, h5⟩ := (HPw t).turnBack h3
      exact ⟨true, h1, .inr ⟨rfl, h2, vt', ts', h4.from (hbw t), h5⟩⟩)
  unfold Frees
  rw [← HNN.out]
  clear hp hb0 r1
  cases hal : alg sub x y with
  | false =>
    rw [hal] at HA
    go_enter Try.func15, Try.ntmps15
    go_upto_region 1 with fail
    rw [← HWA.out]
    refine wp_region_beh (by kernel_rfl) (by kernel_rfl) ?_
    repeat (go_big_quiet_step (first | (go_at_call 27; exact (HA _).out)))
    refine wpQuiet_nil ?_
    rintro _ ⟨t, rfl⟩
    go_wp2_with fail
    go_ret
    exact .inl ⟨.inl trivial, rfl, hbw t⟩
  | true =>
    rw [hal] at HA
    have hbd : Below wa.heap.size wa wa.drew := ⟨rfl, rfl, rfl, Nat.le_refl _, fun _ _ => rfl⟩
    have HA0 := HA ⟨wa.drew, hbd⟩
    have p0 := q0 ⟨wa.drew, hbd⟩
    have p1 := q1 ⟨wa.drew, hbd⟩
    simp only at p0 p1 HA0
    go_enter Try.func15, Try.ntmps15
    go_upto_region 1 with fail
    rw [← HWA.out]
    go_region_law (first
      | (go_simp; go_at_call 27; refine HA0.out.mono ?_; rintro e w1 ⟨rfl, t1, rfl⟩; have z0 := q0 t1; have z1 := q1 t1)
      | (go_simp; go_at_call 28; refine (HNUM _).out.mono ?_; rintro e w1 ⟨rfl, rfl⟩)
      | (go_simp; go_at_call 35; refine (HREM _).out.mono ?_; rintro e w3 ⟨b3, rfl, h3⟩)
      | fail)
    all_goals (
      rcases h3 with ⟨rfl, h4, h5⟩ | ⟨rfl, h4, h5⟩
      · have HF := hid (And.intro h4 h5)
        clear h4 h5
        go_wp2_with fail
        go_ret
        exact .inl ⟨.inr HF.out.1, rfl, HF.out.2⟩
      · have HF := hid (And.intro h4 h5)
        clear h4 h5
        go_wp2_with fail
        go_ret
        exact .inr ⟨trivial, HF.out.1, rfl, HF.out.2⟩)
end Go.Proofs.Ytahoileampdnkaa
