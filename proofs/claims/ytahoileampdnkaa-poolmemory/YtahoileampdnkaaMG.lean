/-
  (*Pool).Claim.
-/
import Derived.Test.YtahoileampdnkaaMF
namespace Go.Proofs.Ytahoileampdnkaa
open Go.ChangeShapes Go.WideShapes Go.ChangeAt Go.RowKit Ru N Tri
set_option maxHeartbeats 1000000
set_option maxRecDepth 100000

theorem PoolAt.turnBack {w u : World} {pb sub lo hi n : Nat} {vk vt : Value} {ks ts : List R} (h : PoolAt w pb vk vt sub lo hi ks ts) (ha : Removed pb 4 (pcells sub lo hi vk vt) vt ts n w u) :
    ∃ vt' ts', Turned pb vk vt sub lo hi ks w u vt' ts' ∧ ∀ m, Mem ts' m ↔ m ≠ n ∧ Mem ts m := by
  obtain ⟨v', rs', h1, h2, h4, h5, h6, h7⟩ := ha
  refine ⟨v', rs', ⟨⟨?_, ?_, h4, h.rk, h1, ?_, h.hs, h.hh, h.lh, h.ah, h.ak, ?_⟩, h6, h7⟩, h2⟩
  · rw [h5]; rfl
  · refine h.ok.keeps h7 fun k hk => ?_
    rintro (e | e)
    · exact own_ne h.ok h.row hk e
    · rcases h.ap with h0 | h0
      · rw [h0] at hk; cases hk
      · exact h0 (by rw [hk, e])
  · rcases h.ap with h0 | h0
    · exact .inl h0
    · right
      rcases h6 with h6 | ⟨g, h6, hg⟩
      · rw [h6]; exact h0
      · rw [h6]
        intro e
        have := own_lt h.ok e
        omega
  · intro m hm
    exact h.av m ((h2 m).1 hm).2

/-- What Claim answers. -/
def Claims (pb : Nat) (vk vt : Value) (sub lo hi x : Nat) (y : Int) (ks ts : List R) (w : World) (e : Ending) (w' : World) : Prop :=
  (alg sub x y = false ∧ e = .returned (.int .i64 100) ∧ Below w.heap.size w w') ∨
  (alg sub x y = true ∧ ¬ (lo ≤ num sub x ∧ num sub x ≤ hi) ∧ ¬ Mem ks (num sub x) ∧ e = .returned (.int .i64 101) ∧ Below w.heap.size w w') ∨
  (alg sub x y = true ∧ ((lo ≤ num sub x ∧ num sub x ≤ hi) ∨ Mem ks (num sub x)) ∧ Mem ts (num sub x) ∧ e = .returned (.int .i64 102) ∧ Below w.heap.size w w') ∨
  (alg sub x y = true ∧ ((lo ≤ num sub x ∧ num sub x ≤ hi) ∨ Mem ks (num sub x)) ∧ ¬ Mem ts (num sub x) ∧ e = .returned (.int .i64 0) ∧ ∃ vt' ts', Turned pb vk vt sub lo hi ks w w' vt' ts' ∧ ∀ m, Mem ts' m ↔ m = num sub x ∨ Mem ts m)

theorem claim_any (pb sub lo hi x : Nat) (y : Int) (vk vt : Value) (ks ts : List R) (w : World) (hp : PoolAt w pb vk vt sub lo hi ks ts) (hx : x < 4294967296) :
    Calls Try.prog 12 #[.pointer (some ⟨pb, 0, none⟩), .agg #[.int .u32 (x : Int), .int .i64 y]] w (Claims pb vk vt sub lo hi x y ks ts w) := by
  obtain ⟨wa, HWA⟩ : ∃ wa, Hid (wa = w.alloc (.cells #[.int .u32 (x : Int), .int .i64 y] 25)) := ⟨_, rfl⟩
  have hb0 : Below w.heap.size w wa := by rw [HWA.out]; exact (Below.refl _ _).alloc (Nat.le_refl _) _
  have r1 : wa.heap[w.heap.size]? = some (.cells #[.int .u32 (x : Int), .int .i64 y] 25) := by rw [HWA.out]; exact heap_alloc_new w _
  obtain ⟨q0, q1⟩ := Beh.two r1
  have HB0 := hid hb0
  have HP := hid (hp.below hb0)
  have HPw : ∀ t : Beh wa, PoolAt t.wd pb vk vt sub lo hi ks ts := fun t => HP.out.below t.ok
  have hbw : ∀ t : Beh wa, Below w.heap.size w t.wd := fun t => HB0.out.trans (t.ok.mono HB0.out.size)
  have hs := hp.hs
  have hnl := num_lt (sub := sub) hx
  have hadr : adr sub (num sub x) < 4294967296 := by
    have : adr sub (num sub x) ≤ x := Nat.div_mul_le_self _ _
    omega
  have HA : ∀ t : Beh wa, Hid (Calls Try.prog 27 #[.pointer (some ⟨pb, 0, none⟩), .agg #[.int .u32 (x : Int), .int .i64 y]] t.wd fun e w' => e = .returned (.bool (alg sub x y)) ∧ ∃ t' : Beh wa, w' = t'.wd) := fun t =>
    Calls.beh (aligned_any pb x sub y t.wd hx hs (fun u hu => ((HPw t).cells u hu).1))
  obtain ⟨ak, lk, ck0, hvk, -⟩ := hp.ok.shape
  obtain ⟨av, lv, cv, hvt, -⟩ := hp.ot.shape
  subst hvk hvt
  obtain ⟨nn, HNN⟩ : ∃ nn, Hid (nn = num sub x) := ⟨_, rfl⟩
  rw [← HNN.out] at hnl hadr
  have HNUM : ∀ t : Beh wa, Hid (Calls Try.prog 28 #[.pointer (some ⟨pb, 0, none⟩), .int .u32 (x : Int)] t.wd fun e w' => e = .returned (.int .i64 (nn : Int)) ∧ ∃ t' : Beh wa, w' = t'.wd) := fun t => by
    have h := number_any pb x sub t.wd hx hs ((HPw t).cells _ (Below.refl _ _)).1
    rw [← HNN.out] at h
    exact h.mono fun e w'' ⟨he, hw⟩ => ⟨he, t, hw⟩
  have HRH : ∀ t : Beh wa, Hid (Calls Try.prog 29 #[.agg #[.int .i64 (lo : Int), .int .i64 (hi : Int)], .int .i64 (nn : Int)] t.wd fun e w' => e = .returned (.bool (decide (lo ≤ nn ∧ nn ≤ hi))) ∧ ∃ t' : Beh wa, w' = t'.wd) := fun t => Calls.beh (run_has (lo, hi) nn t.wd)
  have HKH : ∀ t : Beh wa, Hid (Calls Try.prog 30 #[.slice ak lk ck0, .int .i64 (nn : Int)] t.wd fun e w' => ∃ (b : Bool), e = .returned (.bool b) ∧ (b = true ↔ Mem ks nn) ∧ Below t.wd.heap.size t.wd w') := fun t => hid (runs_has 0 _ ks nn t.wd (HPw t).rk (HPw t).ok (by have := (HPw t).rk.len; omega))
  have HADD : ∀ t : Beh wa, Hid (Calls Try.prog 31 #[.pointer (some ⟨pb, 4, none⟩), .int .i64 (nn : Int)] t.wd fun e w' => (e = .returned (.bool false) ∧ Mem ts nn ∧ Below t.wd.heap.size t.wd w') ∨ (e = .returned (.bool true) ∧ ¬ Mem ts nn ∧ Added pb 4 (pcells sub lo hi (.slice ak lk ck0) (.slice av lv cv)) (.slice av lv cv) ts nn t.wd w')) := fun t => hid (add_any pb 4 nn _ _ ts t.wd (HPw t).row rfl (HPw t).ot (HPw t).rt hnl (HPw t).rt.len)
  have hcs : ∀ t : Beh wa, t.wd.cell? ⟨pb, 1, none⟩ = some (.int .i64 (lo : Int)) ∧ t.wd.cell? ⟨pb, 2, none⟩ = some (.int .i64 (hi : Int)) ∧ t.wd.cell? ⟨pb, 3, none⟩ = some (.slice ak lk ck0) := fun t => by
    obtain ⟨-, c1, c2, c3, -⟩ := (HPw t).cells _ (Below.refl _ _)
    exact ⟨c1, c2, c3⟩
  unfold Claims
  rw [← HNN.out]
  clear hp hb0 r1
  go_enter Try.func12, Try.ntmps12
  go_upto_region 1 with fail
  rw [← HWA.out]
  have p0 := q0 ⟨wa, Below.refl _ _⟩
  have p1 := q1 ⟨wa, Below.refl _ _⟩
  simp only at p0 p1
  go_wp2_with fail
  refine (HA ⟨wa, Below.refl _ _⟩).out.mono ?_
  rintro _ _ ⟨rfl, t1, rfl⟩
  clear p0 p1
  cases hal : alg sub x y with
  | false =>
    go_wp2_with fail
    go_ret
    exact .inl ⟨hal, rfl, hbw t1⟩
  | true =>
    have z0 := q0 t1
    go_wp2_with fail
    refine (HNUM t1).out.mono ?_
    rintro _ _ ⟨rfl, t2, rfl⟩
    clear z0
    obtain ⟨c1, c2, c3⟩ := hcs t2
    go_upto_region 4 with fail
    go_wp2_with fail
    refine (HRH t2).out.mono ?_
    rintro _ _ ⟨rfl, t3, rfl⟩
    clear c1 c2 c3
    have hlast : ∀ t : Beh wa, ((lo ≤ nn ∧ nn ≤ hi) ∨ Mem ks nn) → ∀ (e : Ending) (w' : World), ((e = .returned (.bool false) ∧ Mem ts nn ∧ Below t.wd.heap.size t.wd w') ∨ (e = .returned (.bool true) ∧ ¬ Mem ts nn ∧ Added pb 4 (pcells sub lo hi (.slice ak lk ck0) (.slice av lv cv)) (.slice av lv cv) ts nn t.wd w')) → (e = .returned (.bool false) ∧ Mem ts nn ∧ Below w.heap.size w w') ∨ (e = .returned (.bool true) ∧ ¬ Mem ts nn ∧ ∃ vt' ts', Turned pb (.slice ak lk ck0) (.slice av lv cv) sub lo hi ks w w' vt' ts' ∧ ∀ m, Mem ts' m ↔ m = nn ∨ Mem ts m) := fun t _ e w' h => by
      rcases h with ⟨h1, h2, h3⟩ | ⟨h1, h2, h3⟩
      · exact .inl ⟨h1, h2, (hbw t).trans (h3.mono (hbw t).size)⟩
      · obtain ⟨vt', ts', h4, h5⟩ := (HPw t).turn h3 hadr
        exact .inr ⟨h1, h2, vt', ts', h4.from (hbw t), h5⟩
    by_cases hrow : lo ≤ nn ∧ nn ≤ hi
    · have hd : decide (lo ≤ nn ∧ nn ≤ hi) = true := by simp [hrow]
      rw [hd]
      have HAD := HADD t3
      clear hd
      go_upto_region 6 with fail
      go_wp2_with fail
      refine HAD.out.mono ?_
      intro e w4 h4
      rcases hlast t3 (.inl hrow) e w4 h4 with ⟨rfl, h1, h2⟩ | ⟨rfl, h1, h2⟩
      · have HF := hid (And.intro h1 h2)
        clear h1 h2 h4 hlast
        go_wp2_with fail
        go_ret
        exact .inr (.inr (.inl ⟨hal, .inl hrow, HF.out.1, rfl, HF.out.2⟩))
      · have HF := hid (And.intro h1 h2)
        clear h1 h2 h4 hlast
        go_wp2_with fail
        go_ret
        exact .inr (.inr (.inr ⟨hal, .inl hrow, HF.out.1, rfl, HF.out.2⟩))
    · have hd : decide (lo ≤ nn ∧ nn ≤ hi) = false := by simp only [decide_eq_false_iff_not]; exact hrow
      rw [hd]
      obtain ⟨c1, c2, c3⟩ := hcs t3
      clear hd c1 c2
      go_wp2_with fail
      refine (HKH t3).out.mono ?_
      rintro _ w4 ⟨b, rfl, hb, hb4⟩
      obtain ⟨t4, ht4⟩ : ∃ t : Beh wa, t.wd = w4 := ⟨⟨w4, t3.ok.trans (hb4.mono t3.ok.size)⟩, rfl⟩
      subst ht4
      clear c3 hb4
      cases b with
      | false =>
        have HNK : Hid (¬ Mem ks nn) := fun h => by have := hb.2 h; cases this
        clear hb hlast
        go_wp2_with fail
        go_ret
        exact .inr (.inl ⟨hal, hrow, HNK.out, rfl, hbw t4⟩)
      | true =>
        have HMK : Hid (Mem ks nn) := hb.1 rfl
        have HAD := HADD t4
        clear hb
        go_upto_region 6 with fail
        go_wp2_with fail
        refine HAD.out.mono ?_
        intro e w5 h5
        rcases hlast t4 (.inr HMK.out) e w5 h5 with ⟨rfl, h1, h2⟩ | ⟨rfl, h1, h2⟩
        · have HF := hid (And.intro h1 h2)
          clear h1 h2 h5 hlast
          go_wp2_with fail
          go_ret
          exact .inr (.inr (.inl ⟨hal, .inr HMK.out, HF.out.1, rfl, HF.out.2⟩))
        · have HF := hid (And.intro h1 h2)
          clear h1 h2 h5 hlast
          go_wp2_with fail
          go_ret
          exact .inr (.inr (.inr ⟨hal, .inr HMK.out, HF.out.1, rfl, HF.out.2⟩))
end Go.Proofs.Ytahoileampdnkaa
