/-
  The law's same, sents, both; a pair of nets.
-/
import Derived.Test.YtaelfhjhinfikabDK
import Derived.Test.YtaelfhjhinfikabDL
import Derived.Test.YtaelfhjhinfikabDM
namespace Go.Proofs.Ytaelfhjhinfikab
open Go.ChangeShapes Go.WideShapes Go.ChangeAt Go.RowKit Me
set_option maxHeartbeats 2000000
set_option maxRecDepth 100000

theorem same_any (x y : Value) (L : List Nat) (K K' : Nat → Prop) (w : World) (hx : SeesB K w x L) (hy : SeesB K' w y L) :
    Calls Try.prog 26 #[x, y] w fun e w' => e = .returned (.bool true) ∧ Below w.heap.size w w' := by
  have HX := hid hx
  have HY := hid hy
  obtain ⟨a0, n, c0, rfl, HN, hn1, hn2⟩ := hx.shape
  obtain ⟨a1, n1, c1, rfl, HN1, hm1, hm2⟩ := hy.shape
  obtain rfl : n1 = n := by rw [HN1.out, HN.out]
  unfold maxLen at hn2 hm2
  clear hx hy HN1
  go_enter Try.func26, Try.ntmps26
  go_wp2_with fail
  go_loopw [5] (fun i wr => ∃ k : Nat, i = .int .i64 (k : Int) ∧ k ≤ n1 ∧ Hid (Below w.heap.size w wr)) (fun i _ => n1 - (intOf i).toNat)
  case atStart => exact ⟨0, rfl, Nat.zero_le _, Below.refl _ _⟩
  case round =>
    obtain ⟨k, rfl, hk, HB⟩ := hrel
    by_cases hlt : k < n1
    · obtain ⟨g0, o0, x0, rfl, hg0, hc0, hx0, HX0⟩ := (HX.out.below HB.out).at k hlt
      obtain ⟨g1, o1, x1, rfl, hg1, hc1, hx1, HX1⟩ := (HY.out.below HB.out).at k hlt
      obtain rfl : x1 = x0 := by have h := HX1.out; rw [HX0.out] at h; exact (Option.some.inj h).symm
      have b1 : (k : Int) < (n1 : Int) := by omega
      have b2 : (0 : Int) ≤ (k : Int) := by omega
      clear HX0 HX1
      go_upto_region 6 with fail
      go_quiet (fail)
      have HB2 : Hid (Below w.heap.size w (wr.drewN nq)) := below_drewN HB.out _
      go_wp2_with fail
      go_roundw
      case rel => exact ⟨k + 1, by go_num, by omega, HB2⟩
      case measure => simp [intOf]; omega
    · go_wp2_with fail
      go_ret
      exact ⟨rfl, HB.out⟩

theorem sents_any (x y : Value) (L : List Pk) (K K' : Nat → Prop) (w : World) (hx : SeesS K w x L) (hy : SeesS K' w y L) :
    Calls Try.prog 19 #[x, y] w fun e w' => e = .returned (.bool true) ∧ Below w.heap.size w w' := by
  have HX := hid hx
  have HY := hid hy
  obtain ⟨a0, n, c0, rfl, HN, hn1, hn2⟩ := hx.shape
  obtain ⟨a1, n1, c1, rfl, HN1, hm1, hm2⟩ := hy.shape
  obtain rfl : n1 = n := by rw [HN1.out, HN.out]
  unfold maxLen at hn2 hm2
  clear hx hy HN1
  go_enter Try.func19, Try.ntmps19
  go_wp2_with fail
  go_loopw [5] (fun i wr => ∃ k : Nat, i = .int .i64 (k : Int) ∧ k ≤ n1 ∧ Hid (Below w.heap.size w wr)) (fun i _ => n1 - (intOf i).toNat)
  case atStart => exact ⟨0, rfl, Nat.zero_le _, Below.refl _ _⟩
  case round =>
    obtain ⟨k, rfl, hk, HB⟩ := hrel
    by_cases hlt : k < n1
    · obtain ⟨g0, o0, u0, p0, rfl, hg0, hc0, hd0, hu0, ha0, HX0⟩ := (HX.out.below HB.out).at k hlt
      obtain ⟨g1, o1, u1, p1, rfl, hg1, hc1, hd1, hu1, ha1, HX1⟩ := (HY.out.below HB.out).at k hlt
      obtain rfl : p1 = p0 := by have h := HX1.out; rw [HX0.out] at h; exact (Option.some.inj h).symm
      have y0 : ∀ t : Beh wr, t.wd.cell? ⟨g0, o0 + k * 2, none⟩ = some (.int .u32 (p1.ad : Int)) := fun t => (t.ok.cell (p := ⟨g0, _, none⟩) hg0.1).trans hc0
      have y1 : ∀ t : Beh wr, t.wd.cell? ⟨g0, o0 + k * 2 + 1, none⟩ = some u0 := fun t => (t.ok.cell (p := ⟨g0, _, none⟩) hg0.1).trans hd0
      have z0 : ∀ t : Beh wr, t.wd.cell? ⟨g1, o1 + k * 2, none⟩ = some (.int .u32 (p1.ad : Int)) := fun t => (t.ok.cell (p := ⟨g1, _, none⟩) hg1.1).trans hc1
      have z1 : ∀ t : Beh wr, t.wd.cell? ⟨g1, o1 + k * 2 + 1, none⟩ = some u1 := fun t => (t.ok.cell (p := ⟨g1, _, none⟩) hg1.1).trans hd1
      have HSM : ∀ t : Beh wr, Hid (Calls Try.prog 26 #[u0, u1] t.wd fun e w' => e = .returned (.bool true) ∧ ∃ t' : Beh wr, w' = t'.wd) := fun t => Calls.beh (same_any _ _ p1.bs _ _ t.wd (hu0.below t.ok) (hu1.below t.ok))
      obtain ⟨ax, nx, cx, rfl, -, -, -⟩ := hu0.shape
      obtain ⟨ay, ny, cy, rfl, -, -, -⟩ := hu1.shape
      have b1 : (k : Int) < (n1 : Int) := by omega
      have b2 : (0 : Int) ≤ (k : Int) := by omega
      generalize p1.ad = ad at *
      clear HX0 HX1 hc0 hc1 hd0 hd1 hu0 hu1 hg0 hg1
      go_upto_region 6 with fail
      refine wp_region_beh (by kernel_rfl) (by kernel_rfl) ?_
      repeat (go_big_quiet_step ((go_at_call 26; exact (HSM _).out)))
      refine wpQuiet_nil ?_
      rintro _ ⟨t, rfl⟩
      have HB2 : Hid (Below w.heap.size w t.wd) := HB.out.trans (t.ok.mono HB.out.size)
      clear y0 y1 z0 z1 HSM
      go_wp2_with fail
      go_roundw
      case rel => exact ⟨k + 1, by go_num, by omega, HB2⟩
      case measure => simp [intOf]; omega
    · go_wp2_with fail
      go_ret
      exact ⟨rfl, HB.out⟩

/-- Both hold the same; H: the blocks of both. -/
def Lv (w : World) (pb rb m : Nat) (S : List Pk) (H : Nat → Prop) : Prop := ∃ F G, Nt w pb m S F ∧ Rn w rb m S G ∧ (∀ k, F k → ¬ G k) ∧ ∀ k, H k ↔ F k ∨ G k
def LvD (w w' : World) (pb rb m : Nat) (S' : List Pk) (H : Nat → Prop) : Prop := ∃ H', Lv w' pb rb m S' H' ∧ (∀ k, H' k → H k ∨ w.heap.size ≤ k) ∧ Keeps H w w'

section
variable {w w' w'' : World} {pb rb m : Nat} {S S' : List Pk} {H : Nat → Prop}
theorem Lv.lt (h : Lv w pb rb m S H) {k : Nat} (hk : H k) : k < w.heap.size := by
  obtain ⟨F, G, h1, h2, h3, h4⟩ := h
  rcases (h4 k).1 hk with hk | hk
  · exact h1.lt hk
  · exact h2.lt hk
theorem Lv.keeps {X : Nat → Prop} (h : Lv w pb rb m S H) (hk : Keeps X w w') (hn : ∀ k, H k → ¬ X k) : Lv w' pb rb m S H := by
  obtain ⟨F, G, h1, h2, h3, h4⟩ := h
  exact ⟨F, G, h1.keeps hk fun k e => hn k ((h4 k).2 (.inl e)), h2.keeps hk fun k e => hn k ((h4 k).2 (.inr e)), h3, h4⟩
theorem Lv.below (h : Lv w pb rb m S H) (hb : Below w.heap.size w w') : Lv w' pb rb m S H := h.keeps (X := fun _ => False) (Keeps.of hb) fun _ _ e => e
theorem LvD.same (h : Lv w pb rb m S H) (hb : Below w.heap.size w w') : LvD w w' pb rb m S H := ⟨H, h.below hb, fun _ h => .inl h, Keeps.of hb⟩
theorem LvD.from (hb : Below w.heap.size w w') (h : LvD w' w'' pb rb m S' H) : LvD w w'' pb rb m S' H := by
  obtain ⟨F', h1, h2, h3⟩ := h
  exact ⟨F', h1, fun k hk => (h2 k hk).imp id fun e => Nat.le_trans hb.size e, (Keeps.of hb).trans h3⟩
theorem LvD.more (h : LvD w w' pb rb m S' H) (hb : Below w'.heap.size w' w'') : LvD w w'' pb rb m S' H := by
  obtain ⟨F', h1, h2, h3⟩ := h
  exact ⟨F', h1.below hb, h2, h3.trans (Keeps.of hb)⟩
/-- A step of the first, then of the second. -/
theorem Lv.two {F G : Nat → Prop} (_h1 : Nt w pb m S F) (h2 : Rn w rb m S G) (h3 : ∀ k, F k → ¬ G k) (h4 : ∀ k, H k ↔ F k ∨ G k) {u u' : World} (hd : NtD w u pb m S' F) (hb : Below u.heap.size u u') :
    Rn u' rb m S G ∧ ∀ w', RnD u' w' rb m S' G → LvD w w' pb rb m S' H := by
  obtain ⟨F1, a1, a2, a3⟩ := hd
  have hbu : Rn u' rb m S G := (h2.keeps a3 fun k hk hk2 => h3 k hk2 hk).below hb
  have a1' := a1.below hb
  refine ⟨hbu, fun w' hr => ?_⟩
  obtain ⟨G1, b1, b2, b3⟩ := hr
  have hFG : ∀ k, F1 k → ¬ G k := fun k hk hg => by
    rcases a2 k hk with h | h
    · exact h3 k h hg
    · have := h2.lt hg; omega
  refine ⟨fun k => F1 k ∨ G1 k, ⟨F1, G1, a1'.keeps b3 hFG, b1, fun k hk hg => ?_, fun _ => Iff.rfl⟩, fun k hk => ?_, ?_⟩
  · rcases b2 k hg with h | h
    · exact hFG k hk h
    · have := a1'.lt hk; omega
  · rcases hk with hk | hk
    · exact (a2 k hk).imp (fun e => (h4 k).2 (.inl e)) id
    · rcases b2 k hk with h | h
      · exact .inl ((h4 k).2 (.inr h))
      · exact .inr (Nat.le_trans a3.size (Nat.le_trans hb.size h))
  · exact ((a3.mono fun k _ e => (h4 k).2 (.inl e)).trans (Keeps.of hb)).trans (b3.mono fun k _ e => (h4 k).2 (.inr e))
end

/-- What both leaves. -/
def Bth (l : Int) (w : World) (e : Ending) (w' : World) : Prop :=
  (newB l = false ∧ e = .returned (.tuple #[.pointer none, .pointer none, .bool true]) ∧ Below w.heap.size w w') ∨
  (newB l = true ∧ ∃ (pb rb m : Nat) (H : Nat → Prop), l = (m : Int) ∧ e = .returned (.tuple #[.pointer (some ⟨pb, 0, none⟩), .pointer (some ⟨rb, 0, none⟩), .bool true]) ∧ Lv w' pb rb m [] H ∧ (∀ k, H k → w.heap.size ≤ k) ∧ Below w.heap.size w w')

theorem new_ho {ty : TypeId} {mk : Nat → Value → Array Value} {w : World} {pb m : Nat} (h : HAt ty (mk m) w pb (.slice none 0 0) []) (hm : m ≤ 4096) : Ho ty mk w pb m [] (fun k => k = pb) :=
  ⟨_, _, h, rfl, fun k => ⟨fun e => .inl e, fun e => by
    rcases e with e | e | ⟨x, hx, _⟩
    · exact e
    · cases e
    · cases hx⟩, Nat.zero_le _, hm⟩

theorem newB_le {m : Nat} (h : newB (m : Int) = true) : 1 ≤ m ∧ m ≤ 4096 := by
  unfold newB at h
  simp at h
  omega

theorem both_any (l : Int) (w : World) : Calls Try.prog 10 #[.int .i64 l] w (Bth l w) := by
  have HN := hid (new_any l w)
  go_enter Try.func10, Try.ntmps10
  go_wp2_with fail
  refine HN.out.mono ?_
  rintro _ w1 (⟨hb, rfl, rfl⟩ | ⟨hb, m, hl, rfl, hat, hb1⟩)
  · have HR := hid (newR_any l w1)
    have HBB := hid hb
    clear HN hb
    go_wp2_with fail
    refine HR.out.mono ?_
    rintro _ w2 (⟨hb, rfl, rfl⟩ | ⟨hb, -⟩)
    · have HFIN : Hid (Bth l w2 (.returned (.tuple #[.pointer none, .pointer none, .bool true])) w2) := .inl ⟨hb, rfl, Below.refl _ _⟩
      clear HR hb
      go_wp2_with fail
      go_ret3
      exact HFIN.out
    · rw [HBB.out] at hb; cases hb
  · have HR := hid (newR_any l w1)
    have HBB := hid hb
    have HB1 := hid hb1
    have HAT := hid hat
    have HL := hid hl
    clear HN hb hb1 hat hl
    go_wp2_with fail
    refine HR.out.mono ?_
    rintro _ w2 (⟨hb, -⟩ | ⟨hb, m', hl', rfl, hat2, hb2⟩)
    · rw [HBB.out] at hb; cases hb
    · have HFIN : Hid (Bth l w (.returned (.tuple #[.pointer (some ⟨w.heap.size, 0, none⟩), .pointer (some ⟨w1.heap.size, 0, none⟩), .bool true])) w2) := by
        have hm : m' = m := by have := HL.out; omega
        subst hm
        have hle := newB_le (m := m') (by rw [← hl']; exact hb)
        have hlt : w.heap.size < w1.heap.size := (Array.getElem?_eq_some_iff.1 HAT.out.row).1
        refine .inr ⟨hb, w.heap.size, w1.heap.size, m', fun k => k = w.heap.size ∨ k = w1.heap.size, hl', rfl, ⟨_, _, new_ho (HAT.out.below hb2) hle.2, new_ho hat2 hle.2, fun k e1 e2 => by omega, fun _ => Iff.rfl⟩, fun k hk => ?_, HB1.out.trans (hb2.mono HB1.out.size)⟩
        rcases hk with rfl | rfl
        · exact Nat.le_refl _
        · omega
      obtain ⟨p1, HP1⟩ : ∃ p, Hid (p = w.heap.size) := ⟨_, rfl⟩
      obtain ⟨p2, HP2⟩ : ∃ p, Hid (p = w1.heap.size) := ⟨_, rfl⟩
      rw [← HP1.out, ← HP2.out] at HFIN ⊢
      clear HR hb hl' hat2 hb2
      go_wp2_with fail
      go_ret3
      exact HFIN.out
end Go.Proofs.Ytaelfhjhinfikab
