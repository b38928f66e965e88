/-
  Scripts; the law's first.
-/
import Derived.Test.YtaelfhjhinfikabDO
namespace Go.Proofs.Ytaelfhjhinfikab
open Go.ChangeShapes Go.WideShapes Go.ChangeAt Go.RowKit Me
set_option maxHeartbeats 4000000
set_option maxRecDepth 100000

/-- A step. -/
structure Stp where
  k : Int
  L : List Pk
  i : Int
  a : Int
  x : Nat

/-- The slice value v shows the steps S; all of it in blocks of K. -/
def SeesO (K : Nat → Prop) (w : World) (v : Value) (S : List Stp) : Prop :=
  ∃ ao cap, v = .slice ao S.length cap ∧ S.length ≤ cap ∧ cap ≤ maxLen ∧
    ∀ j (h : j < S.length), ∃ g off vs, ao = some ⟨g, off, none⟩ ∧ (g < w.heap.size ∧ K g) ∧ (w.cell? ⟨g, off + j * 5, none⟩ = some (.int .i64 S[j].k) ∧ w.cell? ⟨g, off + j * 5 + 1, none⟩ = some vs ∧ w.cell? ⟨g, off + j * 5 + 2, none⟩ = some (.int .i64 S[j].i) ∧ w.cell? ⟨g, off + j * 5 + 3, none⟩ = some (.int .i64 S[j].a) ∧ w.cell? ⟨g, off + j * 5 + 4, none⟩ = some (.int .u8 (S[j].x : Int))) ∧ SeesS K w vs S[j].L ∧ S[j].x < 256

section
variable {K : Nat → Prop} {w w' : World} {v : Value} {S : List Stp}
theorem SeesO.shape (h : SeesO K w v S) : ∃ ao n cap, v = .slice ao n cap ∧ Hid (n = S.length) ∧ n ≤ cap ∧ cap ≤ maxLen := by
  obtain ⟨ao, cap, hv, h1, h2, _⟩ := h
  exact ⟨ao, S.length, cap, hv, rfl, h1, h2⟩
theorem SeesO.keeps {X : Nat → Prop} (h : SeesO K w v S) (hk : Keeps X w w') (hn : ∀ k, K k → ¬ X k) : SeesO K w' v S := by
  obtain ⟨ao, cap, hv, h1, h2, h3⟩ := h
  refine ⟨ao, cap, hv, h1, h2, fun j hj => ?_⟩
  obtain ⟨g, off, vs, ha, hg, ⟨c0, c1, c2, c3, c4⟩, c5, c6⟩ := h3 j hj
  have hb := hk.block g hg.1 (hn g hg.2)
  have q := fun o => World.cell?_of_block (w := w) (w' := w') (a := ⟨g, o, none⟩) hb
  exact ⟨g, off, vs, ha, ⟨Nat.lt_of_lt_of_le hg.1 hk.size, hg.2⟩, ⟨(q _).trans c0, (q _).trans c1, (q _).trans c2, (q _).trans c3, (q _).trans c4⟩, c5.keeps hk hn, c6⟩
theorem SeesO.below (h : SeesO K w v S) (hb : Below w.heap.size w w') : SeesO K w' v S := h.keeps (X := fun _ => False) (Keeps.of hb) fun _ _ e => e
theorem SeesO.at {ao : Option Addr} {n cap : Nat} (h : SeesO K w (.slice ao n cap) S) (j : Nat) (hj : j < n) : ∃ (g off : Nat) (vs : Value) (o : Stp), ao = some ⟨g, off, none⟩ ∧ (w.cell? ⟨g, off + j * 5, none⟩ = some (.int .i64 o.k) ∧ w.cell? ⟨g, off + j * 5 + 1, none⟩ = some vs ∧ w.cell? ⟨g, off + j * 5 + 2, none⟩ = some (.int .i64 o.i) ∧ w.cell? ⟨g, off + j * 5 + 3, none⟩ = some (.int .i64 o.a) ∧ w.cell? ⟨g, off + j * 5 + 4, none⟩ = some (.int .u8 (o.x : Int))) ∧ SeesS K w vs o.L ∧ o.x < 256 ∧ Hid (S[j]? = some o) ∧ g < w.heap.size := by
  obtain ⟨ao', cap', hv, h1, h2, h3⟩ := h
  simp at hv
  obtain ⟨rfl, rfl, rfl⟩ := hv
  obtain ⟨g, off, vs, ha, hg, c, c5, c6⟩ := h3 j hj
  exact ⟨g, off, vs, S[j], ha, c, c5, c6, hid (List.getElem?_eq_getElem hj), hg.1⟩
end

/-! ### the example -/
def frA (b : Nat) : Array Value := #[.int .u32 3221225985, .slice (some ⟨b, 0, none⟩) 1 1, .int .u32 3221225986, .slice (some ⟨b + 1 + 1, 0, none⟩) 2 2]
def frB (b : Nat) : Array Value := #[.int .i64 1, .slice (some ⟨b + 1 + 1 + 1 + 1, 0, none⟩) 2 2, .int .i64 0, .int .i64 0, .int .u8 0, .int .i64 3, .slice none 0 0, .int .i64 0, .int .i64 0, .int .u8 0, .int .i64 3, .slice none 0 0, .int .i64 1, .int .i64 0, .int .u8 0, .int .i64 5, .slice none 0 0, .int .i64 2, .int .i64 0, .int .u8 255, .int .i64 6, .slice none 0 0, .int .i64 0, .int .i64 0, .int .u8 0, .int .i64 2, .slice none 0 0, .int .i64 0, .int .i64 0, .int .u8 0, .int .i64 6, .slice none 0 0, .int .i64 0, .int .i64 0, .int .u8 0]
def frW (w : World) : World := (((((w.alloc (.cells #[.int .u8 1] 5)).alloc (.cells #[.int .u32 3221225985, .slice (some ⟨w.heap.size, 0, none⟩) 1 1] 41)).alloc (.cells #[.int .u8 2, .int .u8 3] 5)).alloc (.cells #[.int .u32 3221225986, .slice (some ⟨w.heap.size + 1 + 1, 0, none⟩) 2 2] 41)).alloc (.cells (frA w.heap.size) 41)).alloc (.cells (frB w.heap.size) 35)
def frS : List Stp := [⟨1, [⟨3221225985, [1]⟩, ⟨3221225986, [2, 3]⟩], 0, 0, 0⟩, ⟨3, [], 0, 0, 0⟩, ⟨3, [], 1, 0, 0⟩, ⟨5, [], 2, 0, 255⟩, ⟨6, [], 0, 0, 0⟩, ⟨2, [], 0, 0, 0⟩, ⟨6, [], 0, 0, 0⟩]

theorem alloc_old {w : World} {k : Nat} {x o : Obj} (h : w.heap[k]? = some o) : (w.alloc x).heap[k]? = some o := (Below.heap_alloc _ _ _ (by have := (Array.getElem?_eq_some_iff.1 h).1; simpa using this)).trans h
theorem alloc_at (w : World) (x : Obj) (k : Nat) (h : k = w.heap.size) : (w.alloc x).heap[k]? = some x := by rw [h]; exact heap_alloc_new w x

theorem first_mem (w : World) : SeesO (fun k => w.heap.size ≤ k ∧ k < w.heap.size + 6) (frW w) (.slice (some ⟨w.heap.size + 1 + 1 + 1 + 1 + 1, 0, none⟩) 7 7) frS ∧ Below w.heap.size w (frW w) := by
  have hs : (frW w).heap.size = w.heap.size + 6 := by unfold frW; simp
  have r0 : (frW w).heap[w.heap.size]? = some (.cells #[.int .u8 1] 5 (0, 0)) := by
    unfold frW
    exact alloc_old (alloc_old (alloc_old (alloc_old (alloc_old (heap_alloc_new w _)))))
  have r2 : (frW w).heap[w.heap.size + 1 + 1]? = some (.cells #[.int .u8 2, .int .u8 3] 5 (0, 0)) := by
    unfold frW
    exact alloc_old (alloc_old (alloc_old (alloc_at _ _ _ (by simp))))
  have r4 : (frW w).heap[w.heap.size + 1 + 1 + 1 + 1]? = some (.cells (frA w.heap.size) 41 (0, 0)) := by
    unfold frW
    exact alloc_old (alloc_at _ _ _ (by simp))
  have r5 : (frW w).heap[w.heap.size + 1 + 1 + 1 + 1 + 1]? = some (.cells (frB w.heap.size) 35 (0, 0)) := by
    unfold frW
    exact alloc_at _ _ _ (by simp)
  have hb : Below w.heap.size w (frW w) := by
    unfold frW
    exact ((((((Below.refl _ _).alloc (Nat.le_refl _) _).alloc (by simp only [World.size_alloc]; omega) _).alloc (by simp only [World.size_alloc]; omega) _).alloc (by simp only [World.size_alloc]; omega) _).alloc (by simp only [World.size_alloc]; omega) _).alloc (by simp only [World.size_alloc]; omega) _
  generalize frW w = W at *
  have c5 : ∀ (o : Nat) (v : Value), (frB w.heap.size)[o]? = some v → W.cell? ⟨w.heap.size + 1 + 1 + 1 + 1 + 1, 0 + o, none⟩ = some v := fun o v h => by rw [Nat.zero_add, cell_of_row _ _ _ _ _ _ r5]; exact h
  have c4 : ∀ (o : Nat) (v : Value), (frA w.heap.size)[o]? = some v → W.cell? ⟨w.heap.size + 1 + 1 + 1 + 1, 0 + o, none⟩ = some v := fun o v h => by rw [Nat.zero_add, cell_of_row _ _ _ _ _ _ r4]; exact h
  have s0 : SeesB (fun k => w.heap.size ≤ k ∧ k < w.heap.size + 6) W (.slice (some ⟨w.heap.size, 0, none⟩) 1 1) [1] := by
    refine ⟨_, 1, rfl, ⟨Nat.le_refl _, fun e => by cases e⟩, by decide, fun j hj => ⟨w.heap.size, 0, rfl, ⟨by omega, by omega, by omega⟩, ?_, ?_⟩⟩
    · match j, hj with
      | 0, _ => rw [cell_of_row _ _ _ _ _ _ r0]; rfl
    · match j, hj with
      | 0, _ => simp
  have s2 : SeesB (fun k => w.heap.size ≤ k ∧ k < w.heap.size + 6) W (.slice (some ⟨w.heap.size + 1 + 1, 0, none⟩) 2 2) [2, 3] := by
    refine ⟨_, 2, rfl, ⟨Nat.le_refl _, fun e => by cases e⟩, by decide, fun j hj => ⟨w.heap.size + 1 + 1, 0, rfl, ⟨by omega, by omega, by omega⟩, ?_, ?_⟩⟩
    · match j, hj with
      | 0, _ => rw [cell_of_row _ _ _ _ _ _ r2]; rfl
      | 1, _ => rw [cell_of_row _ _ _ _ _ _ r2]; rfl
    · match j, hj with
      | 0, _ => simp
      | 1, _ => simp
  have s4 : SeesS (fun k => w.heap.size ≤ k ∧ k < w.heap.size + 6) W (.slice (some ⟨w.heap.size + 1 + 1 + 1 + 1, 0, none⟩) 2 2) [⟨3221225985, [1]⟩, ⟨3221225986, [2, 3]⟩] := by
    refine ⟨_, 2, rfl, ⟨Nat.le_refl _, fun e => by cases e⟩, by decide, fun j hj => ?_⟩
    match j, hj with
    | 0, _ => exact ⟨_, 0, _, rfl, ⟨by omega, by omega, by omega⟩, c4 0 _ rfl, c4 1 _ rfl, s0, by simp⟩
    | 1, _ => exact ⟨_, 0, _, rfl, ⟨by omega, by omega, by omega⟩, c4 2 _ rfl, c4 3 _ rfl, s2, by simp⟩
  refine ⟨⟨_, 7, rfl, Nat.le_refl _, by decide, fun j hj => ?_⟩, hb⟩
  match j, hj with
  | 0, _ => exact ⟨_, 0, _, rfl, ⟨by omega, by omega, by omega⟩, ⟨c5 0 _ rfl, c5 1 _ rfl, c5 2 _ rfl, c5 3 _ rfl, c5 4 _ rfl⟩, s4, by simp [frS]⟩
  | 1, _ => exact ⟨_, 0, _, rfl, ⟨by omega, by omega, by omega⟩, ⟨c5 5 _ rfl, c5 6 _ rfl, c5 7 _ rfl, c5 8 _ rfl, c5 9 _ rfl⟩, seesS_nil _ _, by simp [frS]⟩
  | 2, _ => exact ⟨_, 0, _, rfl, ⟨by omega, by omega, by omega⟩, ⟨c5 10 _ rfl, c5 11 _ rfl, c5 12 _ rfl, c5 13 _ rfl, c5 14 _ rfl⟩, seesS_nil _ _, by simp [frS]⟩
  | 3, _ => exact ⟨_, 0, _, rfl, ⟨by omega, by omega, by omega⟩, ⟨c5 15 _ rfl, c5 16 _ rfl, c5 17 _ rfl, c5 18 _ rfl, c5 19 _ rfl⟩, seesS_nil _ _, by simp [frS]⟩
  | 4, _ => exact ⟨_, 0, _, rfl, ⟨by omega, by omega, by omega⟩, ⟨c5 20 _ rfl, c5 21 _ rfl, c5 22 _ rfl, c5 23 _ rfl, c5 24 _ rfl⟩, seesS_nil _ _, by simp [frS]⟩
  | 5, _ => exact ⟨_, 0, _, rfl, ⟨by omega, by omega, by omega⟩, ⟨c5 25 _ rfl, c5 26 _ rfl, c5 27 _ rfl, c5 28 _ rfl, c5 29 _ rfl⟩, seesS_nil _ _, by simp [frS]⟩
  | 6, _ => exact ⟨_, 0, _, rfl, ⟨by omega, by omega, by omega⟩, ⟨c5 30 _ rfl, c5 31 _ rfl, c5 32 _ rfl, c5 33 _ rfl, c5 34 _ rfl⟩, seesS_nil _ _, by simp [frS]⟩

/-- A pair that plays on: all of it new since w, and apart from K. -/
structure Pl (w0 : World) (K : Nat → Prop) (w : World) (pb rb m : Nat) : Prop where
  lv : ∃ S H, Lv w pb rb m S H ∧ (∀ k, H k → w0.heap.size ≤ k ∧ ¬ K k)
  be : Below w0.heap.size w0 w

theorem Pl.below {w0 w w' : World} {K : Nat → Prop} {pb rb m : Nat} (h : Pl w0 K w pb rb m) (hb : Below w.heap.size w w') : Pl w0 K w' pb rb m := by
  obtain ⟨⟨S, H, h1, h2⟩, h3⟩ := h
  exact ⟨⟨S, H, h1.below hb, h2⟩, h3.trans (hb.mono h3.size)⟩

/-- A step: all of K stays. -/
theorem Pl.plays {w0 w : World} {K : Nat → Prop} {pb rb m x : Nat} {L : List Pk} {kk i a : Int} {vs : Value} (h : Pl w0 K w pb rb m) (hK : ∀ k, K k → k < w.heap.size) (hv : SeesS K w vs L) (hx : x < 256) :
    Calls Try.prog 13 #[.pointer (some ⟨pb, 0, none⟩), .pointer (some ⟨rb, 0, none⟩), .agg #[.int .i64 kk, vs, .int .i64 i, .int .i64 a, .int .u8 (x : Int)]] w fun e W => e = .returned (.bool true) ∧ Pl w0 K W pb rb m ∧ Keeps (fun k => ¬ K k) w W := by
  obtain ⟨⟨S, H, h1, h2⟩, h3⟩ := h
  refine (plays_any w K H pb rb m x S L kk i a vs h1 hv (fun k e => (h2 k e).2) hx).mono ?_
  rintro e W ⟨he, H', q1, q2, q3⟩
  refine ⟨he, ⟨⟨_, H', q1, fun k hk => ?_⟩, ?_⟩, q3.mono fun k _ e => (h2 k e).2⟩
  · rcases q2 k hk with h | h
    · exact h2 k h
    · exact ⟨Nat.le_trans h3.size h, fun e => by have := hK k e; omega⟩
  · exact q3.below' h3 (fun k e => (h2 k e).1) (Nat.le_refl _)

theorem first_any (w : World) : Calls Try.prog 11 #[] w fun e w' => e = .returned (.bool true) ∧ Below w.heap.size w w' := by
  have HBT := hid (both_any 3 w)
  go_enter Try.func11, Try.ntmps11
  go_wp2_with fail
  refine HBT.out.mono ?_
  rintro _ w1 (⟨hb, rfl, hb1⟩ | ⟨hb, pb, rb, m, H, hm, rfl, hl1, hn1, hb1⟩)
  · exact absurd hb (by decide)
  · obtain rfl : m = 3 := by omega
    obtain ⟨hsO, hbF⟩ := first_mem w1
    obtain ⟨K, HKE⟩ : ∃ K : Nat → Prop, Hid (K = fun k => w1.heap.size ≤ k ∧ k < w1.heap.size + 6) := ⟨_, rfl⟩
    rw [← HKE.out] at hsO
    have HSO := hid hsO
    have hs6 : (frW w1).heap.size = w1.heap.size + 6 := by unfold frW; simp
    have HPL : Hid (Pl w K (frW w1) pb rb 3) := ⟨⟨[], H, hl1.below hbF, fun k hk => ⟨hn1 k hk, fun e => by rw [HKE.out] at e; have := hl1.lt hk; omega⟩⟩, hb1.trans (hbF.mono hb1.size)⟩
    obtain ⟨W, HW⟩ : ∃ W, Hid (W = frW w1) := ⟨_, rfl⟩
    have HKL : Hid (∀ k, K k → k < W.heap.size) := fun k hk => by rw [HKE.out] at hk; rw [HW.out, hs6]; exact hk.2
    rw [← HW.out] at HSO HPL
    obtain ⟨sb, HSB⟩ : ∃ sb, Hid (sb = w1.heap.size + 1 + 1 + 1 + 1 + 1) := ⟨_, rfl⟩
    rw [← HSB.out] at HSO
    clear hb hm hl1 hn1 hb1 hsO hbF hs6 HBT
    go_upto_region 7 with fail
    have e7 : (((((w1.alloc (.cells #[.int .u8 1] 5)).alloc (.cells #[.int .u32 3221225985, .slice (some ⟨w1.heap.size, 0, none⟩) 1 1] 41)).alloc (.cells #[.int .u8 2, .int .u8 3] 5)).alloc (.cells #[.int .u32 3221225986, .slice (some ⟨w1.heap.size + 1 + 1, 0, none⟩) 2 2] 41)).alloc (.cells #[.int .u32 3221225985, .slice (some ⟨w1.heap.size, 0, none⟩) 1 1, .int .u32 3221225986, .slice (some ⟨w1.heap.size + 1 + 1, 0, none⟩) 2 2] 41)).alloc (.cells #[.int .i64 1, .slice (some ⟨w1.heap.size + 1 + 1 + 1 + 1, 0, none⟩) 2 2, .int .i64 0, .int .i64 0, .int .u8 0, .int .i64 3, .slice none 0 0, .int .i64 0, .int .i64 0, .int .u8 0, .int .i64 3, .slice none 0 0, .int .i64 1, .int .i64 0, .int .u8 0, .int .i64 5, .slice none 0 0, .int .i64 2, .int .i64 0, .int .u8 255, .int .i64 6, .slice none 0 0, .int .i64 0, .int .i64 0, .int .u8 0, .int .i64 2, .slice none 0 0, .int .i64 0, .int .i64 0, .int .u8 0, .int .i64 6, .slice none 0 0, .int .i64 0, .int .i64 0, .int .u8 0] 35) = W := HW.out.symm
    rw [e7, ← HSB.out]
    clear e7
    go_upto_region 8 with fail
    go_loopw [7] (fun i wr => ∃ j : Nat, i = .int .i64 (j : Int) ∧ j ≤ 7 ∧ Hid (Pl w K wr pb rb 3) ∧ Hid (SeesO K wr (.slice (some ⟨sb, 0, none⟩) 7 7) frS) ∧ Hid (W.heap.size ≤ wr.heap.size)) (fun i _ => 7 - (intOf i).toNat)
    case atStart => exact ⟨0, rfl, by omega, HPL, HSO, Nat.le_refl _⟩
    case round =>
      obtain ⟨j, rfl, hj, HP, HS, HZ⟩ := hrel
      by_cases hlt : j < 7
      · have hlt' : (j : Int) < 7 := by omega
        obtain ⟨g, off, vs, o, hg, ⟨c0, c1, c2, c3, c4⟩, hss, hx, HX, -⟩ := HS.out.at j hlt
        simp only [Option.some.injEq, Addr.mk.injEq, and_true] at hg
        obtain ⟨rfl, rfl⟩ := hg
        simp only [Nat.zero_add] at c0 c1 c2 c3 c4
        have HPY := hid (HP.out.plays (kk := o.k) (i := o.i) (a := o.a) (fun k e => Nat.lt_of_lt_of_le (HKL.out k e) HZ.out) hss hx)
        obtain ⟨va, vn, vc, rfl, -⟩ := hss.shape
        generalize o.k = ok at *
        generalize o.i = oi at *
        generalize o.a = oa at *
        generalize o.x = ox at *
        clear hss HX hx
        go_wp2_with fail
        refine HPY.out.mono ?_
        rintro _ w3 ⟨rfl, hp3, hk3⟩
        have HP3 := hid hp3
        have HS3 := hid (HS.out.keeps hk3 fun k h1 h2 => h2 h1)
        have HZ3 : Hid (W.heap.size ≤ w3.heap.size) := Nat.le_trans HZ.out hk3.size
        clear c0 c1 c2 c3 c4 hp3 hk3 HPY
        go_wp2_with fail
        go_roundw
        case rel => exact ⟨j + 1, by go_num, hlt, HP3, HS3, HZ3⟩
        case measure => simp [intOf]; omega
      · have hlt' : ¬ (j : Int) < 7 := by omega
        go_wp2_with fail
        go_ret
        exact ⟨rfl, HP.out.be⟩
end Go.Proofs.Ytaelfhjhinfikab
