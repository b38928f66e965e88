/-
  (*Pool).Take.
-/
import Derived.Test.YtahoileampdnkaaOQ
namespace Go.Proofs.Ytahoileampdnkaa
open Go.ChangeShapes Go.WideShapes Go.ChangeAt Go.RowKit Ru N Tri
set_option maxHeartbeats 1000000
set_option maxRecDepth 100000

theorem own_lt {w : World} {B : Nat} {v : Value} {rs : List R} (h : OwnR w B v rs) {k : Nat} (hk : v.ownBlock = some k) : k < w.heap.size := (World.ownsRow.lt h k hk).2

theorem own_ne {w : World} {B pb : Nat} {v : Value} {rs : List R} {cs : Array Value} (h : OwnR w B v rs) (hp : w.heap[pb]? = some (.cells cs 68 (0, 0))) {k : Nat} (hk : v.ownBlock = some k) : k ≠ pb := by
  intro e
  rcases h.2 with ⟨rfl, _⟩ | ⟨g', cap', cur', rfl, _, hgg, _⟩
  · cases hk
  · simp [Value.ownBlock] at hk
    rw [hk, e, hp] at hgg
    simp at hgg

/-- What a call leaves that takes or gives back. -/
structure Turned (pb : Nat) (vk vt : Value) (sub lo hi : Nat) (ks : List R) (w w' : World) (vt' : Value) (ts' : List R) : Prop where
  pool : PoolAt w' pb vk vt' sub lo hi ks ts'
  new : NewBlk vt vt' w.heap.size
  keeps : Keeps (fun k => k = pb ∨ vt.ownBlock = some k) w w'

theorem PoolAt.turn {w u : World} {pb sub lo hi n : Nat} {vk vt : Value} {ks ts : List R} (h : PoolAt w pb vk vt sub lo hi ks ts) (ha : Added pb 4 (pcells sub lo hi vk vt) vt ts n w u) (hn : adr sub n < 4294967296) :
    ∃ vt' ts', Turned pb vk vt sub lo hi ks w u vt' ts' ∧ ∀ m, Mem ts' m ↔ m = n ∨ Mem ts m := by
  obtain ⟨v', rs', h1, h2, h3, h4, h5, h6, h7⟩ := ha
  refine ⟨v', rs', ⟨⟨?_, ?_, h4, h.rk, h1, ?_, h.hs, h.hh, h.lh, h.ah, h.ak, ?_⟩, h6, h7⟩, h2⟩
  · rw [h5]; rfl
  · refine h.ok.keeps h7 fun k hk => ?_
    rintro (e | e)
    · exact own_ne h.ok h.row hk e
    · rcases h.ap with h0 | h0
      · rw [h0] at hk; cases hk
      · exact h0 (by rw [hk, e])
  · rcases h.ap with h0 | h0
    · exact .inl h0
    · right
      rcases h6 with h6 | ⟨g, h6, hg⟩
      · rw [h6]; exact h0
      · rw [h6]
        intro e
        have := own_lt h.ok e
        omega
  · intro m hm
    rcases (h2 m).1 hm with rfl | hm
    · exact hn
    · exact h.av m hm

theorem adr_mono {sub a b : Nat} (h : a ≤ b) : adr sub a ≤ adr sub b := Nat.mul_le_mul_right _ h

/-- What Take answers. -/
def Takes (pb : Nat) (vk vt : Value) (sub lo hi : Nat) (ks ts : List R) (w : World) (e : Ending) (w' : World) : Prop :=
  (∃ (a : Nat) (vt' : Value) (ts' : List R), e = .returned (.tuple #[.agg #[.int .u32 ((adr sub a : Nat) : Int), .int .i64 (sub : Int)], .int .i64 0]) ∧ lo ≤ a ∧ a ≤ hi ∧ ¬ Mem ks a ∧ ¬ Mem ts a ∧ (∀ x, lo ≤ x → x < a → Mem ks x ∨ Mem ts x) ∧ Turned pb vk vt sub lo hi ks w w' vt' ts' ∧ ∀ m, Mem ts' m ↔ m = a ∨ Mem ts m) ∨
  (e = .returned (.tuple #[.agg #[.int .u32 0, .int .i64 0], .int .i64 4]) ∧ (∀ x, lo ≤ x → x ≤ hi → Mem ks x ∨ Mem ts x) ∧ Below w.heap.size w w')

theorem Turned.from {pb sub lo hi : Nat} {vk vt vt' : Value} {ks ts' : List R} {w u u' : World} (h : Turned pb vk vt sub lo hi ks u u' vt' ts') (hb : Below w.heap.size w u) : Turned pb vk vt sub lo hi ks w u' vt' ts' :=
  ⟨h.pool, by rcases h.new with h1 | ⟨g, h1, h2⟩; exact .inl h1; exact .inr ⟨g, h1, Nat.le_trans hb.size h2⟩, (Keeps.of hb).trans h.keeps⟩

theorem Turned.more {pb sub lo hi : Nat} {vk vt vt' : Value} {ks ts' : List R} {w u u' : World} (h : Turned pb vk vt sub lo hi ks w u vt' ts') (hb : Below u.heap.size u u') : Turned pb vk vt sub lo hi ks w u' vt' ts' :=
  ⟨h.pool.below hb, h.new, h.keeps.trans (Keeps.of hb)⟩

theorem PoolAt.keeps {S : Nat → Prop} {w w' : World} {pb sub lo hi : Nat} {vk vt : Value} {ks ts : List R} (h : PoolAt w pb vk vt sub lo hi ks ts) (hk : Keeps S w w') (h1 : ¬ S pb) (h2 : ∀ k, vk.ownBlock = some k → ¬ S k) (h3 : ∀ k, vt.ownBlock = some k → ¬ S k) : PoolAt w' pb vk vt sub lo hi ks ts :=
  ⟨(hk.block pb (Array.getElem?_eq_some_iff.1 h.row).1 h1).trans h.row, h.ok.keeps hk h2, h.ot.keeps hk h3, h.rk, h.rt, h.ap, h.hs, h.hh, h.lh, h.ah, h.ak, h.av⟩

/-- A new block is written behind it. -/
theorem Turned.set {pb sub lo hi rb : Nat} {vk vt vt' : Value} {ks ts ts' : List R} {w u W : World} (h0 : PoolAt w pb vk vt sub lo hi ks ts) (h : Turned pb vk vt sub lo hi ks w u vt' ts') (hr : w.heap.size ≤ rb) (hv : vt'.ownBlock ≠ some rb) (hk : Keeps (fun k => k = rb) u W) : Turned pb vk vt sub lo hi ks w W vt' ts' := by
  have hpl := (Array.getElem?_eq_some_iff.1 h0.row).1
  refine ⟨h.pool.keeps hk (fun e => by omega) (fun k hk e => ?_) (fun k hk e => hv (by rw [hk, e])), h.new, ?_⟩
  · have := own_lt h0.ok hk
    omega
  · exact ⟨hk.os.trans h.keeps.os, hk.tape.trans h.keeps.tape, hk.output.trans h.keeps.output, Nat.le_trans h.keeps.size hk.size, fun k hk1 hk2 => (hk.block k (Nat.lt_of_lt_of_le hk1 h.keeps.size) (fun e => by omega)).trans (h.keeps.block k hk1 hk2)⟩

theorem take_any (pb sub lo hi : Nat) (vk vt : Value) (ks ts : List R) (w : World) (hp : PoolAt w pb vk vt sub lo hi ks ts) :
    Calls Try.prog 14 #[.pointer (some ⟨pb, 0, none⟩)] w (Takes pb vk vt sub lo hi ks ts w) := by
  obtain ⟨w0, HW0⟩ : ∃ w0, Hid (w0 = w.alloc (.cells #[.int .u32 0, .int .i64 0] 25)) := ⟨_, rfl⟩
  have hb0 : Below w.heap.size w w0 := by rw [HW0.out]; exact (Below.refl _ _).alloc (Nat.le_refl _) _
  have r0 : w0.heap[w.heap.size]? = some (.cells #[.int .u32 0, .int .i64 0] 25 (0, 0)) := by rw [HW0.out]; exact heap_alloc_new w _
  have hs0 : w0.heap.size = w.heap.size + 1 := by rw [HW0.out]; simp
  obtain ⟨rb, HRB⟩ : ∃ rb, Hid (rb = w.heap.size) := ⟨_, rfl⟩
  have hrb : rb < w0.heap.size := by rw [HRB.out, hs0]; omega
  rw [← HRB.out] at r0
  have HP0 := hid hp
  have HP := hid (hp.below hb0)
  have HB0 := hid hb0
  have R0 := hid r0
  have hlo : lo ≤ 4294967297 := by have := hp.lh; have := hp.hh; omega
  have HN := hid (next_any pb lo sub lo hi vk vt ks ts w0 HP.out hlo)
  obtain ⟨c0, c1, c2, c3, c4⟩ := HP.out.cells w0 (Below.refl _ _)
  clear hp hb0 r0 c0 c2 c3 c4
  go_enter Try.func14, Try.ntmps14
  go_upto_region 1 with fail
  rw [← HW0.out, ← HRB.out]
  go_wp2_with fail
  refine HN.out.mono ?_
  rintro e w1 ⟨hn, hb1⟩
  have HB1 := hid hb1
  have R1 := hid (below_keeps hb1 R0.out hrb)
  clear hb1 HN c1
  rcases hn with ⟨a, b, rfl, h1, h2, h3, h4, h5, h6⟩ | ⟨rfl, h1⟩
  · have HT := hid (And.intro h1 (And.intro (Nat.le_trans h2 h3) (And.intro (h5 a (Nat.le_refl _) h2) h4)))
    have hal : a < 4294967296 := by have := HP.out.hh; omega
    have hadr : adr sub a < 4294967296 := Nat.lt_of_le_of_lt (adr_mono (Nat.le_trans h2 h3)) HP.out.ah
    clear h1 h2 h3 h4 h5 h6
    obtain ⟨jb, HJB⟩ : ∃ jb, Hid (jb = w1.heap.size) := ⟨_, rfl⟩
    obtain ⟨w2, HW2⟩ : ∃ w2, Hid (w2 = w1.alloc (.cells #[.int .i64 (a : Int), .int .i64 (b : Int)] 64)) := ⟨_, rfl⟩
    have hb2 : Below w1.heap.size w1 w2 := by rw [HW2.out]; exact (Below.refl _ _).alloc (Nat.le_refl _) _
    have HB2 : Hid (Below w0.heap.size w0 w2) := HB1.out.trans (hb2.mono HB1.out.size)
    have r2 : w2.heap[jb]? = some (.cells #[.int .i64 (a : Int), .int .i64 (b : Int)] 64 (0, 0)) := by rw [HW2.out, HJB.out]; exact heap_alloc_new w1 _
    have hjb : jb < w2.heap.size := (Array.getElem?_eq_some_iff.1 r2).1
    have HPD : Hid (PoolAt w2.drew pb vk vt sub lo hi ks ts) := by
      have h : Below w0.heap.size w0 w2.drew := ⟨HB2.out.os, HB2.out.tape, HB2.out.output, HB2.out.size, HB2.out.block⟩
      exact HP.out.below h
    have HADD := hid (add_any pb 4 a (pcells sub lo hi vk vt) vt ts w2.drew HPD.out.row rfl HPD.out.ot HPD.out.rt hal HPD.out.rt.len)
    obtain ⟨d0, d1⟩ : w2.cell? ⟨jb, 0, none⟩ = some (.int .i64 (a : Int)) ∧ w2.cell? ⟨jb, 1, none⟩ = some (.int .i64 (b : Int)) := ⟨by rw [cell_of_row _ _ _ _ _ _ r2]; rfl, by rw [cell_of_row _ _ _ _ _ _ r2]; rfl⟩
    have R2 := hid r2
    clear r2 hb2
    go_upto_region 4 with fail
    rw [← HW2.out, ← HJB.out]
    refine wp_region_still_tail 5 (by kernel_rfl) (by kernel_rfl) ?_
    simp only [List.take_succ_cons, List.take_zero, List.drop_succ_cons, List.drop_zero]
    iterate 5 still_step
    refine wpStill_nil ?_
    go_wp2_with fail
    refine HADD.out.mono ?_
    rintro e w3 (⟨rfl, hm, -⟩ | ⟨rfl, -, ha⟩)
    · exact absurd hm HT.out.2.2.1.2
    · obtain ⟨vt', ts', htn, hmem⟩ := HPD.out.turn ha hadr
      have HTN := hid htn
      have HMEM := hid hmem
      have hk := htn.keeps
      have hjp : ¬ (jb = pb ∨ vt.ownBlock = some jb) := by
        rintro (e | e)
        · have h1 := R2.out
          rw [e] at h1
          have h2 := HPD.out.row
          have h3 : w2.heap[pb]? = some (.cells (pcells sub lo hi vk vt) 68 (0, 0)) := h2
          rw [h1] at h3
          simp at h3
        · have h1 := own_lt (HP.out.below HB1.out).ot e
          have := HJB.out
          omega
      have r3 : w3.heap[jb]? = some (.cells #[.int .i64 (a : Int), .int .i64 (b : Int)] 64 (0, 0)) := (hk.block jb hjb hjp).trans R2.out
      have hrp : ¬ (rb = pb ∨ vt.ownBlock = some rb) := by
        rintro (e | e)
        · have h1 := HP.out.row
          rw [← e, R0.out] at h1
          simp at h1
        · have h1 := own_lt HP0.out.ot e
          have := HRB.out
          omega
      have hrl2 : rb < w2.heap.size := Nat.lt_of_lt_of_le hrb HB2.out.size
      have r4 : w3.heap[rb]? = some (.cells #[.int .u32 0, .int .i64 0] 25 (0, 0)) := ((hk.block rb hrl2 hrp).trans (HB2.out.block rb hrb)).trans R0.out
      have R4 := hid r4
      obtain ⟨f0, f1⟩ : w3.cell? ⟨jb, 0, none⟩ = some (.int .i64 (a : Int)) ∧ w3.cell? ⟨jb, 1, none⟩ = some (.int .i64 (b : Int)) := ⟨by rw [cell_of_row _ _ _ _ _ _ r3]; rfl, by rw [cell_of_row _ _ _ _ _ _ r3]; rfl⟩
      have HSN := hid (subnet_any pb a sub w3 hadr HP.out.hs (HTN.out.pool.cells w3 (Below.refl _ _)).1)
      clear htn hmem hk r3 r4 d0 d1 ha HADD
      go_wp2_with fail
      refine HSN.out.mono ?_
      rintro _ w4 ⟨rfl, hb4⟩
      have r5 := below_keeps hb4 R4.out (Array.getElem?_eq_some_iff.1 R4.out).1
      have k0 : w4.cell? ⟨rb, 0, none⟩ = some (.int .u32 0) := by rw [cell_of_row _ _ _ _ _ _ r5]; rfl
      have k1 : w4.cell? ⟨rb, 1, none⟩ = some (.int .i64 0) := by rw [cell_of_row _ _ _ _ _ _ r5]; rfl
      have k2 : w4.frozen? ⟨rb, 0, none⟩ = false := frozen_of_row _ _ _ _ _ r5
      have k3 : w4.frozen? ⟨rb, 1, none⟩ = false := frozen_of_row _ _ _ _ _ r5
      have R6 := hid (set_two (a := .int .u32 ((adr sub a : Nat) : Int)) (c := .int .i64 (sub : Int)) r5)
      have HB4 := hid hb4
      clear r5 hb4 f0 f1
      obtain ⟨ad, HAD⟩ : ∃ ad, Hid (ad = adr sub a) := ⟨_, rfl⟩
      rw [← HAD.out] at R6 ⊢
      go_wp2_with fail
      have hvr : vt'.ownBlock ≠ some rb := fun e => by
        rcases HTN.out.new with h1 | ⟨g, h1, h2⟩
        · exact hrp (.inr (by rw [← h1]; exact e))
        · rw [e] at h1
          simp at h1
          have h3 : w2.drew.heap.size = w2.heap.size := rfl
          omega
      have HTW : Hid (Turned pb vk vt sub lo hi ks w ((w4.setCell ⟨rb, 0, none⟩ (.int .u32 (ad : Int))).setCell ⟨rb, 1, none⟩ (.int .i64 (sub : Int))) vt' ts') := by
        have hk1 : Keeps (fun k => k = rb) w4 ((w4.setCell ⟨rb, 0, none⟩ (.int .u32 (ad : Int))).setCell ⟨rb, 1, none⟩ (.int .i64 (sub : Int))) := Keeps.set (S := fun k => k = rb) (Keeps.set (S := fun k => k = rb) (Keeps.refl _ _) ⟨rb, 0, none⟩ rfl _) ⟨rb, 1, none⟩ rfl _
        have hb : Below w.heap.size w w2.drew := by
          have h := HB0.out.trans (HB2.out.mono HB0.out.size)
          exact ⟨h.os, h.tape, h.output, h.size, h.block⟩
        exact Turned.set HP0.out ((HTN.out.from hb).more HB4.out) (by rw [HRB.out]; exact Nat.le_refl _) hvr hk1
      generalize ((w4.setCell ⟨rb, 0, none⟩ (.int .u32 (ad : Int))).setCell ⟨rb, 1, none⟩ (.int .i64 (sub : Int))) = W at *
      have g0 : W.cell? ⟨rb, 0, none⟩ = some (.int .u32 (ad : Int)) := by rw [cell_of_row _ _ _ _ _ _ R6.out]; rfl
      have g1 : W.cell? ⟨rb, 1, none⟩ = some (.int .i64 (sub : Int)) := by rw [cell_of_row _ _ _ _ _ _ R6.out]; rfl
      refine bodyPost_ret (v := .tuple #[.agg #[.int .u32 (ad : Int), .int .i64 (sub : Int)], .int .i64 0]) (by simp [results, Try.results14, go_sem, g0, g1]) rfl ?_
      exact .inl ⟨a, vt', ts', by rw [HAD.out], HT.out.1, HT.out.2.1, HT.out.2.2.1.1, HT.out.2.2.1.2, HT.out.2.2.2, HTW.out, HMEM.out⟩
  · have HT := hid h1
    clear h1
    obtain ⟨jb, HJB⟩ : ∃ jb, Hid (jb = w1.heap.size) := ⟨_, rfl⟩
    obtain ⟨w2, HW2⟩ : ∃ w2, Hid (w2 = w1.alloc (.cells #[.int .i64 0, .int .i64 0] 64)) := ⟨_, rfl⟩
    have hb2 : Below w1.heap.size w1 w2 := by rw [HW2.out]; exact (Below.refl _ _).alloc (Nat.le_refl _) _
    have HB2 : Hid (Below w0.heap.size w0 w2) := HB1.out.trans (hb2.mono HB1.out.size)
    have r5 := below_keeps hb2 R1.out (Array.getElem?_eq_some_iff.1 R1.out).1
    have k0 : w2.cell? ⟨rb, 0, none⟩ = some (.int .u32 0) := by rw [cell_of_row _ _ _ _ _ _ r5]; rfl
    have k1 : w2.cell? ⟨rb, 1, none⟩ = some (.int .i64 0) := by rw [cell_of_row _ _ _ _ _ _ r5]; rfl
    have k2 : w2.frozen? ⟨rb, 0, none⟩ = false := frozen_of_row _ _ _ _ _ r5
    have k3 : w2.frozen? ⟨rb, 1, none⟩ = false := frozen_of_row _ _ _ _ _ r5
    have R6 := hid (set_two (a := .int .u32 0) (c := .int .i64 0) r5)
    have HB6 : Hid (Below w.heap.size w ((w2.setCell ⟨rb, 0, none⟩ (.int .u32 0)).setCell ⟨rb, 1, none⟩ (.int .i64 0))) :=
      ((HB0.out.trans (HB2.out.mono HB0.out.size)).setCell (p := ⟨rb, 0, none⟩) (by rw [HRB.out]; exact Nat.le_refl _) _).setCell (p := ⟨rb, 1, none⟩) (by rw [HRB.out]; exact Nat.le_refl _) _
    clear r5 hb2
    go_upto_region 2 with fail
    rw [← HW2.out]
    go_wp2_with fail
    generalize ((w2.setCell ⟨rb, 0, none⟩ (.int .u32 0)).setCell ⟨rb, 1, none⟩ (.int .i64 0)) = W at *
    have g0 : W.cell? ⟨rb, 0, none⟩ = some (.int .u32 0) := by rw [cell_of_row _ _ _ _ _ _ R6.out]; rfl
    have g1 : W.cell? ⟨rb, 1, none⟩ = some (.int .i64 0) := by rw [cell_of_row _ _ _ _ _ _ R6.out]; rfl
    refine bodyPost_ret (v := .tuple #[.agg #[.int .u32 0, .int .i64 0], .int .i64 4]) (by simp [results, Try.results14, go_sem, g0, g1]) rfl ?_
    exact .inr ⟨rfl, HT.out, HB6.out⟩
end Go.Proofs.Ytahoileampdnkaa
