/-
  The reference's Take.
-/
import Derived.Test.YtahoileampdnkaaHB
namespace Go.Proofs.Ytahoileampdnkaa
open Go.ChangeShapes Go.WideShapes Go.ChangeAt Go.RowKit Ru N Tri
set_option maxHeartbeats 2000000
set_option maxRecDepth 100000

theorem ownN_ne_p {w : World} {B b : Nat} {v : Value} {L : List Nat} {cs : Array Value} (h : OwnN w B v L) (hp : w.heap[b]? = some (.cells cs 25 (0, 0))) : v.ownBlock ≠ some b := by
  intro e
  rcases h.2 with ⟨rfl, _⟩ | ⟨g', cap', cur', rfl, _, hgg, _⟩
  · cases e
  · simp [Value.ownBlock] at e
    rw [e, hp] at hgg
    simp at hgg

theorem RTurn.set {rb x sub lo hi qb : Nat} {y : Int} {vk vt vt' : Value} {A T T' : List Nat} {w u W : World} (h0 : RAt w rb x y sub lo hi vk vt A T) (h : RTurn rb x y sub lo hi vk vt A w u vt' T') (hr : w.heap.size ≤ qb) (hv : vt'.ownBlock ≠ some qb) (hk : Keeps (fun k => k = qb) u W) : RTurn rb x y sub lo hi vk vt A w W vt' T' := by
  have hpl := (Array.getElem?_eq_some_iff.1 h0.row).1
  refine ⟨h.pool.keeps hk (fun e => by omega) (fun k hk e => ?_) (fun k hk e => hv (by rw [hk, e])), h.new, ?_⟩
  · have := (World.ownsRow.lt h0.ok k hk).2
    omega
  · exact ⟨hk.os.trans h.keeps.os, hk.tape.trans h.keeps.tape, hk.output.trans h.keeps.output, Nat.le_trans h.keeps.size hk.size, fun k hk1 hk2 => (hk.block k (Nat.lt_of_lt_of_le hk1 h.keeps.size) (fun e => by omega)).trans (h.keeps.block k hk1 hk2)⟩

/-- What the reference's Take answers. -/
def TakesR (rb x : Nat) (y : Int) (sub lo hi : Nat) (vk vt : Value) (A T : List Nat) (w : World) (e : Ending) (w' : World) : Prop :=
  (∃ (k : Nat) (vt' : Value), lo + k * 2 ^ (32 - sub) ≤ hi ∧ lo + k * 2 ^ (32 - sub) ∉ A ∧ lo + k * 2 ^ (32 - sub) ∉ T ∧ (∀ j, j < k → lo + j * 2 ^ (32 - sub) ∈ A ∨ lo + j * 2 ^ (32 - sub) ∈ T) ∧ e = .returned (.tuple #[.agg #[.int .u32 ((lo + k * 2 ^ (32 - sub) : Nat) : Int), .int .i64 (sub : Int)], .int .i64 0]) ∧ RTurn rb x y sub lo hi vk vt A w w' vt' (T ++ [lo + k * 2 ^ (32 - sub)])) ∨
  ((∀ j, lo + j * 2 ^ (32 - sub) ≤ hi → lo + j * 2 ^ (32 - sub) ∈ A ∨ lo + j * 2 ^ (32 - sub) ∈ T) ∧ e = .returned (.tuple #[.agg #[.int .u32 0, .int .i64 0], .int .i64 4]) ∧ Below w.heap.size w w')

theorem takeR (rb x : Nat) (y : Int) (sub lo hi : Nat) (vk vt : Value) (A T : List Nat) (w : World) (hp : RAt w rb x y sub lo hi vk vt A T) (hnd : T.Nodup) :
    Calls Try.prog 42 #[.pointer (some ⟨rb, 0, none⟩)] w (TakesR rb x y sub lo hi vk vt A T w) := by
  obtain ⟨w0, HW0⟩ : ∃ w0, Hid (w0 = w.alloc (.cells #[.int .u32 0, .int .i64 0] 25)) := ⟨_, rfl⟩
  have hb0 : Below w.heap.size w w0 := by rw [HW0.out]; exact (Below.refl _ _).alloc (Nat.le_refl _) _
  have r0 : w0.heap[w.heap.size]? = some (.cells #[.int .u32 0, .int .i64 0] 25 (0, 0)) := by rw [HW0.out]; exact heap_alloc_new w _
  obtain ⟨qb, HQB⟩ : ∃ qb, Hid (qb = w.heap.size) := ⟨_, rfl⟩
  rw [← HQB.out] at r0
  have R0 := hid r0
  have HB0 := hid hb0
  have HP0 := hid hp
  have HP := hid (hp.below hb0)
  have HND := hid hnd
  obtain ⟨Z, HZ⟩ : ∃ Z, Hid (Z = 2 ^ (32 - sub)) := ⟨_, hid rfl⟩
  have hz1 : 0 < Z := by rw [HZ.out]; exact Nat.two_pow_pos _
  have hz2 : Z ≤ 4294967296 := by rw [HZ.out]; exact pow_le32 sub
  have HSZ := hid (sizeR10 sub w0 hp.hs)
  rw [← HZ.out] at HSZ
  unfold TakesR
  rw [← HZ.out]
  have hl := hp.hl
  have hh := hp.hh
  obtain ⟨-, -, c2, c3, -, -, -, -⟩ := HP.out.cells
  have HUP : ∀ wr : World, Below w0.heap.size w0 wr → RAt wr rb x y sub lo hi vk vt A T := fun wr h => HP.out.below h
  clear hp hb0 r0 hnd
  go_enter Try.func42, Try.ntmps42
  go_upto_region 1 with fail
  rw [← HW0.out, ← HQB.out]
  go_wp2_with fail
  refine HSZ.out.mono ?_
  rintro _ _ ⟨rfl, ew⟩
  obtain rfl := ew.symm
  clear ew HSZ
  go_upto_region 3 with fail
  clear c2 c3
  go_loopw [5] (fun n wr => ∃ k nn : Nat, n = .int .i64 (nn : Int) ∧ nn ≤ 8589934592 ∧ Hid (nn = lo + k * Z) ∧ Hid (∀ j, j < k → lo + j * Z ∈ A ∨ lo + j * Z ∈ T) ∧ Hid (Below w0.heap.size w0 wr)) (fun n _ => hi + 1 - (intOf n).toNat)
  case atStart => exact ⟨0, lo, rfl, by omega, hid (by simp), hid (fun j hj => absurd hj (Nat.not_lt_zero _)), Below.refl _ _⟩
  case round =>
    obtain ⟨k, nn, rfl, hnn, HN, HU, HB⟩ := hrel
    have HPR := hid (HUP wr HB.out)
    obtain ⟨-, -, c2, -, c4, c5, c6, f6⟩ := HPR.out.cells
    by_cases hle : nn ≤ hi
    · have g1 : (nn : Int) ≤ (hi : Int) := int_le hle
      obtain ⟨kb, HKB⟩ : ∃ kb, Hid (kb = decide (nn ∈ A)) := ⟨_, rfl⟩
      obtain ⟨tb, HTB⟩ : ∃ tb, Hid (tb = decide (nn ∈ T)) := ⟨_, rfl⟩
      have HIK := hid (inR 0 vk A nn wr HPR.out.ok (by have := HPR.out.la; omega))
      have HIT := hid (inR 0 vt T nn wr HPR.out.ot HPR.out.lt)
      rw [← HKB.out] at HIK
      rw [← HTB.out] at HIT
      have HNX : (kb = true ∨ tb = true) → Hid (∀ j, j < k + 1 → lo + j * Z ∈ A ∨ lo + j * Z ∈ T) := fun h j hj => by
        by_cases e : j = k
        · subst e
          rw [← HN.out]
          rcases h with h | h
          · left; have := HKB.out; rw [h] at this; simpa using this.symm
          · right; have := HTB.out; rw [h] at this; simpa using this.symm
        · exact HU.out j (by omega)
      have HN2 : Hid (nn + Z = lo + (k + 1) * Z) := by unfold Hid; rw [HN.out, Nat.add_mul, Nat.one_mul, Nat.add_assoc]
      have hnz : nn + Z ≤ 8589934592 := by omega
      go_upto_region 5 with fail
      go_wp2_with fail
      refine HIK.out.mono ?_
      rintro _ _ ⟨rfl, ew⟩
      obtain rfl := ew.symm
      clear ew HIK
      go_wp2_with fail
      refine HIT.out.mono ?_
      rintro _ _ ⟨rfl, ew⟩
      obtain rfl := ew.symm
      clear ew HIT
      cases kb with
      | true =>
        have HU2 := HNX (.inl rfl)
        go_wp2_with fail
        go_roundw
        case rel => exact ⟨k + 1, nn + Z, by go_num, hnz, HN2, HU2, HB⟩
        case measure => simp [intOf]; omega
      | false =>
        cases tb with
        | true =>
          have HU2 := HNX (.inr rfl)
          go_wp2_with fail
          go_roundw
          case rel => exact ⟨k + 1, nn + Z, by go_num, hnz, HN2, HU2, HB⟩
          case measure => simp [intOf]; omega
        | false =>
          have HNA : Hid (nn ∉ A ∧ nn ∉ T) := ⟨by have := HKB.out; simpa using this.symm, by have := HTB.out; simpa using this.symm⟩
          have HTL : Hid (T.length < 4294967296) := nod_small HND.out HPR.out.bt HNA.out.2 (by omega)
          obtain ⟨w4, HW4⟩ : ∃ w4, Hid (w4 = wr.alloc (.cells #[.int .i64 (nn : Int)] 3)) := ⟨_, rfl⟩
          have hb4 : Below wr.heap.size wr w4 := by rw [HW4.out]; exact (Below.refl _ _).alloc (Nat.le_refl _) _
          have r4 : w4.heap[wr.heap.size]? = some (.cells #[.int .i64 (nn : Int)] 3 (0, 0)) := by rw [HW4.out]; exact heap_alloc_new wr _
          have HP4 := HPR.out.below hb4
          obtain ⟨v', w5, hap, ho5, hg5, hn5⟩ := append_int w4 75 0 vt T nn wr.heap.size HP4.ot (by rw [cell_of_row _ _ _ _ _ _ r4]; rfl) (Nat.zero_le _) (by have := HTL.out; omega)
          obtain ⟨av5, lv5, cv5, e5, -⟩ := ho5.shape
          subst e5
          have HTU := HP4.store (Keeps.grown hg5 (fun k hk => hk)) ho5 hn5.nw (by rw [List.length_append]; exact HTL.out) (fun n hn => by
            rw [List.mem_append, List.mem_singleton] at hn
            rcases hn with hn | rfl
            · exact HP4.bt n hn
            · omega)
          have hbw4 : Below w0.heap.size w0 w4 := HB.out.trans (hb4.mono HB.out.size)
          have HTU2 := hid (HTU.from (HB0.out.trans (hbw4.mono HB0.out.size)))
          have HAP := hid hap
          obtain ⟨s6a, s6b⟩ : w5.cell? ⟨rb, 6, none⟩ = some vt ∧ w5.frozen? ⟨rb, 6, none⟩ = false := by
            have hr := (hg5.block rb (Array.getElem?_eq_some_iff.1 HP4.row).1 (fun e => ownN_ne HP4.ot HP4.row e.symm)).trans HP4.row
            exact ⟨by rw [cell_of_row _ _ _ _ _ _ hr]; rfl, frozen_of_row _ _ _ _ _ hr⟩
          have rq4 := below_keeps hbw4 R0.out (Array.getElem?_eq_some_iff.1 R0.out).1
          have rq5 : (w5.setCell ⟨rb, 6, none⟩ (.slice av5 lv5 cv5)).heap[qb]? = some (.cells #[.int .u32 0, .int .i64 0] 25 (0, 0)) := by
            refine (HTU.keeps.block qb (Array.getElem?_eq_some_iff.1 rq4).1 ?_).trans rq4
            rintro (e | e)
            · have h1 := HP4.row
              rw [← e, rq4] at h1
              simp at h1
            · exact ownN_ne_p HP4.ot rq4 e
          have hvr := ownN_ne_p HTU.pool.ot rq5
          obtain ⟨w6, HW6⟩ : ∃ w6, Hid (w6 = w5.setCell ⟨rb, 6, none⟩ (.slice av5 lv5 cv5)) := ⟨_, rfl⟩
          rw [← HW6.out] at rq5 HTU2
          have k0 : w6.cell? ⟨qb, 0, none⟩ = some (.int .u32 0) := by rw [cell_of_row _ _ _ _ _ _ rq5]; rfl
          have k1 : w6.cell? ⟨qb, 1, none⟩ = some (.int .i64 0) := by rw [cell_of_row _ _ _ _ _ _ rq5]; rfl
          have k2 : w6.frozen? ⟨qb, 0, none⟩ = false := frozen_of_row _ _ _ _ _ rq5
          have k3 : w6.frozen? ⟨qb, 1, none⟩ = false := frozen_of_row _ _ _ _ _ rq5
          have k4 : w6.cell? ⟨rb, 2, none⟩ = some (.int .i64 (sub : Int)) := HTU2.out.pool.cells.2.2.1
          have R6 := hid (set_two (a := .int .u32 (nn : Int)) (c := .int .i64 (sub : Int)) rq5)
          have HTW : Hid (RTurn rb x y sub lo hi vk vt A w ((w6.setCell ⟨qb, 0, none⟩ (.int .u32 (nn : Int))).setCell ⟨qb, 1, none⟩ (.int .i64 (sub : Int))) (.slice av5 lv5 cv5) (T ++ [nn])) := by
            have hk1 : Keeps (fun k => k = qb) w6 ((w6.setCell ⟨qb, 0, none⟩ (.int .u32 (nn : Int))).setCell ⟨qb, 1, none⟩ (.int .i64 (sub : Int))) := Keeps.set (S := fun k => k = qb) (Keeps.set (S := fun k => k = qb) (Keeps.refl _ _) ⟨qb, 0, none⟩ rfl _) ⟨qb, 1, none⟩ rfl _
            exact RTurn.set HP0.out HTU2.out (by rw [HQB.out]; exact Nat.le_refl _) hvr hk1
          have wu : IntKind.u32.wrap (nn : Int) = (nn : Int) := by simp [IntKind.wrap, IntKind.bits, IntKind.signed]; omega
          have HLE := hid hle
          clear hb4 r4 HP4 hap ho5 hg5 hn5 HTU hbw4 rq4 rq5 hvr hnz HNX
          go_upto_region 9 with (at_builtin; rw [← HW4.out]; refine wpList_append_run _ rfl _ _ 75 75 rfl _ _ rfl rfl HAP.out ?_)
          rw [← HW6.out]
          go_wp2_with fail
          generalize ((w6.setCell ⟨qb, 0, none⟩ (.int .u32 (nn : Int))).setCell ⟨qb, 1, none⟩ (.int .i64 (sub : Int))) = W at *
          have g0 : W.cell? ⟨qb, 0, none⟩ = some (.int .u32 (nn : Int)) := by rw [cell_of_row _ _ _ _ _ _ R6.out]; rfl
          have g1 : W.cell? ⟨qb, 1, none⟩ = some (.int .i64 (sub : Int)) := by rw [cell_of_row _ _ _ _ _ _ R6.out]; rfl
          refine bodyPost_ret (v := .tuple #[.agg #[.int .u32 (nn : Int), .int .i64 (sub : Int)], .int .i64 0]) (by simp [results, Try.results42, go_sem, g0, g1]) rfl ?_
          have HFIN := hid (And.intro HLE.out (And.intro HNA.out.1 (And.intro HNA.out.2 HTW.out)))
          refine .inl ⟨k, .slice av5 lv5 cv5, ?_⟩
          rw [← HN.out]
          exact ⟨HFIN.out.1, HFIN.out.2.1, HFIN.out.2.2.1, HU.out, rfl, HFIN.out.2.2.2⟩
    · have g1 : ¬ (nn : Int) ≤ (hi : Int) := int_nle hle
      have HALL : Hid (∀ j, lo + j * Z ≤ hi → lo + j * Z ∈ A ∨ lo + j * Z ∈ T) := fun j hj => by
        refine HU.out j ?_
        rcases Nat.lt_or_ge j k with h | h
        · exact h
        · have h1 : k * Z ≤ j * Z := Nat.mul_le_mul_right _ h
          have := HN.out
          omega
      have rq5 := below_keeps HB.out R0.out (Array.getElem?_eq_some_iff.1 R0.out).1
      have k0 : wr.cell? ⟨qb, 0, none⟩ = some (.int .u32 0) := by rw [cell_of_row _ _ _ _ _ _ rq5]; rfl
      have k1 : wr.cell? ⟨qb, 1, none⟩ = some (.int .i64 0) := by rw [cell_of_row _ _ _ _ _ _ rq5]; rfl
      have k2 : wr.frozen? ⟨qb, 0, none⟩ = false := frozen_of_row _ _ _ _ _ rq5
      have k3 : wr.frozen? ⟨qb, 1, none⟩ = false := frozen_of_row _ _ _ _ _ rq5
      have R6 : Hid (((wr.setCell ⟨qb, 0, none⟩ (.int .u32 0)).setCell ⟨qb, 1, none⟩ (.int .i64 0)).heap[qb]? = some (.cells #[.int .u32 0, .int .i64 0] 25 (0, 0))) := set_two rq5
      have HB6 : Hid (Below w.heap.size w ((wr.setCell ⟨qb, 0, none⟩ (.int .u32 0)).setCell ⟨qb, 1, none⟩ (.int .i64 0))) :=
        ((HB0.out.trans (HB.out.mono HB0.out.size)).setCell (p := ⟨qb, 0, none⟩) (by rw [HQB.out]; exact Nat.le_refl _) _).setCell (p := ⟨qb, 1, none⟩) (by rw [HQB.out]; exact Nat.le_refl _) _
      clear rq5 c2 c5 c6 f6
      go_wp2_with fail
      generalize ((wr.setCell ⟨qb, 0, none⟩ (.int .u32 0)).setCell ⟨qb, 1, none⟩ (.int .i64 0)) = W at *
      have g0 : W.cell? ⟨qb, 0, none⟩ = some (.int .u32 0) := by rw [cell_of_row _ _ _ _ _ _ R6.out]; rfl
      have g1 : W.cell? ⟨qb, 1, none⟩ = some (.int .i64 0) := by rw [cell_of_row _ _ _ _ _ _ R6.out]; rfl
      refine bodyPost_ret (v := .tuple #[.agg #[.int .u32 0, .int .i64 0], .int .i64 4]) (by simp [results, Try.results42, go_sem, g0, g1]) rfl ?_
      exact .inr ⟨HALL.out, rfl, HB6.out⟩
end Go.Proofs.Ytahoileampdnkaa
