import Derived.Test.YtenhofbhkchjoaaA
import Derived.Laws.BitsAllLaws
namespace Go.Proofs.Ytenhofbhkchjoaa
open Go.ChangeShapes Go.WideShapes Go.ChangeAt Go.RowKit
set_option maxHeartbeats 400000

theorem and_u32 (x k : Nat) (hx : x < 4294967296) (hk : k ≤ 32) : bits .and .u32 (x : Int) ((M.mask k : Nat) : Int) = ((x % 2 ^ k : Nat) : Int) := by
  rw [u32_and_nat x (M.mask k) hx (M.mask_lt hk), M.and_mask]

theorem or_u32 (x k : Nat) (hx : x < 4294967296) (hk : k ≤ 32) (h : x % 2 ^ k = 0) : bits .or .u32 (x : Int) ((M.mask k : Nat) : Int) = ((x + 2 ^ k - 1 : Nat) : Int) := by
  rw [u32_or_nat x (M.mask k) hx (M.mask_lt hk), M.or_mask x k h]

theorem widest_any (x hi : Nat) (w : World) (hx : x ≤ hi) (hh : hi < 4294967296) :
    Calls Try.prog 23 #[.int .u32 x, .int .u32 hi] w fun e w' => ∃ k : Nat, e = .returned (.agg #[.int .u32 x, .int .i64 (32 - (k : Int))]) ∧ M.Wid x hi k ∧ Below w.heap.size w w' := by
  go_enter Try.func23, Try.ntmps23
  go_wp2
  go_loop [5] (fun t => ∃ k : Nat, k ≤ 32 ∧ t = .int .i64 (32 - (k : Int)) ∧ x % 2 ^ k = 0 ∧ x + 2 ^ k - 1 ≤ hi) (fun t => (intOf t).toNat)
  case atStart => exact ⟨0, by omega, by simp, by simp; omega, by simpa using hx⟩
  case round =>
    obtain ⟨k, hk, rfl, h1, h2⟩ := hrel
    have H1 : Hid (x % 2 ^ k = 0) := h1
    have H2 : Hid (x + 2 ^ k - 1 ≤ hi) := h2
    clear h1 h2
    by_cases hk0 : k < 32
    · have hA := and_u32 x (k + 1) (by omega) (by omega)
      by_cases c1 : x % 2 ^ (k + 1) = 0
      · have hO := or_u32 x (k + 1) (by omega) (by omega) c1
        rw [c1] at hA
        have C1 : Hid (x % 2 ^ (k + 1) = 0) := c1
        clear c1
        by_cases c2 : x + 2 ^ (k + 1) - 1 ≤ hi
        · go_wp2_with (go_at_call 33; refine (bits_any _ (k + 1) _ (by omega) (by omega)).mono ?_; rintro e w' ⟨rfl, rfl⟩)
          go_round
          case rel => exact ⟨k + 1, by omega, by go_num, C1.out, c2⟩
          case measure => simp [intOf]; omega
        · go_wp2_with (go_at_call 33; refine (bits_any _ (k + 1) _ (by omega) (by omega)).mono ?_; rintro e w' ⟨rfl, rfl⟩)
          refine bodyPost_ret (v := .agg #[.int .u32 x, .int .i64 (32 - (k : Int))]) (by simp [results, Try.results23, go_sem]) rfl ⟨k, rfl, ⟨hk, H1.out, H2.out, fun _ h => c2 h.2⟩, ?_⟩
          exact (Below.refl _ _).alloc (Nat.le_refl _) _
      · have hB : (bits .and .u32 (x : Int) ((M.mask (k + 1) : Nat) : Int) == 0) = false := by
          rw [hA]; exact beq_false_of_ne (fun h => c1 (by exact_mod_cast h))
        have C1 : Hid (¬ x % 2 ^ (k + 1) = 0) := c1
        clear c1 hA
        go_wp2_with (go_at_call 33; refine (bits_any _ (k + 1) _ (by omega) (by omega)).mono ?_; rintro e w' ⟨rfl, rfl⟩)
        refine bodyPost_ret (v := .agg #[.int .u32 x, .int .i64 (32 - (k : Int))]) (by simp [results, Try.results23, go_sem]) rfl ⟨k, rfl, ⟨hk, H1.out, H2.out, fun _ h => C1.out h.1⟩, ?_⟩
        exact (Below.refl _ _).alloc (Nat.le_refl _) _
    · obtain rfl : k = 32 := by omega
      go_wp2_with (go_at_call 33; refine (bits_any _ (k + 1) _ (by omega) (by omega)).mono ?_; rintro e w' ⟨rfl, rfl⟩)
      refine bodyPost_ret (v := .agg #[.int .u32 x, .int .i64 0]) (by simp [results, Try.results23, go_sem]) rfl ⟨32, rfl, ⟨hk, H1.out, H2.out, fun h => absurd h hk0⟩, ?_⟩
      exact (Below.refl _ _).alloc (Nat.le_refl _) _

theorem below_drewN {B : Nat} {a w : World} (h : Below B a w) (n : Nat) : Below B a (w.drewN n) := ⟨h.os, h.tape, h.output, h.size, h.block⟩

theorem lastOf_any (x k : Nat) (w : World) (hx : x < 4294967296) (hk : k ≤ 32) (hm : x % 2 ^ k = 0) :
    Calls Try.prog 24 #[.agg #[.int .u32 x, .int .i64 (32 - (k : Int))]] w fun e w' => e = .returned (.int .u32 ((x + 2 ^ k - 1 : Nat) : Int)) ∧ Below w.heap.size w w' := by
  have hO := or_u32 x k hx hk hm
  have HO : Hid (bits .or .u32 (x : Int) ((M.mask k : Nat) : Int) = ((x + 2 ^ k - 1 : Nat) : Int)) := hO
  clear hO
  go_enter Try.func24, Try.ntmps24
  go_wp2
  go_quiet ((go_at_call 33; exact Calls.quiet_of_same (bits_any _ k _ (by omega) hk)))
  go_wp2
  go_ret
  exact ⟨ret_int HO.out, below_drewN ((Below.refl _ _).alloc (Nat.le_refl _) _) _⟩

def pc (p : Nat × Nat) : List Value := [.int .u32 (p.1 : Int), .int .i64 (32 - (p.2 : Int))]
def cells (L : List (Nat × Nat)) : List Value := L.flatMap pc

theorem cells_len (L : List (Nat × Nat)) : (cells L).length = L.length * 2 := by
  induction L with
  | nil => rfl
  | cons p L ih => simp only [cells, List.flatMap_cons, List.length_append, List.length_cons] at ih ⊢; rw [ih]; simp [pc]; omega

theorem cells_snoc (L : List (Nat × Nat)) (x k : Nat) : cells L ++ [.int .u32 (x : Int), .int .i64 (32 - (k : Int))] = cells (L ++ [(x, k)]) := by
  simp [cells, pc]

theorem below_grown {w w' : World} (h : Below w.heap.size w w') (row : Option Nat) : w.grownBy w' row := ⟨h.os, h.tape, h.output, h.size, fun k hk _ => h.block k hk⟩

theorem owns_below {w w' : World} {base : Nat} {e : TypeId} {size : Nat} {v : Value} {n : Nat} {xs : List Value} (h : w.ownsRow base e size v n xs) (hb : Below w.heap.size w w') : w'.ownsRow base e size v n xs :=
  h.kept (below_grown hb none) (by cases hv : v.ownBlock <;> simp)

theorem Try.info30 : (Try.prog.info? 30).map (fun i => (i.zero, i.size, i.bytes)) = some (some (.agg #[.int .u32 0, .int .i64 0]), 2, 16) := by kernel_rfl

theorem two_at {W : World} {n : Nat} (hn : W.heap.size = n) (a b : Value) (T : TypeId) : ∀ (j : Nat) (u : Value), [a, b][j]? = some u → (W.alloc (.cells #[a, b] T)).cell? ((⟨n, 0, none⟩ : Addr).add j) = some u := by
  subst hn
  intro j u hj
  match j, hj with
  | 0, hj => simp at hj; subst hj; simp [Addr.add]
  | 1, hj => simp at hj; subst hj; simp [Addr.add]

theorem cover_step {w wr w1 w2 : World} {v : Value} {n : Nat} {xs : List Value} {a b : Value} {o2 : Obj} (hb : Below w.heap.size w wr) (hb1 : Below wr.heap.size wr w1)
    (hown : wr.ownsRow w.heap.size 30 2 v n xs) (hg : ((w1.alloc (.cells #[a, b] 30)).alloc o2).grownBy w2 v.ownBlock) :
    Below w.heap.size w w2 ∧ w2.cell? ⟨w1.heap.size, 0, none⟩ = some a ∧ w2.cell? ⟨w1.heap.size, 1, none⟩ = some b ∧ w1.heap.size + 2 ≤ w2.heap.size := by
  have h0 := hb.size
  have h1 := hb1.size
  have h2 := hg.size
  simp at h2
  have hrow : ∀ k, v.ownBlock = some k → w.heap.size ≤ k ∧ k < wr.heap.size := hown.lt
  have hblk : w2.heap[w1.heap.size]? = some (.cells #[a, b] 30) := by
    rw [hg.block w1.heap.size (by simp; omega) (fun e => by have := hrow _ e.symm; omega)]
    rw [Below.heap_alloc _ _ _ (by simp)]
    exact heap_alloc_new w1 _
  refine ⟨?_, ?_, ?_, by omega⟩
  · exact ((((hb.trans (hb1.mono h0)).alloc (by omega) _).alloc (by simp; omega) _).grown hg (by simp; omega) (fun k hk => (hrow k hk).1))
  · rw [cell_of_row w2 _ 0 _ _ _ hblk]; rfl
  · rw [cell_of_row w2 _ 1 _ _ _ hblk]; rfl

theorem cover_any (lo hi : Nat) (w : World) (hl : lo < 4294967296) (hh : hi < 4294967296) :
    Calls Try.prog 9 #[.int .u32 lo, .int .u32 hi] w fun e w' => ∃ v, e = .returned v ∧ w'.ownsRow w.heap.size 30 2 v (M.cv lo hi).length (cells (M.cv lo hi)) ∧ Below w.heap.size w w' := by
  obtain ⟨i0, hi0, hz0, hz1, hz2⟩ := info_parts Try.info30
  have HI : Hid (Try.prog.info? 30 = some i0) := hi0
  clear hi0
  go_enter Try.func9, Try.ntmps9
  go_wp2
  go_loopw [0, 5] (fun t v wr => ∃ (x : Nat) (acc : List (Nat × Nat)), t = .int .u32 x ∧ x < 4294967296 ∧ Hid (acc ++ M.cv x hi = M.cv lo hi) ∧ wr.ownsRow w.heap.size 30 2 v acc.length (cells acc) ∧ Below w.heap.size w wr) (fun t _ _ => hi + 1 - (intOf t).toNat)
  case atStart => exact ⟨lo, [], rfl, hl, rfl, World.ownsRow_nil _ _ _ _, Below.refl _ _⟩
  case round =>
    obtain ⟨x, acc, rfl, hx, H, hown, hb⟩ := hrel
    by_cases hle : x ≤ hi
    · go_wp2_with fail
      refine (widest_any x hi _ hle hh).mono ?_
      rintro e w1 ⟨k, rfl, hw, hb1⟩
      have HW : Hid (M.Wid x hi k) := hw
      have HE : Hid (M.cv x hi = (x, k) :: M.cv (x + 2 ^ k) hi) := M.cv_step hx hw
      have hk : k ≤ 32 := hw.1
      clear hw
      have hown1 := owns_below hown hb1
      have hs1 := hb1.size
      have hlen : acc.length ≤ 62 := by
        have h1 := M.cv_len lo hi
        rw [← H.out, List.length_append] at h1; omega
      go_wp2_with (at_builtin; refine wpList_append_own _ rfl _ _ 25 rfl w.heap.size 30 i0 (.agg #[.int .u32 0, .int .i64 0]) 2 16 Try.underlying25 HI.out hz0 hz1 hz2 rfl (by decide) _ _ _ rfl ((hown1.alloc _).alloc _) ⟨w1.heap.size + 1, 0, none⟩ 1 1 [.int .u32 x, .int .i64 (32 - (k : Int))] rfl rfl ?c1 ?c2 ?c3 ?c4 ?c5 ?_)
      case c1 => exact two_at (by simp) _ _ _
      case c2 => intro u hu; simp at hu; rcases hu with rfl | rfl <;> rfl
      case c3 => unfold maxLen; omega
      case c4 => omega
      case c5 => have := hb.size; simp; omega
      · intro v' w2 hown2 hgrow _
        obtain ⟨hb2, hc0, hc1, hs2⟩ := cover_step hb hb1 hown hgrow
        rw [cells_snoc] at hown2
        clear hgrow hown1 hown
        have hm0 := HW.out.2.1
        have hm1 := HW.out.2.2.1
        have HM0 : Hid (x % 2 ^ k = 0) := hm0
        clear hm0
        go_wp2_with fail
        refine (lastOf_any x k _ hx hk HM0.out).mono ?_
        rintro e w3 ⟨rfl, hb3⟩
        have hpk := Nat.two_pow_pos k
        have hown3 := owns_below hown2 hb3
        have hb4 : Below w.heap.size w w3 := hb2.trans (hb3.mono hb2.size)
        generalize hm : x + 2 ^ k - 1 = m at hm1 ⊢
        have HM : Hid (x + 2 ^ k = m + 1 ∧ x ≤ m) := ⟨by omega, by omega⟩
        have hxm : x ≤ m := HM.out.2
        clear hm hpk hown2 hc0 hc1 hb2 hb3
        by_cases hmh : m = hi
        · have hq : ((m : Int) == (hi : Int)) = true := by simp [hmh]
          have HF : Hid (acc ++ [(x, k)] = M.cv lo hi) := by
            have h1 := H.out
            rw [HE.out, HM.out.1, hmh, M.cv_gt (by omega)] at h1
            exact h1
          clear hmh
          go_wp2_with fail
          go_ret
          exact ⟨_, rfl, by rw [← HF.out, List.length_append]; exact hown3, hb4⟩
        · have hlt : m < hi := by omega
          have hq : ((m : Int) == (hi : Int)) = false := by simp; omega
          have HF : Hid ((acc ++ [(x, k)]) ++ M.cv (m + 1) hi = M.cv lo hi) := by
            have h1 := H.out
            rw [HE.out, HM.out.1] at h1
            rw [List.append_assoc]; exact h1
          clear hmh
          go_wp2_with fail
          go_roundw
          case rel => exact ⟨m + 1, acc ++ [(x, k)], by go_num, by omega, HF, by rw [List.length_append]; exact hown3, hb4⟩
          case measure => simp [intOf]; omega
    · go_wp2_with fail
      go_ret
      refine ⟨_, rfl, ?_, hb⟩
      have h1 := H.out
      rw [M.cv_gt (by omega), List.append_nil] at h1
      rw [← h1]; exact hown
end Go.Proofs.Ytenhofbhkchjoaa
