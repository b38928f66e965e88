import Derived.Test.YtenhofbhkchjoaaW
import Derived.Test.YtenhofbhkchjoaaMath3
namespace Go.Proofs.Ytenhofbhkchjoaa
open Go.ChangeShapes Go.WideShapes Go.ChangeAt Go.RowKit
set_option maxHeartbeats 400000

theorem block_bad (x : Nat) (n : Int) (w : World) (hx : x < 4294967296) (he : err (x, n) ≠ 0) :
    Calls Try.prog 10 #[.agg #[.int .u32 x, .int .i64 n]] w fun e w' => e = .returned (.tuple #[.int .i64 (-1), .int .i64 (-1)]) ∧ Below w.heap.size w w' := by
  by_cases h1 : n < 0
  · clear he
    go_enter Try.func10, Try.ntmps10
    go_wp2
    go_ret2
    exact ⟨rfl, (Below.refl _ _).alloc (Nat.le_refl _) _⟩
  · by_cases h2 : 32 < n
    · clear he
      go_enter Try.func10, Try.ntmps10
      go_wp2
      go_ret2
      exact ⟨rfl, (Below.refl _ _).alloc (Nat.le_refl _) _⟩
    · obtain ⟨k, hk, rfl⟩ : ∃ k : Nat, k ≤ 32 ∧ n = 32 - (k : Int) := ⟨32 - n.toNat, by omega, by omega⟩
      obtain ⟨P, hP, hPk, hP0, hP1⟩ := wrap_pow (32 - (32 - k)) k (by omega) (by omega)
      have hm : x % 2 ^ k ≠ 0 := by
        intro e
        apply he
        unfold err; rw [if_neg (by simp; omega)]
        simp only
        rw [show 32 - (32 - (k : Int)).toNat = k from by omega, if_pos e]
      have hq : ((x : Int) % P != 0) = true := by
        rw [hPk, bne_iff_ne]; intro e; exact hm (by exact_mod_cast e)
      clear he hm hPk
      go_enter Try.func10, Try.ntmps10
      go_wp2
      go_ret2
      exact ⟨rfl, (Below.refl _ _).alloc (Nat.le_refl _) _⟩

theorem sound_any (v : Value) (L : List (Nat × Int)) (w : World) (hs : Sees w v L) (ha : Adr L) :
    Calls Try.prog 19 #[v] w fun e w' => e = .returned (.bool (decide (firstErr L = 0))) ∧ Below w.heap.size w w' := by
  obtain ⟨ao, n, cap, rfl, HN, hnc, hcap⟩ := hs.shape
  have HA : Hid (Adr L) := ha
  unfold maxLen at hcap
  clear ha
  go_enter Try.func19, Try.ntmps19
  go_wp2
  go_loopw [3] (fun i wr => ∃ j : Nat, i = .int .i64 j ∧ j ≤ n ∧ Hid (Good (L.take j)) ∧ Below w.heap.size w wr) (fun i _ => n - (intOf i).toNat)
  case atStart => exact ⟨0, rfl, by omega, by simp [Hid, Good], Below.refl _ _⟩
  case round =>
    obtain ⟨j, rfl, hj, HG, hbr⟩ := hrel
    by_cases hjn : j < n
    · obtain ⟨g, off, p, rfl, hg, c0, c1, HP⟩ := (hs.below hbr).at j hjn
      obtain ⟨x, ln⟩ := p
      have hx : x < 4294967296 := HA.out _ (List.mem_of_getElem? HP.out)
      simp only at c0 c1
      by_cases he : err (x, ln) = 0
      · have HG2 : Hid (Good (L.take (j + 1))) := by
          have e1 := HP.out
          have e2 : L.take (j + 1) = L.take j ++ [(x, ln)] := by rw [List.take_add_one, e1]; rfl
          unfold Hid; rw [e2]; intro q hq
          rcases List.mem_append.1 hq with hq | hq
          · exact HG.out q hq
          · simp at hq; subst hq; exact ⟨hx, he⟩
        obtain ⟨k, hk, h2, h3⟩ := err_ok he
        simp only at h2 h3
        subst h2
        have H3 : Hid (x % 2 ^ k = 0) := h3
        clear he h3
        go_wp2_with fail
        refine (block_ok x k _ (top_of x k hx hk H3.out) hk H3.out).mono ?_
        rintro e w1 ⟨rfl, hb1⟩
        generalize x + 2 ^ k - 1 = m
        go_wp2_with fail
        go_roundw
        case rel => exact ⟨j + 1, by go_num, by omega, HG2, hbr.trans (hb1.mono hbr.size)⟩
        case measure => simp [intOf]; omega
      · have HE : Hid (decide (firstErr L = 0) = false) := by
          unfold Hid; rw [firstErr_at L j _ HP.out (fun q hq => (HG.out q hq).2) he]; simp [he]
        have HE2 : Hid (err (x, ln) ≠ 0) := he
        clear he
        go_wp2_with fail
        refine (block_bad x ln _ hx HE2.out).mono ?_
        rintro e w1 ⟨rfl, hb1⟩
        go_wp2_with fail
        go_ret
        exact ⟨ret_bool HE.out.symm, hbr.trans (hb1.mono hbr.size)⟩
    · have e1 : L.take j = L := List.take_of_length_le (by have := HN.out; omega)
      rw [e1] at HG
      have HE : Hid (decide (firstErr L = 0) = true) := by unfold Hid; simp [firstErr_none L (fun q hq => (HG.out q hq).2)]
      go_wp2_with fail
      go_ret
      exact ⟨ret_bool HE.out.symm, hbr⟩

def inB (z : Int) (p : Nat × Int) : Bool := decide (((iv p).1 : Int) ≤ z) && decide (z ≤ ((iv p).2 : Int))
def hz (D : List (Nat × Int)) (z : Int) : Bool := D.any (inB z)

theorem had_any (v : Value) (D : List (Nat × Int)) (z : Int) (w : World) (hs : Sees w v D) (hg : Good D) :
    Calls Try.prog 29 #[v, .int .i64 z] w fun e w' => e = .returned (.bool (hz D z)) ∧ Below w.heap.size w w' := by
  obtain ⟨ao, n, cap, rfl, HN, hnc, hcap⟩ := hs.shape
  have HG : Hid (Good D) := hg
  unfold maxLen at hcap
  clear hg
  go_enter Try.func29, Try.ntmps29
  go_wp2
  go_loopw [5] (fun i wr => ∃ j : Nat, i = .int .i64 j ∧ j ≤ n ∧ Hid ((D.take j).any (inB z) = false) ∧ Below w.heap.size w wr) (fun i _ => n - (intOf i).toNat)
  case atStart => exact ⟨0, rfl, by omega, by simp [Hid], Below.refl _ _⟩
  case round =>
    obtain ⟨j, rfl, hj, HF, hbr⟩ := hrel
    by_cases hjn : j < n
    · obtain ⟨g, off, p, rfl, hg, c0, c1, HP⟩ := (hs.below hbr).at j hjn
      obtain ⟨x, k, rfl, hx, hk, hm, hiv, htop, hpos⟩ := good_k HG.out HP.out
      simp only at c0 c1
      obtain ⟨m, hmm⟩ : ∃ m, m = x + pw k - 1 := ⟨_, rfl⟩
      have HMM : Hid (x + 2 ^ k - 1 = m) := hmm.symm
      have HB : Hid (inB z (x, 32 - (k : Int)) = (decide ((x : Int) ≤ z) && decide (z ≤ (m : Int)))) := by
        unfold Hid inB; rw [hiv, ← hmm]
      have H3 : Hid (x % 2 ^ k = 0) := hm
      have HT : Hid (x + pw k ≤ 4294967296) := htop
      have HTK : Hid (D.take (j + 1) = D.take j ++ [(x, 32 - (k : Int))]) := by have e1 := HP.out; unfold Hid; rw [List.take_add_one, e1]; rfl
      have hx0 : (0 : Int) ≤ (x : Int) := by omega
      clear hmm hiv hm htop
      go_wp2_with fail
      refine (block_ok x k _ HT.out hk H3.out).mono ?_
      rintro e w1 ⟨rfl, hb1⟩
      rw [HMM.out]
      have hb2 : Below w.heap.size w w1 := hbr.trans (hb1.mono hbr.size)
      by_cases h1 : (x : Int) ≤ z
      · by_cases h2 : z ≤ (m : Int)
        · have HR : Hid (hz D z = true) := by
            unfold Hid hz; rw [List.any_eq_true]
            exact ⟨_, List.mem_of_getElem? HP.out, by rw [HB.out]; simp [h1, h2]⟩
          go_wp2_with fail
          go_ret
          exact ⟨ret_bool HR.out.symm, hb2⟩
        · have HN2 : Hid ((D.take (j + 1)).any (inB z) = false) := by
            unfold Hid; rw [HTK.out, List.any_append, HF.out]; simp [HB.out, h2]
          go_wp2_with fail
          go_roundw
          case rel => exact ⟨j + 1, by go_num, by omega, HN2, hb2⟩
          case measure => simp [intOf]; omega
      · have HN2 : Hid ((D.take (j + 1)).any (inB z) = false) := by
          unfold Hid; rw [HTK.out, List.any_append, HF.out]; simp [HB.out, h1]
        go_wp2_with fail
        go_roundw
        case rel => exact ⟨j + 1, by go_num, by omega, HN2, hb2⟩
        case measure => simp [intOf]; omega
    · have e1 : D.take j = D := List.take_of_length_le (by have := HN.out; omega)
      rw [e1] at HF
      go_wp2_with fail
      go_ret
      exact ⟨ret_bool HF.out.symm, hbr⟩
end Go.Proofs.Ytenhofbhkchjoaa
