import Derived.Test.YtenhofbhkchjoaaF
namespace Go.Proofs.Ytenhofbhkchjoaa
open Go.ChangeShapes Go.WideShapes Go.ChangeAt Go.RowKit
set_option maxHeartbeats 400000

/-- Valid prefixes, all of them. -/
def Good (D : List (Nat × Int)) : Prop := ∀ p, p ∈ D → p.1 < 4294967296 ∧ err p = 0

theorem good_k {D : List (Nat × Int)} (h : Good D) {j : Nat} {p : Nat × Int} (hj : D[j]? = some p) :
    ∃ x k : Nat, p = (x, 32 - (k : Int)) ∧ x < 4294967296 ∧ k ≤ 32 ∧ x % 2 ^ k = 0 ∧ iv p = (x, x + pw k - 1) ∧ x + pw k ≤ 4294967296 ∧ 0 < pw k := by
  have hm := h p (List.mem_of_getElem? hj)
  obtain ⟨k, hk, h2, h3⟩ := err_ok hm.2
  have e : p = (p.1, 32 - (k : Int)) := Prod.ext rfl h2
  exact ⟨p.1, k, e, hm.1, hk, h3, by rw [e]; exact iv_k p.1 k hk, top_of p.1 k hm.1 hk h3, pw_pos k⟩

theorem drop_at {D : List (Nat × Int)} {j : Nat} {p : Nat × Int} (h : D[j]? = some p) : (D.map iv).drop j = iv p :: (D.map iv).drop (j + 1) := by
  have hj : j < D.length := (List.getElem?_eq_some_iff.1 h).1
  have e := (List.getElem?_eq_some_iff.1 h).2
  rw [List.drop_eq_getElem_cons (by simpa using hj)]
  simp [e]

theorem fr_step {I : List (Nat × Nat)} {j h y z h0 : Nat} (hj : 1 ≤ j) (hd : I.drop j = (y, z) :: I.drop (j + 1)) (hf : M.fr h0 (I.drop 1) = ((M.fr h (I.drop j)).1, (M.fr h (I.drop j)).2 + (j - 1))) (hy : y ≤ h + 1) :
    M.fr h0 (I.drop 1) = ((M.fr (max h z) (I.drop (j + 1))).1, (M.fr (max h z) (I.drop (j + 1))).2 + (j + 1 - 1)) := by
  rw [hd] at hf
  simp only [M.fr] at hf
  rw [if_pos hy] at hf
  rw [hf]; simp; omega

theorem fr_stop {I : List (Nat × Nat)} {j h y z h0 : Nat} (hj : 1 ≤ j) (hd : I.drop j = (y, z) :: I.drop (j + 1)) (hf : M.fr h0 (I.drop 1) = ((M.fr h (I.drop j)).1, (M.fr h (I.drop j)).2 + (j - 1))) (hy : ¬ y ≤ h + 1) :
    (h, j) = ((M.fr h0 (I.drop 1)).1, (M.fr h0 (I.drop 1)).2 + 1) := by
  rw [hd] at hf
  simp only [M.fr] at hf
  rw [if_neg hy] at hf
  rw [hf]; simp; omega

theorem fr_end {I : List (Nat × Nat)} {j h h0 : Nat} (hj : 1 ≤ j) (hd : I.drop j = []) (hf : M.fr h0 (I.drop 1) = ((M.fr h (I.drop j)).1, (M.fr h (I.drop j)).2 + (j - 1))) :
    (h, j) = ((M.fr h0 (I.drop 1)).1, (M.fr h0 (I.drop 1)).2 + 1) := by
  rw [hd] at hf
  simp only [M.fr] at hf
  rw [hf]; simp; omega

theorem max_int (h z : Nat) : Value.int .u32 (if h < z then (z : Int) else (h : Int)) = .int .u32 ((max h z : Nat) : Int) := by
  congr 1
  split <;> omega

theorem firstRun_any (v : Value) (D : List (Nat × Int)) (w : World) (hs : Sees w v D) (hg : Good D) (hne : D ≠ []) :
    Calls Try.prog 28 #[v] w fun e w' => ∃ hi n : Nat, e = .returned (.tuple #[.int .u32 hi, .int .i64 n]) ∧ hi < 4294967296 ∧ Hid ((hi, n) = ((M.fr (iv (D.headD (0, 0))).2 ((D.map iv).drop 1)).1, (M.fr (iv (D.headD (0, 0))).2 ((D.map iv).drop 1)).2 + 1)) ∧ Below w.heap.size w w' := by
  obtain ⟨ao, n, cap, rfl, HN, hnc, hcap⟩ := hs.shape
  unfold maxLen at hcap
  have hn : 0 < n := by rw [HN.out]; exact List.length_pos_iff.2 hne
  obtain ⟨g, off, p, rfl, hg0, c0, c1, HP⟩ := hs.at 0 hn
  obtain ⟨x, k, rfl, hx, hk, hm, hiv, htop, hpos⟩ := good_k hg HP.out
  have hhead : D.headD (0, 0) = (x, 32 - (k : Int)) := by
    cases D with
    | nil => exact absurd rfl hne
    | cons q t => have := HP.out; simpa using this
  obtain ⟨h0, hh⟩ : ∃ h0, h0 = x + pw k - 1 := ⟨_, rfl⟩
  rw [hhead, hiv, ← hh]
  have HH : Hid (x + 2 ^ k - 1 = h0) := hh.symm
  have hh0 : h0 < 4294967296 := by omega
  have HG : Hid (Good D) := hg
  have HM : Hid (x % 2 ^ k = 0) := hm
  simp only [Nat.zero_mul, Nat.add_zero] at c0 c1
  clear hg hm hiv hhead hne hh
  go_enter Try.func28, Try.ntmps28
  go_wp2_with fail
  refine (lastOf_any x k _ hx hk HM.out).mono ?_
  rintro e w1 ⟨rfl, hb1⟩
  rw [HH.out]
  clear c0 c1
  go_wp2_with fail
  go_loopw [4, 5] (fun t i wr => ∃ h j : Nat, t = .int .u32 h ∧ i = .int .i64 j ∧ 1 ≤ j ∧ j ≤ n ∧ h < 4294967296 ∧ Hid (M.fr h0 ((D.map iv).drop 1) = ((M.fr h ((D.map iv).drop j)).1, (M.fr h ((D.map iv).drop j)).2 + (j - 1))) ∧ Below w.heap.size w wr) (fun _ i _ => n - (intOf i).toNat)
  case atStart => exact ⟨h0, 1, rfl, rfl, by omega, by omega, hh0, by simp [Hid], hb1⟩
  case round =>
    obtain ⟨h, j, rfl, rfl, hj1, hjn, hh32, HF, hbr⟩ := hrel
    by_cases hlt : j < n
    · obtain ⟨g', off', q, hao, hg', d0, d1, HQ⟩ := (hs.below hbr).at j hlt
      simp at hao
      obtain ⟨rfl, rfl⟩ := hao
      obtain ⟨y, l, rfl, hy, hl, hml, hivl, htopl, hposl⟩ := good_k HG.out HQ.out
      have HML : Hid (y % 2 ^ l = 0) := hml
      have hd := drop_at HQ.out
      rw [hivl] at hd
      have HD : Hid ((D.map iv).drop j = (y, y + pw l - 1) :: (D.map iv).drop (j + 1)) := hd
      clear hml hivl hd
      simp only at d0 d1
      obtain ⟨z, hz⟩ : ∃ z, z = y + pw l - 1 := ⟨_, rfl⟩
      have hz32 : z < 4294967296 := by omega
      rw [← hz] at HD
      have HZ : Hid (y + 2 ^ l - 1 = z) := hz.symm
      clear hz
      by_cases ha : y ≤ h
      · go_wp2_with fail
        refine (lastOf_any y l _ hy hl HML.out).mono ?_
        rintro e w2 ⟨rfl, hb2⟩
        rw [HZ.out]
        go_wp2_with fail
        go_roundw
        case rel => exact ⟨max h z, j + 1, max_int h z, by go_num, by omega, by omega, by omega, fr_step hj1 HD.out HF.out (by omega), hbr.trans (hb2.mono hbr.size)⟩
        case measure => simp [intOf]; omega
      · by_cases hb : y = h + 1
        · have hq : ((y : Int) == (h : Int) + 1) = true := by simp; omega
          have hh1 : h + 1 < 4294967296 := by omega
          have hyl : y ≤ h + 1 := by omega
          clear hb
          go_wp2_with fail
          refine (lastOf_any y l _ hy hl HML.out).mono ?_
          rintro e w2 ⟨rfl, hb2⟩
          rw [HZ.out]
          go_wp2_with fail
          go_roundw
          case rel => exact ⟨max h z, j + 1, max_int h z, by go_num, by omega, by omega, by omega, fr_step hj1 HD.out HF.out hyl, hbr.trans (hb2.mono hbr.size)⟩
          case measure => simp [intOf]; omega

        · have hq : ((y : Int) == (h : Int) + 1) = false := by simp; omega
          have hh1 : h + 1 < 4294967296 := by omega
          go_wp2_with fail
          go_ret2
          exact ⟨h, j, rfl, hh32, fr_stop hj1 HD.out HF.out (by omega), hbr⟩
    · have hd : (D.map iv).drop j = [] := List.drop_eq_nil_of_le (by have := HN.out; simp; omega)
      go_wp2_with fail
      go_ret2
      exact ⟨h, j, rfl, hh32, fr_end hj1 hd HF.out, hbr⟩
end Go.Proofs.Ytenhofbhkchjoaa
