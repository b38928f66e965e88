import Derived.Test.YtenhofbhkchjoaaX
namespace Go.Proofs.Ytenhofbhkchjoaa
open Go.ChangeShapes Go.WideShapes Go.ChangeAt Go.RowKit
set_option maxHeartbeats 400000

theorem Try.info3 : (Try.prog.info? 3).map (fun i => (i.zero, i.size, i.bytes)) = some (some (.int .i64 0), 1, 8) := by kernel_rfl

theorem four_at {W : World} {n : Nat} (hn : W.heap.size = n) (a b c d : Value) (T : TypeId) : ∀ (j : Nat) (u : Value), [a, b, c, d][j]? = some u → (W.alloc (.cells #[a, b, c, d] T)).cell? ((⟨n, 0, none⟩ : Addr).add j) = some u := by
  subst hn
  intro j u hj
  match j, hj with
  | 0, hj => simp at hj; subst hj; simp [Addr.add]
  | 1, hj => simp at hj; subst hj; simp [Addr.add]
  | 2, hj => simp at hj; subst hj; simp [Addr.add]
  | 3, hj => simp at hj; subst hj; simp [Addr.add]

theorem one_at {W : World} {n : Nat} (hn : W.heap.size = n) (a : Value) (T : TypeId) : ∀ (j : Nat) (u : Value), [a][j]? = some u → (W.alloc (.cells #[a] T)).cell? ((⟨n, 0, none⟩ : Addr).add j) = some u := by
  subst hn
  intro j u hj
  match j, hj with
  | 0, hj => simp at hj; subst hj; simp [Addr.add]

/-- A row of the call's own that holds ints. -/
def OwnInts (w : World) (B : Nat) (v : Value) (Z : List Int) : Prop := w.ownsRow B 3 1 v Z.length (Z.map (Value.int .i64))

theorem ints_shape {w : World} {B : Nat} {v : Value} {Z : List Int} (h : OwnInts w B v Z) : ∃ ao cap, v = .slice ao Z.length cap ∧ Z.length ≤ cap ∧ cap ≤ maxLen ∧ ∀ j, j < Z.length → ∃ g z, ao = some ⟨g, 0, none⟩ ∧ w.cell? ⟨g, j, none⟩ = some (.int .i64 z) := by
  have h0 := h
  rcases h.2 with ⟨rfl, hn⟩ | ⟨g, cap, cur, rfl, hb, hg, hnc, hcm, hcs, htake⟩
  · exact ⟨none, 0, by rw [hn], by omega, by unfold maxLen; omega, fun j hj => by omega⟩
  · refine ⟨_, cap, rfl, hnc, hcm, fun j hj => ⟨g, Z[j], rfl, ?_⟩⟩
    rw [h0.cellAt j (by omega)]
    simp [hj]

set_option maxHeartbeats 2000000 in
theorem agree_any (v v' : Value) (D D' : List (Nat × Int)) (z : Int) (w : World) (hs : Sees w v D) (hs' : Sees w v' D') (hg : Good D) (hg' : Good D') (hq : ∀ z, hz D z = hz D' z) :
    Calls Try.prog 20 #[v, v', .int .i64 z] w fun e w' => e = .returned (.bool true) ∧ Below w.heap.size w w' := by
  obtain ⟨ao, n, cap, rfl, HN, hnc, hcap⟩ := hs.shape
  obtain ⟨ao', n', cap', rfl, HN', hnc', hcap'⟩ := hs'.shape
  have HG : Hid (Good D) := hg
  have HG' : Hid (Good D') := hg'
  have HQ : Hid (∀ z, hz D z = hz D' z) := hq
  unfold maxLen at hcap hcap'
  obtain ⟨i0, hi0, hz0, hz1, hz2⟩ := info_parts Try.info3
  have HI : Hid (Try.prog.info? 3 = some i0) := hi0
  clear hi0 hg hg' hq
  go_enter Try.func20, Try.ntmps20
  go_wp2_with (at_builtin; refine wpList_append_own _ rfl _ _ 52 rfl w.heap.size 3 i0 (.int .i64 0) 1 8 Try.underlying52 HI.out hz0 hz1 hz2 rfl (by decide) _ _ _ rfl ((World.ownsRow_nil w w.heap.size 3 1).alloc _) ⟨w.heap.size, 0, none⟩ 1 1 [.int .i64 z] rfl rfl ?a1 ?a2 ?a3 ?a4 ?a5 ?_)
  case a1 => exact one_at rfl _ _
  case a2 => intro u hu; simp at hu; subst hu; rfl
  case a3 => unfold maxLen; omega
  case a4 => omega
  case a5 => simp
  · intro va wa howna hga _
    have hba : Below w.heap.size w wa := ((Below.refl _ w).alloc (Nat.le_refl _) _).grown hga (by simp) (by intro k hk; simp [Value.ownBlock] at hk)
    have hZ : OwnInts wa w.heap.size va [z] := howna
    clear hga howna
    go_wp2_with fail
    go_loopw [7, 8] (fun t i wr => ∃ (j : Nat) (Z : List Int), i = .int .i64 j ∧ j ≤ 40 ∧ j ≤ n ∧ Z.length ≤ 1 + 4 * j ∧ OwnInts wr w.heap.size t Z ∧ Below w.heap.size w wr) (fun _ i _ => 40 - (intOf i).toNat)
    case atStart => exact ⟨0, [z], rfl, by omega, by omega, by simp, hZ, hba⟩
    case round =>
      obtain ⟨j, Z, rfl, hj40, hjn, hZl, hown, hbr⟩ := hrel
      by_cases hgo : j < n ∧ j < 40
      · obtain ⟨hlt, hlt40⟩ := hgo
        obtain ⟨g, off, p, rfl, hg, c0, c1, HP⟩ := (hs.below hbr).at j hlt
        obtain ⟨x, k, rfl, hx, hk, hm, hiv, htop, hpos⟩ := good_k HG.out HP.out
        simp only at c0 c1
        have H3 : Hid (x % 2 ^ k = 0) := hm
        have HT : Hid (x + pw k ≤ 4294967296) := htop
        have hm32 : x + 2 ^ k - 1 < 4294967296 := by have h5 : x + 2 ^ k ≤ 4294967296 := htop; have := Nat.two_pow_pos k; omega
        clear hiv hm htop
        go_wp2_with fail
        refine (block_ok x k _ HT.out hk H3.out).mono ?_
        rintro e w1 ⟨rfl, hb1⟩
        generalize x + 2 ^ k - 1 = m at hm32 ⊢
        have hown1 : w1.ownsRow w.heap.size 3 1 _ _ _ := owns_below hown hb1
        have hbr1 : Below w.heap.size w w1 := hbr.trans (hb1.mono hbr.size)
        go_wp2_with (at_builtin; refine wpList_append_own _ rfl _ _ 52 rfl w.heap.size 3 i0 (.int .i64 0) 1 8 Try.underlying52 HI.out hz0 hz1 hz2 rfl (by decide) _ _ _ rfl (hown1.alloc _) ⟨w1.heap.size, 0, none⟩ 4 4 [.int .i64 (x : Int), .int .i64 (m : Int), .int .i64 ((x : Int) - 1), .int .i64 ((m : Int) + 1)] rfl rfl ?c1 ?c2 ?c3 ?c4 ?c5 ?_)
        case c1 => exact four_at rfl _ _ _ _ _
        case c2 => intro u hu; simp at hu; rcases hu with rfl | rfl | rfl | rfl <;> rfl
        case c3 => unfold maxLen; omega
        case c4 => omega
        case c5 => have := hbr1.size; simp; omega
        · intro m3 w3 hown3 hgrow _
          have hb3 := run_step (q := 0) hbr1.size hbr1 hown1 hgrow
          have hown4 : OwnInts w3 w.heap.size m3 (Z ++ [(x : Int), (m : Int), (x : Int) - 1, (m : Int) + 1]) := by
            unfold OwnInts; rw [List.length_append, List.map_append]; exact hown3
          clear hgrow hown hown1 hown3
          go_wp2_with fail
          go_roundw
          case rel => exact ⟨j + 1, _, by go_num, by omega, by omega, by rw [List.length_append]; simp; omega, hown4, hb3⟩
          case measure => simp [intOf]; omega
      · have hno : ¬ (j < n) ∨ (j < n ∧ ¬ j < 40) := by omega
        have hZl2 : Z.length ≤ 161 := by omega
        clear hgo
        rcases hno with hno | ⟨hno1, hno⟩
        all_goals
          go_wp2_with fail
          go_loopw [7, 11] (fun t i wr => ∃ (j : Nat) (Z : List Int), i = .int .i64 j ∧ j ≤ 40 ∧ j ≤ n' ∧ Z.length ≤ 161 + 4 * j ∧ OwnInts wr w.heap.size t Z ∧ Below w.heap.size w wr) (fun _ i _ => 40 - (intOf i).toNat)
          case atStart => exact ⟨0, Z, rfl, by omega, by omega, by omega, hown, hbr⟩
          case round =>
            clear hown hbr hZl hZl2
            obtain ⟨j, Z, rfl, hj40, hjn, hZl, hown, hbr⟩ := hrel
            by_cases hgo : j < n' ∧ j < 40
            · obtain ⟨hlt, hlt40⟩ := hgo
              obtain ⟨g, off, p, rfl, hg, c0, c1, HP⟩ := (hs'.below hbr).at j hlt
              obtain ⟨x, k, rfl, hx, hk, hm, hiv, htop, hpos⟩ := good_k HG'.out HP.out
              simp only at c0 c1
              have H3 : Hid (x % 2 ^ k = 0) := hm
              have HT : Hid (x + pw k ≤ 4294967296) := htop
              have hm32 : x + 2 ^ k - 1 < 4294967296 := by have h5 : x + 2 ^ k ≤ 4294967296 := htop; have := Nat.two_pow_pos k; omega
              clear hiv hm htop
              go_wp2_with fail
              refine (block_ok x k _ HT.out hk H3.out).mono ?_
              rintro e w1 ⟨rfl, hb1⟩
              generalize x + 2 ^ k - 1 = m at hm32 ⊢
              have hown1 : w1.ownsRow w.heap.size 3 1 _ _ _ := owns_below hown hb1
              have hbr1 : Below w.heap.size w w1 := hbr.trans (hb1.mono hbr.size)
              go_wp2_with (at_builtin; refine wpList_append_own _ rfl _ _ 52 rfl w.heap.size 3 i0 (.int .i64 0) 1 8 Try.underlying52 HI.out hz0 hz1 hz2 rfl (by decide) _ _ _ rfl (hown1.alloc _) ⟨w1.heap.size, 0, none⟩ 4 4 [.int .i64 (x : Int), .int .i64 (m : Int), .int .i64 ((x : Int) - 1), .int .i64 ((m : Int) + 1)] rfl rfl ?d1 ?d2 ?d3 ?d4 ?d5 ?_)
              case d1 => exact four_at rfl _ _ _ _ _
              case d2 => intro u hu; simp at hu; rcases hu with rfl | rfl | rfl | rfl <;> rfl
              case d3 => unfold maxLen; omega
              case d4 => omega
              case d5 => have := hbr1.size; simp; omega
              · intro m3 w3 hown3 hgrow _
                have hb3 := run_step (q := 0) hbr1.size hbr1 hown1 hgrow
                have hown4 : OwnInts w3 w.heap.size m3 (Z ++ [(x : Int), (m : Int), (x : Int) - 1, (m : Int) + 1]) := by
                  unfold OwnInts; rw [List.length_append, List.map_append]; exact hown3
                clear hgrow hown hown1 hown3
                go_wp2_with fail
                go_roundw
                case rel => exact ⟨j + 1, _, by go_num, by omega, by omega, by rw [List.length_append]; simp; omega, hown4, hb3⟩
                case measure => simp [intOf]; omega
            · have hno2 : ¬ (j < n') ∨ (j < n' ∧ ¬ j < 40) := by omega
              have hZl2 : Z.length ≤ 321 := by omega
              obtain ⟨ai, ci, rfl, hi1, hi2, hcell⟩ := ints_shape hown
              have HCELL := hid hcell
              obtain ⟨nz, hnz⟩ : ∃ nz, nz = Z.length := ⟨_, rfl⟩
              rw [← hnz] at hi1 hZl2 HCELL
              have HNZ : Hid (nz = Z.length) := hnz
              have HOWN := hid hown
              rw [← hnz] at HOWN ⊢
              unfold maxLen at hi2
              clear hgo hcell hown hnz
              rcases hno2 with hno2 | ⟨hno3, hno2⟩
              all_goals
                go_wp2_with fail
                go_loopw [14] (fun i wx => ∃ j : Nat, i = .int .i64 j ∧ j ≤ nz ∧ Below wr.heap.size wr wx) (fun i _ => nz - (intOf i).toNat)
                case atStart => exact ⟨0, rfl, by omega, Below.refl _ _⟩
                case round =>
                  obtain ⟨t, rfl, ht, hbx⟩ := hrel
                  have hbt := hbr.trans (hbx.mono hbr.size)
                  by_cases htn : t < nz
                  · obtain ⟨g, zz, rfl, hc⟩ := HCELL.out t htn
                    have hgl := World.block_lt_of_cell? _ _ hc
                    have hcx := (hbx.cell (p := ⟨g, t, none⟩) hgl).trans hc
                    go_wp2_with fail
                    refine (had_any _ D zz _ (hs.below hbt) HG.out).mono ?_
                    rintro e w5 ⟨rfl, hb5⟩
                    have hcx5 := (hb5.cell (p := ⟨g, t, none⟩) (Nat.lt_of_lt_of_le hgl hbx.size)).trans hcx
                    go_wp2_with fail
                    refine (had_any _ D' zz _ (hs'.below (hbt.trans (hb5.mono hbt.size))) HG'.out).mono ?_
                    rintro e w6 ⟨rfl, hb6⟩
                    rw [HQ.out zz]
                    have hbq : (hz D' zz != hz D' zz) = false := by simp
                    generalize hz D' zz = bb at hbq ⊢
                    go_wp2_with fail
                    go_roundw
                    case rel => exact ⟨t + 1, by go_num, by omega, hbx.trans ((hb5.mono hbx.size).trans (hb6.mono (Nat.le_trans hbx.size hb5.size)))⟩
                    case measure => simp [intOf]; omega
                  · go_wp2_with fail
                    go_ret
                    exact ⟨rfl, hbt⟩
end Go.Proofs.Ytenhofbhkchjoaa
