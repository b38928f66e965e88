/-
  valids, last of the law.
-/
import Derived.Test.YtmnafocmbcgdiaaVT
namespace Go.Proofs.Ytmnafocmbcgdiaa
open Go.ChangeShapes Go.WideShapes Go.ChangeAt Go.RowKit Tri N
set_option maxHeartbeats 1000000
set_option maxRecDepth 100000

def AdrP (L : List (Nat × Int)) : Prop := ∀ p ∈ L, p.1 < 4294967296 ∧ In64 p.2

theorem idx_pr {n cap g off m : Nat} (hm : m < n) (u : World) : (Instr.indexAt 22 (.slice (some ⟨g, off, none⟩) n cap) (.int .i64 (m : Int))).run Try.prog u = .ok (.pointer (some ⟨g, off + m * 2, none⟩)) u := by
  have hu : Try.prog.underlying 22 = some (.slice 32) := by kernel_rfl
  have hsz : (sizeOf 32).run Try.prog u = .ok 2 u := by kernel_rfl
  simp [Instr.indexAt, run_underlying hu, asIntOf, go_sem, hsz, Result.andThen]
  omega

def dst5 (i : Nat) : Tmp := [16, 17, 18, 19, 20, 21, 22, 23, 24, 25, 26, 5].getD i 0
theorem dl5 {s : Nat} (h : s ∉ [16, 17, 18, 19, 20, 21, 22, 23, 24, 25, 26, 5]) : ∀ j, j < 12 → dst5 j ≠ s := fun j hj e => h (by
  unfold dst5 at e
  rw [← e, List.getD_eq_getElem?_getD, List.getElem?_eq_getElem (by exact hj)]
  exact List.getElem_mem _)
/-- The region in which a valid prefix is made. -/
def FV (vp : Value) (j g o : Nat) (x : Nat) (y : Int) (B : Nat) (i : Nat) (v : Value) (u : World) : Prop :=
  match i with
  | 0 => v = vp
  | 1 => v = .int .i64 (j : Int)
  | 2 => v = .pointer (some ⟨g, o, none⟩)
  | 3 => v = .pointer (some ⟨g, o, none⟩)
  | 4 => v = .int .u32 (x : Int)
  | 5 => v = vp
  | 6 => v = .int .i64 (j : Int)
  | 7 => v = .pointer (some ⟨g, o, none⟩)
  | 8 => v = .pointer (some ⟨g, o + 1, none⟩)
  | 9 => v = .int .i64 y
  | 10 => v = pv (preK x y)
  | _ => ∃ b, v = .pointer (some ⟨b, 0, none⟩) ∧ B ≤ b ∧ u.heap[b]? = some (.cells #[.int .u32 0, .int .i64 0] 32)

theorem FV.keeps (vp : Value) (j g o : Nat) (x : Nat) (y : Int) (B : Nat) : ∀ (i : Nat) (v : Value) (w w' : World), FV vp j g o x y B i v w → Below w.heap.size w w' → FV vp j g o x y B i v w' := fun i v w w' h hb => by
  match i with
  | 0 => exact h
  | 1 => exact h
  | 2 => exact h
  | 3 => exact h
  | 4 => exact h
  | 5 => exact h
  | 6 => exact h
  | 7 => exact h
  | 8 => exact h
  | 9 => exact h
  | 10 => exact h
  | n + 11 =>
    obtain ⟨b, h1, h2, h3⟩ := h
    exact ⟨b, h1, h2, below_keeps hb h3 (Array.getElem?_eq_some_iff.1 h3).1⟩

def valL (P : List (Nat × Int)) : List K := (P.take 200).map fun p => preK p.1 p.2

theorem valids_any (v : Value) (P : List (Nat × Int)) (w : World) (hv : Sees w v P) (ha : AdrP P) :
    Calls Try.prog 9 #[v] w fun e w' => ∃ v', e = .returned v' ∧ w'.ownsRow w.heap.size 32 2 v' (valL P).length (kcs (valL P)) ∧ Below w.heap.size w w' := by
  obtain ⟨i0, hi0, hz0, hz1, hz2⟩ := info_parts infoP
  have HI : Hid (Try.prog.info? 32 = some i0) := hi0
  obtain ⟨ao, n, cap, rfl, HN, hn1, hn2⟩ := hv.shape
  have HV := hid hv
  have HA := hid ha
  unfold maxLen at hn2
  clear hi0 hv ha
  go_enter Try.func9, Try.ntmps9
  go_upto_region 3 with fail
  go_loopw [3, 4] (fun t i wr => ∃ (j : Nat), i = .int .i64 (j : Int) ∧ j ≤ n ∧ j ≤ 200 ∧ wr.ownsRow w.heap.size 32 2 t ((P.take j).map fun p => preK p.1 p.2).length (kcs ((P.take j).map fun p => preK p.1 p.2)) ∧ Below w.heap.size w wr) (fun _ i _ => n - (intOf i).toNat)
  case atStart => exact ⟨0, rfl, by omega, by omega, World.ownsRow_nil _ _ _ _, Below.refl _ _⟩
  case round =>
    obtain ⟨j, rfl, hj, hj2, hown, hb⟩ := hrel
    by_cases hjn : j < n
    · by_cases hj200 : j < 200
      · have hjn' : (j : Int) < (n : Int) := by omega
        have hj200' : (j : Int) < 200 := by omega
        obtain ⟨g, off, p, hao, hg, c0, c1, HP⟩ := HV.out.at j hjn
        subst hao
        obtain ⟨hx, hy⟩ := HA.out p (List.mem_of_getElem? HP.out)
        have HB := hid hb
        have HO := hid hown
        have HT : Hid ((P.take (j + 1)).map (fun p => preK p.1 p.2) = (P.take j).map (fun p => preK p.1 p.2) ++ [preK p.1 p.2]) := by
          unfold Hid; rw [take_snoc HP.out, List.map_append]; rfl
        have hlen : ((P.take j).map fun p => preK p.1 p.2).length ≤ 200 := by simp; omega
        have HC : Hid (∀ u, Below wr.heap.size wr u → u.cell? ⟨g, off + j * 2, none⟩ = some (.int .u32 (p.1 : Int)) ∧ u.cell? ⟨g, off + j * 2 + 1, none⟩ = some (.int .i64 p.2)) := fun u hu => by
          have h1 := hb.trans (hu.mono hb.size)
          exact ⟨(h1.cell (p := ⟨g, _, none⟩) hg).trans c0, (h1.cell (p := ⟨g, _, none⟩) hg).trans c1⟩
        obtain ⟨px, py⟩ := p
        simp only at hx hy HT HC
        generalize (P.take j).map (fun p => preK p.1 p.2) = acc at *
        clear hown hb c0 c1
        go_upto_region 5 with fail
        refine wp_region_mono' 12 dst5 (FV (.slice (some ⟨g, off, none⟩) n cap) j g (off + j * 2) px py wr.heap.size) (by kernel_rfl) (by kernel_rfl) (FV.keeps _ _ _ _ _ _ _) ?_ ?_
        · simp only [List.take_succ_cons, List.take_zero, N.stepsOk]
          refine ⟨?_, ?_, ?_, ?_, ?_, ?_, ?_, ?_, ?_, ?_, ?_, ?_, trivial⟩
          · intro a u vs hb hold hdep
            exact wp_val (ex_move (.tmp 0) _ rfl (hold 0 (dl5 (by decide)))) ⟨_, rfl, rfl, hb, Below.refl _ _⟩
          · intro a u vs hb hold hdep
            exact wp_val (ex_move (.tmp 4) _ rfl (hold 4 (dl5 (by decide)))) ⟨_, rfl, rfl, hb, Below.refl _ _⟩
          · intro a u vs hb hold hdep
            have h0 := hdep ⟨0, .data⟩ (by simp) rfl (by decide)
            have h1 := hdep ⟨1, .data⟩ (by simp) rfl (by decide)
            exact wp_val (ex_index _ (.tmp 16) (.tmp 17) _ _ _ rfl (h0.1.trans h0.2) (h1.1.trans h1.2) (idx_pr hjn u)) ⟨_, rfl, rfl, hb, Below.refl _ _⟩
          · intro a u vs hb hold hdep
            have h2 := hdep ⟨2, .data⟩ (by simp) rfl (by decide)
            exact wp_val (ex_field _ _ (.tmp 18) 0 _ rfl (h2.1.trans h2.2) (fld_pr u).1) ⟨_, rfl, rfl, hb, Below.refl _ _⟩
          · intro a u vs hb hold hdep
            have h3 := hdep ⟨3, .data⟩ (by simp) rfl (by decide)
            exact wp_val (ex_load _ _ (.tmp 19) _ rfl (h3.1.trans h3.2) (load_ad (HC.out u hb).1)) ⟨_, rfl, rfl, hb, Below.refl _ _⟩
          · intro a u vs hb hold hdep
            exact wp_val (ex_move (.tmp 0) _ rfl (hold 0 (dl5 (by decide)))) ⟨_, rfl, rfl, hb, Below.refl _ _⟩
          · intro a u vs hb hold hdep
            exact wp_val (ex_move (.tmp 4) _ rfl (hold 4 (dl5 (by decide)))) ⟨_, rfl, rfl, hb, Below.refl _ _⟩
          · intro a u vs hb hold hdep
            have h5 := hdep ⟨5, .data⟩ (by simp) rfl (by decide)
            have h6 := hdep ⟨6, .data⟩ (by simp) rfl (by decide)
            exact wp_val (ex_index _ (.tmp 21) (.tmp 22) _ _ _ rfl (h5.1.trans h5.2) (h6.1.trans h6.2) (idx_pr hjn u)) ⟨_, rfl, rfl, hb, Below.refl _ _⟩
          · intro a u vs hb hold hdep
            have h7 := hdep ⟨7, .data⟩ (by simp) rfl (by decide)
            exact wp_val (ex_field _ _ (.tmp 23) 1 _ rfl (h7.1.trans h7.2) (fld_pr u).2) ⟨_, rfl, rfl, hb, Below.refl _ _⟩
          · intro a u vs hb hold hdep
            have h8 := hdep ⟨8, .data⟩ (by simp) rfl (by decide)
            exact wp_val (ex_load _ _ (.tmp 24) _ rfl (h8.1.trans h8.2) (load_in (HC.out u hb).2)) ⟨_, rfl, rfl, hb, Below.refl _ _⟩
          · intro a u vs hb hold hdep
            have h4 := hdep ⟨4, .data⟩ (by simp) rfl (by decide)
            have h9 := hdep ⟨9, .data⟩ (by simp) rfl (by decide)
            have e4 : a.eval (.tmp 20) = .int .u32 (px : Int) := h4.1.trans h4.2
            have e9 : a.eval (.tmp 25) = .int .i64 py := h9.1.trans h9.2
            refine wp_call 15 _ _ rfl (enters_of Try.func15 (by kernel_rfl) rfl) #[.int .u32 (px : Int), .int .i64 py] (by simp only [List.map_toArray, List.map_cons, List.map_nil, e4, e9]) ?_
            refine (prefix_any px py u hx hy).mono ?_
            rintro _ u' ⟨rfl, hb'⟩
            exact ⟨_, rfl, _, rfl, rfl, hb.trans (hb'.mono hb.size), hb'⟩
          · intro a u vs hb hold hdep
            refine wp_val (ex_allocP u rfl) ?_
            have hb' : Below u.heap.size u (u.alloc (.cells #[.int .u32 0, .int .i64 0] 32)) := (Below.refl _ _).alloc (Nat.le_refl _) _
            exact ⟨_, rfl, ⟨_, rfl, hb.size, heap_alloc_new u _⟩, hb.trans (hb'.mono hb.size), hb'⟩
        intro vs u hb hF
        have e10 : vs 10 = pv (preK px py) := hF 10 (by decide)
        obtain ⟨b, e11, g11, k11⟩ := hF 11 (by decide)
        clear hF
        obtain ⟨kk, hkk⟩ : ∃ kk, kk = preK px py := ⟨_, rfl⟩
        rw [← hkk] at e10 HT
        unfold pv at e10
        clear hkk
        simp only [List.drop_succ_cons, List.drop_zero, puts, List.range, List.range.loop, List.foldr, dst5, List.getD_cons_zero, List.getD_cons_succ, if_true, e10, e11, Act.put, List.setIfInBounds_toArray, List.set_cons_zero, List.set_cons_succ]
        clear e10 e11
        generalize vs 0 = y0
        generalize vs 1 = y1
        generalize vs 2 = y2
        generalize vs 3 = y3
        generalize vs 4 = y4
        generalize vs 5 = y5
        generalize vs 6 = y6
        generalize vs 7 = y7
        generalize vs 8 = y8
        generalize vs 9 = y9
        refine wpList_st rfl 32 _ _ rfl b #[.int .u32 (kk.x : Int), .int .i64 (kk.n : Int)] rfl rfl _ _ k11 (by kernel_rfl) rfl (by simp [Value.oneCell']) ?_
        intro w1 hw1 hbt
        have hB1 : Below wr.heap.size wr w1 := hbt.below hb hb.size g11
        have hown1 := owns_below HO.out hB1
        have x0 : w1.cell? ⟨b, 0, none⟩ = some (.int .u32 (kk.x : Int)) := by rw [cell_of_row _ _ _ _ _ _ hw1]; rfl
        have x1 : w1.cell? ⟨b, 1, none⟩ = some (.int .i64 (kk.n : Int)) := by rw [cell_of_row _ _ _ _ _ _ hw1]; rfl
        have HB1 := hid hB1
        clear hb hbt hw1 k11 g11 hB1
        go_wp2_with (at_builtin; refine wpList_append_own _ rfl _ _ 22 rfl w.heap.size 32 i0 (.agg #[.int .u32 0, .int .i64 0]) 2 16 (by kernel_rfl) HI.out hz0 hz1 hz2 rfl (by decide) _ _ _ rfl (hown1.alloc _) ⟨w1.heap.size, 0, none⟩ 1 1 [.int .u32 (kk.x : Int), .int .i64 (kk.n : Int)] rfl rfl ?c1 ?c2 ?c3 ?c4 ?c5 ?_)
        case c1 => exact two_at rfl _ _ _
        case c2 => intro u hu; simp at hu; rcases hu with rfl | rfl <;> rfl
        case c3 => unfold maxLen; omega
        case c4 => omega
        case c5 => have := HB.out.size; have := HB1.out.size; simp; omega
        · intro v' w2 hown2 hgrow _
          rw [kcs_snoc, ← HT.out] at hown2
          have hrow : ∀ k, _ → _ := hown1.lt
          have HB2 : Hid (Below w.heap.size w w2) := by
            have h1 : Below w.heap.size w (w1.alloc (.cells #[.int .u32 (kk.x : Int), .int .i64 (kk.n : Int)] 32)) := (HB.out.trans (HB1.out.mono HB.out.size)).alloc (by have := HB.out.size; have := HB1.out.size; omega) _
            exact h1.grown hgrow (by have := HB.out.size; have := HB1.out.size; simp; omega) (fun k hk => (hrow k hk).1)
          have HO2 : Hid (w2.ownsRow w.heap.size 32 2 v' ((P.take (j + 1)).map fun p => preK p.1 p.2).length (kcs ((P.take (j + 1)).map fun p => preK p.1 p.2))) := by
            unfold Hid; rw [HT.out] at hown2 ⊢; rw [List.length_append]; exact hown2
          clear hown2 hgrow hrow hown1
          go_wp2_with fail
          go_roundw
          case rel => exact ⟨j + 1, by go_num, by omega, by omega, HO2.out, HB2.out⟩
          case measure => simp [intOf]; omega
      · have hj200' : ¬ (j : Int) < 200 := by omega
        have hjn' : (j : Int) < (n : Int) := by omega
        have HE : Hid (valL P = (P.take j).map fun p => preK p.1 p.2) := by unfold Hid valL; rw [show j = 200 by omega]
        go_wp2_with fail
        go_ret
        exact ⟨_, rfl, by rw [HE.out]; exact hown, hb⟩
    · have hjn' : ¬ (j : Int) < (n : Int) := by omega
      have HE : Hid (valL P = (P.take j).map fun p => preK p.1 p.2) := by
        have := HN.out
        unfold Hid valL; rw [List.take_of_length_le (by omega), List.take_of_length_le (by omega)]
      go_wp2_with fail
      go_ret
      exact ⟨_, rfl, by rw [HE.out]; exact hown, hb⟩
end Go.Proofs.Ytmnafocmbcgdiaa
