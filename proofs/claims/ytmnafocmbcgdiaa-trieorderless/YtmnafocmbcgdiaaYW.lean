/-
  weftlaw8.within.
-/
import Derived.Test.YtmnafocmbcgdiaaXEA
import Derived.Test.YtmnafocmbcgdiaaWOA
import Derived.Test.YtmnafocmbcgdiaaVV
import Derived.Deep.QuietTactic
import Derived.BigQuiet
namespace Go.Proofs.Ytmnafocmbcgdiaa
open Go.ChangeShapes Go.WideShapes Go.ChangeAt Go.RowKit Go.Shelf Tri N
set_option maxHeartbeats 4000000
set_option maxRecDepth 100000

def inK (q k : K) : Bool := decide (q.n ≤ k.n) && hasK q k.x

theorem hasK_div {q : K} (hq : q.Ok) (a : Nat) : hasK q a = decide (a / 2 ^ (32 - q.n) = q.x / 2 ^ (32 - q.n)) := by
  have hs := q.s_pos
  obtain ⟨c, hc⟩ := hq.2.1
  unfold hasK
  rw [decide_eq_decide]
  show q.x ≤ a ∧ a < q.x + q.s ↔ a / q.s = q.x / q.s
  rw [hc, Nat.mul_div_cancel_left _ hs, Nat.div_eq_iff hs, Nat.mul_comm q.s c]
  omega

theorem hasK_zero {q : K} (hq : q.Ok) (h0 : q.n = 0) {a : Nat} (ha : a < 4294967296) : hasK q a = true := by
  rw [hasK_div hq, h0, decide_eq_true_eq, Nat.div_eq_of_lt (by omega), Nat.div_eq_of_lt (by have := hq.2.2; omega)]

theorem filter_snoc {α : Type} {p : α → Bool} {L : List α} {j : Nat} {x : α} (h : L[j]? = some x) : (L.take (j + 1)).filter p = (L.take j).filter p ++ (if p x then [x] else []) := by
  rw [take_snoc h, List.filter_append]
  cases hp : p x <;> simp [hp]

theorem row_base' {W : World} {b c : Nat} {e : TypeId} {size n : Nat} {v : Value} {xs : List Value} (h : W.ownsRow b e size v n xs) (hb : c ≤ b) : W.ownsRow c e size v n xs := by
  refine ⟨h.1, ?_⟩
  rcases h.2 with h1 | ⟨g, cap, cur, hv, hb2, hrest⟩
  · exact .inl h1
  · exact .inr ⟨g, cap, cur, hv, Nat.le_trans hb hb2, hrest⟩

theorem within_any (v : Value) (L : List K) (q : K) (w : World) (hv : Sees w v (L.map kp)) (hq : q.Ok) (hL : ∀ k ∈ L, k.Ok) (hlen : L.length ≤ 400) :
    Calls Try.prog 29 #[v, pv q] w fun e w' => ∃ v', e = .returned v' ∧ w'.ownsRow w.heap.size 32 2 v' (L.filter (inK q)).length (kcs (L.filter (inK q))) ∧ Below w.heap.size w w' := by
  obtain ⟨i0, hi0, hz0, hz1, hz2⟩ := info_parts infoP
  have HI : Hid (Try.prog.info? 32 = some i0) := hi0
  obtain ⟨ao, n, cap, rfl, HN0, hn1, hn2⟩ := hv.shape
  have HN : Hid (n = L.length) := by have := HN0.out; rw [List.length_map] at this; exact this
  have hn400 : n ≤ 400 := by have := HN.out; omega
  have HV := hid hv
  have HQ := hid hq
  have HL := hid hL
  obtain ⟨w1, HW1⟩ : ∃ w1, Hid (w1 = w.alloc (.cells #[.int .u32 (q.x : Int), .int .i64 (q.n : Int)] 32)) := ⟨_, rfl⟩
  have hb1 : Below w.heap.size w w1 := by rw [HW1.out]; exact (Below.refl _ _).alloc (Nat.le_refl _) _
  have hr1 : w1.heap[w.heap.size]? = some (.cells #[.int .u32 (q.x : Int), .int .i64 (q.n : Int)] 32) := by rw [HW1.out]; exact heap_alloc_new w _
  have HB1 := hid hb1
  have HR1 := hid hr1
  have hqn : q.n ≤ 32 := hq.1
  unfold maxLen at hn2
  unfold pv
  clear hi0 hv hq hL hb1 hr1 HN0
  go_enter Try.func29, Try.ntmps29
  go_upto_region 3 with fail
  rw [← HW1.out]
  go_loopw [5, 6] (fun t i wr => ∃ (j : Nat), i = .int .i64 (j : Int) ∧ j ≤ n ∧ Hid (wr.ownsRow w1.heap.size 32 2 t ((L.take j).filter (inK q)).length (kcs ((L.take j).filter (inK q)))) ∧ Hid (Below w1.heap.size w1 wr)) (fun _ i _ => n - (intOf i).toNat)
  case atStart => exact ⟨0, rfl, by omega, World.ownsRow_nil _ _ _ _, Below.refl _ _⟩
  case round =>
    obtain ⟨j, rfl, hj, HO, HB⟩ := hrel
    by_cases hjn : j < n
    · have hb0 : Below w.heap.size w wr := HB1.out.trans (HB.out.mono HB1.out.size)
      obtain ⟨g, off, p, hao, hg, c0, c1, HP⟩ := (HV.out.below hb0).at j hjn
      subst hao
      obtain ⟨k, hk, rfl⟩ := kp_at HP.out
      simp only [kp] at c0 c1
      have hok := HL.out k (List.mem_of_getElem? hk)
      have hr := below_keeps HB.out HR1.out (Array.getElem?_eq_some_iff.1 HR1.out).1
      have q0 : wr.cell? ⟨w.heap.size, 0, none⟩ = some (.int .u32 (q.x : Int)) := by rw [cell_of_row _ _ _ _ _ _ hr]; rfl
      have q1 : wr.cell? ⟨w.heap.size, 1, none⟩ = some (.int .i64 (q.n : Int)) := by rw [cell_of_row _ _ _ _ _ _ hr]; rfl
      have b1 : (j : Int) < (n : Int) := by omega
      have b2 : (0 : Int) ≤ (j : Int) := by omega
      have b3 : decide ((j : Int) < 0) = false := by simp
      have hi1 := filter_snoc (p := inK q) hk
      have hac : ((L.take j).filter (inK q)).length ≤ 400 := Nat.le_trans (List.length_filter_le _ _) (by simp; omega)
      obtain ⟨ac, HAC⟩ : ∃ ac, Hid (ac = (L.take j).filter (inK q)) := ⟨_, rfl⟩
      rw [← HAC.out] at hac HO hi1
      have HFN : Hid (inK q k = false → (L.take (j + 1)).filter (inK q) = ac) := fun h => by rw [hi1, h]; simp
      have HFY : Hid (inK q k = true → (L.take (j + 1)).filter (inK q) = ac ++ [k]) := fun h => by rw [hi1, h]; simp
      have HHD : Hid (hasK q k.x = decide (k.x / 2 ^ (32 - q.n) = q.x / 2 ^ (32 - q.n))) := hasK_div HQ.out k.x
      have HHZ : Hid (q.n = 0 → hasK q k.x = true) := fun h0 => hasK_zero HQ.out h0 hok.2.2
      have HBS : Hid (∀ m, Below w1.heap.size w1 (wr.drewN m)) := fun m => ⟨HB.out.os, HB.out.tape, HB.out.output, HB.out.size, HB.out.block⟩
      have hkx := hok.2.2
      have hqx := HQ.out.2.2
      have HOK := hid hok
      clear hb0 hg HP hk hok hr hi1
      by_cases hnn : q.n ≤ k.n
      · have hn1' : decide ((q.n : Int) ≤ (k.n : Int)) = true := by simp; omega
        have hn2' : (q.n : Int) ≤ (k.n : Int) := by omega
        by_cases hz : q.n = 0
        · have z1 : ((q.n : Int) == 0) = true := by simp [hz]
          have HY : Hid ((L.take (j + 1)).filter (inK q) = ac ++ [k]) := HFY.out (by unfold inK; rw [HHZ.out hz]; simp [hnn])
          clear HFN HFY HHD HHZ hz hnn
          go_upto_region 5 with fail
          go_quiet (fail)
          go_upto_region 6 with fail
          have HBW : Hid (Below w1.heap.size w1 (wr.drewN nq)) := HBS.out nq
          have HOW : Hid ((wr.drewN nq).ownsRow w1.heap.size 32 2 u5 ac.length (kcs ac)) := HO.out
          have d0 : (wr.drewN nq).cell? ⟨g, off + j * 2, none⟩ = some (.int .u32 (k.x : Int)) := c0
          have d1 : (wr.drewN nq).cell? ⟨g, off + j * 2 + 1, none⟩ = some (.int .i64 (k.n : Int)) := c1
          clear HBS HO HB c0 c1 q0 q1
          generalize wr.drewN nq = W at *
          go_wp2_with (at_builtin; refine wpList_append_own _ rfl _ _ 22 rfl w1.heap.size 32 i0 (.agg #[.int .u32 0, .int .i64 0]) 2 16 (by kernel_rfl) HI.out hz0 hz1 hz2 rfl (by decide) _ _ _ rfl (World.ownsRow.alloc HOW.out _) ⟨W.heap.size, 0, none⟩ 1 1 [.int .u32 (k.x : Int), .int .i64 (k.n : Int)] rfl rfl (two_at rfl _ _ _) ?c2 ?c3 ?c4 ?c5 ?_)
          case c2 => first | exact ⟨rfl, rfl⟩ | (intro u hu; simp at hu; rcases hu with rfl | rfl <;> rfl)
          case c3 => unfold maxLen; omega
          case c4 => omega
          case c5 => have := HBW.out.size; simp; omega
          · intro v' w2 hown2 hgrow _
            rw [kcs_snoc] at hown2
            have hrow : ∀ k, _ → _ := HOW.out.lt
            have HB2 : Hid (Below w1.heap.size w1 w2) := by
              have h1 : Below w1.heap.size w1 (W.alloc (.cells #[.int .u32 (k.x : Int), .int .i64 (k.n : Int)] 32)) := HBW.out.alloc (by have := HBW.out.size; omega) _
              exact h1.grown hgrow (by have := HBW.out.size; simp; omega) (fun k hk => (hrow k hk).1)
            have HO2 : Hid (w2.ownsRow w1.heap.size 32 2 v' ((L.take (j + 1)).filter (inK q)).length (kcs ((L.take (j + 1)).filter (inK q)))) := by
              unfold Hid; rw [HY.out, List.length_append]; exact hown2
            clear hown2 hgrow hrow
            go_wp2_with fail
            go_roundw
            case rel => exact ⟨j + 1, by go_num, by omega, HO2, HB2⟩
            case measure => simp [intOf]; omega
        · have z1 : ((q.n : Int) == 0) = false := by simp; omega
          have hn32 : ¬ ((32 : Int) - (q.n : Int) < 0) := by omega
          by_cases hd : k.x / 2 ^ (32 - q.n) = q.x / 2 ^ (32 - q.n)
          · have HY : Hid ((L.take (j + 1)).filter (inK q) = ac ++ [k]) := HFY.out (by unfold inK; rw [HHD.out]; simp [hnn, hd])
            have z2 : ((k.x : Int) / 2 ^ (32 - q.n) == (q.x : Int) / 2 ^ (32 - q.n)) = true := by
              have h : ((k.x / 2 ^ (32 - q.n) : Nat) : Int) = ((q.x / 2 ^ (32 - q.n) : Nat) : Int) := by rw [hd]
              simpa using h
            clear HFN HFY HHD HHZ hz hnn hd
            go_upto_region 5 with fail
            go_quiet (fail)
            go_upto_region 6 with fail
            clear z1 z2 hn32
            have HBW : Hid (Below w1.heap.size w1 (wr.drewN nq)) := HBS.out nq
            have HOW : Hid ((wr.drewN nq).ownsRow w1.heap.size 32 2 u5 ac.length (kcs ac)) := HO.out
            have d0 : (wr.drewN nq).cell? ⟨g, off + j * 2, none⟩ = some (.int .u32 (k.x : Int)) := c0
            have d1 : (wr.drewN nq).cell? ⟨g, off + j * 2 + 1, none⟩ = some (.int .i64 (k.n : Int)) := c1
            clear HBS HO HB c0 c1 q0 q1
            generalize wr.drewN nq = W at *
            go_wp2_with (at_builtin; refine wpList_append_own _ rfl _ _ 22 rfl w1.heap.size 32 i0 (.agg #[.int .u32 0, .int .i64 0]) 2 16 (by kernel_rfl) HI.out hz0 hz1 hz2 rfl (by decide) _ _ _ rfl (World.ownsRow.alloc HOW.out _) ⟨W.heap.size, 0, none⟩ 1 1 [.int .u32 (k.x : Int), .int .i64 (k.n : Int)] rfl rfl (two_at rfl _ _ _) ?c2 ?c3 ?c4 ?c5 ?_)
            case c2 => first | exact ⟨rfl, rfl⟩ | (intro u hu; simp at hu; rcases hu with rfl | rfl <;> rfl)
            case c3 => unfold maxLen; omega
            case c4 => omega
            case c5 => have := HBW.out.size; simp; omega
            · intro v' w2 hown2 hgrow _
              rw [kcs_snoc] at hown2
              have hrow : ∀ k, _ → _ := HOW.out.lt
              have HB2 : Hid (Below w1.heap.size w1 w2) := by
                have h1 : Below w1.heap.size w1 (W.alloc (.cells #[.int .u32 (k.x : Int), .int .i64 (k.n : Int)] 32)) := HBW.out.alloc (by have := HBW.out.size; omega) _
                exact h1.grown hgrow (by have := HBW.out.size; simp; omega) (fun k hk => (hrow k hk).1)
              have HO2 : Hid (w2.ownsRow w1.heap.size 32 2 v' ((L.take (j + 1)).filter (inK q)).length (kcs ((L.take (j + 1)).filter (inK q)))) := by
                unfold Hid; rw [HY.out, List.length_append]; exact hown2
              clear hown2 hgrow hrow
              go_wp2_with fail
              go_roundw
              case rel => exact ⟨j + 1, by go_num, by omega, HO2, HB2⟩
              case measure => simp [intOf]; omega
          · have HY : Hid ((L.take (j + 1)).filter (inK q) = ac) := HFN.out (by unfold inK; rw [HHD.out]; simp [hd])
            have z2 : ((k.x : Int) / 2 ^ (32 - q.n) == (q.x : Int) / 2 ^ (32 - q.n)) = false := by
              have h : ((k.x / 2 ^ (32 - q.n) : Nat) : Int) ≠ ((q.x / 2 ^ (32 - q.n) : Nat) : Int) := fun e => hd (Int.ofNat_inj.1 e)
              simpa using h
            clear HFN HFY HHD HHZ hz hnn hd
            go_upto_region 5 with fail
            go_quiet (fail)
            go_wp2_with fail
            go_roundw
            case rel => exact ⟨j + 1, by go_num, by omega, by unfold Hid; rw [HY.out]; exact HO.out, HBS.out _⟩
            case measure => simp [intOf]; omega
      · have hn1' : decide ((q.n : Int) ≤ (k.n : Int)) = false := by simp; omega
        have hn2' : ¬ (q.n : Int) ≤ (k.n : Int) := by omega
        have HY : Hid ((L.take (j + 1)).filter (inK q) = ac) := HFN.out (by unfold inK; simp [hnn])
        clear HFN HFY HHD HHZ hnn
        go_upto_region 5 with fail
        go_quiet (fail)
        go_wp2_with fail
        go_roundw
        case rel => exact ⟨j + 1, by go_num, by omega, by unfold Hid; rw [HY.out]; exact HO.out, HBS.out _⟩
        case measure => simp [intOf]; omega
    · have b1 : ¬ (j : Int) < (n : Int) := by omega
      have HO2 : Hid (wr.ownsRow w.heap.size 32 2 u5 (L.filter (inK q)).length (kcs (L.filter (inK q)))) := by
        have h := row_base' HO.out HB1.out.size
        rw [List.take_of_length_le (by have := HN.out; omega)] at h
        exact h
      have HB2 : Hid (Below w.heap.size w wr) := HB1.out.trans (HB.out.mono HB1.out.size)
      go_wp2_with fail
      go_ret
      exact ⟨_, rfl, HO2.out, HB2.out⟩
end Go.Proofs.Ytmnafocmbcgdiaa
