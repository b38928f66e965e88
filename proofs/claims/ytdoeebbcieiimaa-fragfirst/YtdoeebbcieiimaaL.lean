import Derived.Test.YtdoeebbcieiimaaF
namespace Go.Proofs.Ytdoeebbcieiimaa
open Go.ChangeShapes Go.WideShapes Go.ChangeAt Go.RowKit
set_option maxHeartbeats 400000
set_option maxRecDepth 100000

/-- A cut 'x[:m]': its address is kept a letter. -/
theorem SeesB.high {w : World} {ao : Option Addr} {n cap : Nat} {L : List Nat} (h : SeesB w (.slice ao n cap) L) (m : Nat) (i : Int) (hi : i = m) (hm : m ≤ n) :
    ∃ ao', Hid (SeesB w (.slice ao' m cap) (L.take m)) ∧ ∀ u : World, (Instr.sliceAt 22 (.slice ao n cap) none (some (.int .i64 i)) none).run Try.prog u = .ok (.slice ao' m cap) u := by
  subst hi
  have h0 := h
  obtain ⟨ao1, cap1, hv, h1, h2, h3⟩ := h
  simp at hv
  obtain ⟨rfl, hlen, rfl⟩ := hv
  refine ⟨ao, ?_, fun u => ?_⟩
  · refine ⟨ao, cap, by rw [List.length_take]; congr 1; omega, ⟨by rw [List.length_take]; omega, h1.2⟩, h2, fun j hj => ?_⟩
    rw [List.length_take] at hj
    obtain ⟨g, off, ha, hg, hc, hb⟩ := h3 j (by omega)
    exact ⟨g, off, ha, hg, by rw [List.getElem_take]; exact hc, by rw [List.getElem_take]; exact hb⟩
  · have hu : Try.prog.underlying 22 = some (.slice (Try.prog.elem 22)) := by kernel_rfl
    have hsz : (sizeOf (Try.prog.elem 22)).run Try.prog u = .ok 1 u := by kernel_rfl
    rw [run_sliceAt_slice (h := hu), run_slice_h (ht := hu) (h0 := by omega) (h2 := by omega), hsz]
    simp [Result.andThen, sliced]
    intro _
    cases ao <;> simp [Addr.add]

theorem optionSize_any (v : Value) (L : List Nat) (w : World) (hv : SeesB w v L) (hne : L ≠ []) (hl : L.length ≤ 1099511627776) :
    Calls Try.prog 86 #[v] w fun e w' => e = .returned (.int .i64 ((M.opt L : Nat) : Int)) ∧ w' = w := by
  obtain ⟨ao, n, cap, rfl, HN, hn1, hn2⟩ := hv.shape
  unfold maxLen at hn2
  obtain ⟨R, hR⟩ : ∃ R, R = M.opt L := ⟨_, rfl⟩
  have HR := hid hR
  rw [← hR]
  clear hR
  match L, hne with
  | x :: t, _ =>
    have hn0 : 0 < n := by have := HN.out; simp at this; omega
    obtain ⟨g, off, x', rfl, hg, hc, hx, HX⟩ := hv.at 0 hn0
    have hxe : x' = x := by have := HX.out; simpa using this.symm
    subst hxe
    rw [Nat.add_zero] at hc
    by_cases h1 : x' = 1
    · have HE : Hid (R = 1) := by unfold Hid; rw [HR.out, h1]; cases t <;> simp [M.opt]
      have hq : ((x' : Int) == 1) = true := by simp [h1]
      clear h1 hv HX
      go_enter Try.func86, Try.ntmps86
      go_wp2_with fail
      go_ret
      exact ⟨ret_int (by rw [HE.out]; rfl), rfl⟩
    · have hq : ((x' : Int) == 1) = false := by simp; omega
      match t with
      | [] =>
        have HE : Hid (R = 0) := by unfold Hid; rw [HR.out]; simp [M.opt, h1]
        obtain rfl : n = 1 := by have := HN.out; simpa using this
        clear h1 hv HX
        go_enter Try.func86, Try.ntmps86
        go_wp2_with fail
        go_ret
        exact ⟨ret_int (by rw [HE.out]; rfl), rfl⟩
      | y :: t =>
        have hn2' : 2 ≤ n := by have := HN.out; simp at this; omega
        obtain ⟨g', off', y', he, hg', hcy, hy, HY⟩ := hv.at 1 (by omega)
        simp at he
        obtain ⟨rfl, rfl⟩ := he
        have hye : y' = y := by have := HY.out; simpa using this.symm
        subst hye
        have HNT : Hid (t.length + 2 = n) := by have := HN.out; simp at this; unfold Hid; omega
        have hnl : n ≤ 1099511627776 := by have := HNT.out; simp at hl; omega
        by_cases hy2 : y' < 2
        · have HE : Hid (R = 0) := by unfold Hid; rw [HR.out]; simp only [M.opt]; rw [if_neg h1, if_pos (.inl hy2)]
          clear h1 hv HX HY hl
          go_enter Try.func86, Try.ntmps86
          go_wp2_with fail
          go_ret
          exact ⟨ret_int (by rw [HE.out]; rfl), rfl⟩
        · by_cases hy3 : n < y'
          · have HE : Hid (R = 0) := by unfold Hid; rw [HR.out]; simp only [M.opt]; rw [if_neg h1, if_pos (.inr (by have := HNT.out; omega))]
            clear h1 hv HX HY hl
            go_enter Try.func86, Try.ntmps86
            go_wp2_with fail
            go_ret
            exact ⟨ret_int (by rw [HE.out]; rfl), rfl⟩
          · have HE : Hid (R = y') := by unfold Hid; rw [HR.out]; simp only [M.opt]; rw [if_neg h1, if_neg (by have := HNT.out; omega)]
            clear h1 hv HX HY hl
            go_enter Try.func86, Try.ntmps86
            go_wp2_with fail
            go_ret
            exact ⟨ret_int (by rw [HE.out]), rfl⟩

theorem allZero_any (v : Value) (L : List Nat) (w : World) (hv : SeesB w v L) :
    Calls Try.prog 87 #[v] w fun e w' => e = .returned (.bool (L.all (· == 0))) ∧ w' = w := by
  obtain ⟨ao, n, cap, rfl, HN, hn1, hn2⟩ := hv.shape
  unfold maxLen at hn2
  obtain ⟨R, hR⟩ : ∃ R, R = L.all (· == 0) := ⟨_, rfl⟩
  have HR := hid hR
  have HV := hid hv
  rw [← hR]
  clear hR hv
  go_enter Try.func87, Try.ntmps87
  go_wp2_with fail
  go_loop [4, 7] (fun _ i => ∃ k : Nat, i = .int .i64 k ∧ k ≤ n ∧ Hid (∀ m, m < k → L[m]? = some 0)) (fun _ i => n - (intOf i).toNat)
  case atStart => exact ⟨0, rfl, by omega, fun m h => absurd h (by omega)⟩
  case round =>
    obtain ⟨k, rfl, hk, HZ⟩ := hrel
    by_cases hlt : k < n
    · obtain ⟨g, off, y, rfl, hg, hc, hy, HY⟩ := HV.out.at k hlt
      by_cases hy0 : y = 0
      · have hq : ((y : Int) != 0) = false := by simp [hy0]
        have HZ2 : Hid (∀ m, m < k + 1 → L[m]? = some 0) := fun m h2 => by
          by_cases h3 : m < k
          · exact HZ.out m h3
          · rw [show m = k by omega, HY.out, hy0]
        clear hy0
        go_wp2_with fail
        go_round
        case rel => exact ⟨k + 1, by go_num, by omega, HZ2⟩
        case measure => simp [intOf]; omega
      · have hq : ((y : Int) != 0) = true := by simp; omega
        have HE : Hid (R = false) := by
          unfold Hid; rw [HR.out, List.all_eq_false]
          exact ⟨y, List.mem_iff_getElem?.2 ⟨k, HY.out⟩, by simpa using hy0⟩
        clear hy0
        go_wp2_with fail
        go_ret
        exact ⟨ret_bool (by rw [HE.out]), rfl⟩
    · have HE : Hid (R = true) := by
        unfold Hid; rw [HR.out, List.all_eq_true]
        intro z hz
        obtain ⟨m, hm⟩ := List.mem_iff_getElem?.1 hz
        have h3 : m < n := by have := (List.getElem?_eq_some_iff.1 hm).1; have := HN.out; omega
        have h4 := HZ.out m (by omega)
        rw [h4] at hm; simp at hm; simp [← hm]
      go_wp2_with fail
      go_ret
      exact ⟨ret_bool (by rw [HE.out]), rfl⟩

theorem okO_zero {t : List Nat} : M.okO (0 :: t) = (0 :: t).all (· == 0) := by
  cases h : (0 :: t).all (· == 0) with
  | true => rw [M.okO_some (by simp) (M.nxt_zero_ok h), List.drop_length, M.okO_nil]
  | false => exact M.okO_none (by simp) (M.nxt_zero_no h)

theorem okO_step {r : List Nat} (hr : r ≠ []) (h0 : r.head? ≠ some 0) : M.okO r = if M.opt r = 0 then false else M.okO (r.drop (M.opt r)) := by
  by_cases h : M.opt r = 0
  · rw [if_pos h]; exact M.okO_none hr (by unfold M.nxt; rw [if_neg h0, if_pos h])
  · rw [if_neg h]; exact M.okO_some hr (by unfold M.nxt; rw [if_neg h0, if_neg h])

theorem show_any (v : Value) (w : World) : Calls Try.prog 56 #[v] w fun e w' => e = .returned (.tuple #[]) ∧ w' = w := by
  go_enter Try.func56, Try.ntmps56
  go_wp2_with fail
  exact bodyPost_end (results_none Try.results56 _ _ _) rfl ⟨rfl, rfl⟩

theorem walkO_any (v : Value) (L : List Nat) (w : World) (hv : SeesB w v L) :
    Calls Try.prog 55 #[v, .func (.func 56) #[] #[]] w fun e w' => e = .returned (.bool (M.area L)) ∧ w' = w := by
  obtain ⟨ao, n, cap, rfl, HN, hn1, hn2⟩ := hv.shape
  unfold maxLen at hn2
  have HV := hid hv
  clear hv
  obtain ⟨R, hR⟩ : ∃ R, R = M.area L := ⟨_, rfl⟩
  have HR := hid hR
  rw [← hR]
  clear hR
  by_cases h40 : 40 < n
  · have HE : Hid (R = false) := by
      unfold Hid; rw [HR.out]; unfold M.area; have := HN.out; rw [decide_eq_false (by omega)]; rfl
    go_enter Try.func55, Try.ntmps55
    go_wp2_with fail
    go_ret
    exact ⟨ret_bool (by rw [HE.out]), rfl⟩
  · by_cases h4 : n % 4 = 0
    · have hq : ((n : Int) % 4 != 0) = false := by simp; omega
      have HA : Hid (R = M.okO L) := by
        unfold Hid; rw [HR.out]; unfold M.area; have := HN.out; rw [decide_eq_true (by omega), decide_eq_true (by omega)]; rfl
      have HN40 : Hid (L.length ≤ 40) := by have := HN.out; unfold Hid; omega
      clear h4 HR
      go_enter Try.func55, Try.ntmps55
      go_wp2_with fail
      go_loop [0, 5] (fun p _ => ∃ r : List Nat, Hid (SeesB w p r) ∧ Hid (R = M.okO r) ∧ Hid (r.length ≤ 40)) (fun p _ => lenOf p)
      case atStart => exact ⟨L, HV, HA, HN40⟩
      case round =>
        clear HV HN HA HN40 h40
        obtain ⟨r, HV, HA, H40⟩ := hrel
        obtain ⟨ar, nr, capr, rfl, HNR, hr1, hr2⟩ := HV.out.shape
        unfold maxLen at hr2
        by_cases h0 : 0 < nr
        · obtain ⟨g, off, x, rfl, hg, hc, hx, HX⟩ := HV.out.at 0 h0
          rw [Nat.add_zero] at hc
          have hne : r ≠ [] := by intro e; have := HNR.out; rw [e] at this; simp at this; omega
          have hhd : r.head? = some x := by rw [List.head?_eq_getElem?]; exact HX.out
          by_cases hx0 : x = 0
          · have hq2 : ((x : Int) != 0) = false := by simp [hx0]
            have HE : Hid (R = r.all (· == 0)) := by
              unfold Hid; rw [HA.out]
              cases r with
              | nil => exact absurd rfl hne
              | cons y t => simp at hhd; rw [hhd, hx0]; exact okO_zero
            clear hx0 hne hhd
            go_wp2_with fail
            refine (allZero_any _ r _ HV.out).mono ?_
            rintro _ _ ⟨rfl, rfl⟩
            go_wp2_with fail
            go_ret
            exact ⟨ret_bool (by rw [HE.out]), rfl⟩
          · have hq2 : ((x : Int) != 0) = true := by simp; omega
            have hstep := okO_step hne (by rw [hhd]; simp; exact hx0)
            have HC := hid (optionSize_any _ r w HV.out hne (by have := H40.out; omega))
            have hole : M.opt r ≤ nr := by have := M.opt_le r; have := HNR.out; omega
            obtain ⟨z, hz⟩ : ∃ z, z = M.opt r := ⟨_, rfl⟩
            rw [← hz] at hstep HC hole
            by_cases hz0 : z = 0
            · have HE : Hid (R = false) := by unfold Hid; rw [HA.out, hstep, if_pos hz0]
              have hq3 : ((z : Int) == 0) = true := by simp [hz0]
              clear hz hz0 hstep hx0 hne hhd
              go_wp2_with fail
              refine HC.out.mono ?_
              rintro _ _ ⟨rfl, rfl⟩
              go_wp2_with fail
              go_ret
              exact ⟨ret_bool (by rw [HE.out]), rfl⟩
            · have HE : Hid (R = M.okO (r.drop z)) := by unfold Hid; rw [HA.out, hstep, if_neg hz0]
              have hq3 : ((z : Int) == 0) = false := by simp; omega
              have HZ := hid (show 0 < z by omega)
              obtain ⟨ah, HSH, hhigh⟩ := HV.out.high z (z : Int) rfl hole
              obtain ⟨al, HSL, hlow⟩ := HV.out.low z (z : Int) rfl hole
              have HD40 : Hid ((r.drop z).length ≤ 40) := by have := H40.out; unfold Hid; rw [List.length_drop]; omega
              clear hz hz0 hstep hx0 hne hhd
              go_wp2_with fail
              refine HC.out.mono ?_
              rintro _ _ ⟨rfl, rfl⟩
              go_wp2_with fail
              refine (show_any _ _).mono ?_
              rintro _ _ ⟨rfl, rfl⟩
              go_wp2_with fail
              go_round
              case rel => exact ⟨r.drop z, HSL, HE, HD40⟩
              case measure => (have := HZ.out; simp [lenOf]; omega)
        · have HE : Hid (R = r.all (· == 0)) := by
            have h1 : r = [] := List.eq_nil_of_length_eq_zero (by have := HNR.out; omega)
            unfold Hid; rw [HA.out, h1, M.okO_nil]; rfl
          go_wp2_with fail
          refine (allZero_any _ r _ HV.out).mono ?_
          rintro _ _ ⟨rfl, rfl⟩
          go_wp2_with fail
          go_ret
          exact ⟨ret_bool (by rw [HE.out]), rfl⟩
    · have hq : ((n : Int) % 4 != 0) = true := by simp; omega
      have HE : Hid (R = false) := by
        unfold Hid; rw [HR.out]; unfold M.area; have := HN.out; rw [decide_eq_false (p := L.length % 4 = 0) (by omega)]; simp
      clear h4 HR
      go_enter Try.func55, Try.ntmps55
      go_wp2_with fail
      go_ret
      exact ⟨ret_bool (by rw [HE.out]), rfl⟩

theorem area_code (v : Value) (L : List Nat) (w : World) (hv : SeesB w v L) :
    Calls Try.prog 28 #[v] w fun e w' => e = .returned (.bool (M.area L)) ∧ w' = w := by
  go_enter Try.func28, Try.ntmps28
  go_wp2_with fail
  refine (walkO_any v L w hv).mono ?_
  rintro _ _ ⟨rfl, rfl⟩
  go_wp2_with fail
  go_ret
  exact ⟨rfl, rfl⟩

theorem piece_code (off : Int) (n : Nat) (more : Bool) (w : World) (ho : -9223372036854775808 ≤ off ∧ off ≤ 9223372036854775807) (hn : n ≤ 4611686018427387904) :
    Calls Try.prog 29 #[.int .i64 off, .int .i64 n, .bool more] w fun e w' => e = .returned (.bool (M.pieceOk off n more)) ∧ w' = w := by
  obtain ⟨R, hR⟩ : ∃ R, R = M.pieceOk off n more := ⟨_, rfl⟩
  have HR := hid hR
  rw [← hR]
  clear hR
  obtain ⟨ho1, ho2⟩ := ho
  by_cases h1 : off < 0
  · have HE : Hid (R = false) := by
      unfold Hid; rw [HR.out]; unfold M.pieceOk; rw [decide_eq_false (p := 0 ≤ off) (by omega)]; rfl
    go_enter Try.func29, Try.ntmps29
    go_wp2_with fail
    go_ret
    exact ⟨ret_bool (by rw [HE.out]), rfl⟩
  · by_cases h2 : 65528 < off
    · have HE : Hid (R = false) := by
        unfold Hid; rw [HR.out]; unfold M.pieceOk; rw [decide_eq_false (p := off ≤ 65528) (by omega)]; simp
      go_enter Try.func29, Try.ntmps29
      go_wp2_with fail
      go_ret
      exact ⟨ret_bool (by rw [HE.out]), rfl⟩
    · by_cases h3 : off % 8 = 0
      · have hq : (off % 8 != 0) = false := by simp [h3]
        by_cases h4 : 65535 - off < n
        · have HE : Hid (R = false) := by
            unfold Hid; rw [HR.out]; unfold M.pieceOk; rw [decide_eq_false (p := off + n ≤ 65535) (by omega)]; simp
          clear h3
          go_enter Try.func29, Try.ntmps29
          go_wp2_with fail
          go_ret
          exact ⟨ret_bool (by rw [HE.out]), rfl⟩
        · have HE : Hid (R = (!more || (decide (0 < n) && decide (n % 8 = 0)))) := by
            unfold Hid; rw [HR.out]; unfold M.pieceOk; rw [decide_eq_true (p := 0 ≤ off) (by omega), decide_eq_true (p := off ≤ 65528) (by omega), decide_eq_true h3, decide_eq_true (p := off + n ≤ 65535) (by omega)]; simp
          clear h3
          cases more with
          | false =>
            go_enter Try.func29, Try.ntmps29
            go_wp2_with fail
            go_ret
            exact ⟨ret_bool (by rw [HE.out]; rfl), rfl⟩
          | true =>
            by_cases h5 : 0 < n
            · by_cases h6 : n % 8 = 0
              · have hq2 : ((n : Int) % 8 == 0) = true := by simp; omega
                have HE2 : Hid (R = true) := by unfold Hid; rw [HE.out]; simp [h5, h6]
                clear h6
                go_enter Try.func29, Try.ntmps29
                go_wp2_with fail
                go_ret
                exact ⟨ret_bool (by rw [HE2.out]), rfl⟩
              · have hq2 : ((n : Int) % 8 == 0) = false := by simp; omega
                have HE2 : Hid (R = false) := by unfold Hid; rw [HE.out]; simp [h6]
                clear h6
                go_enter Try.func29, Try.ntmps29
                go_wp2_with fail
                go_ret
                exact ⟨ret_bool (by rw [HE2.out]), rfl⟩
            · obtain rfl : n = 0 := by omega
              have HE2 : Hid (R = false) := by unfold Hid; rw [HE.out]; simp
              go_enter Try.func29, Try.ntmps29
              go_wp2_with fail
              go_ret
              exact ⟨ret_bool (by rw [HE2.out]), rfl⟩
      · have hq : (off % 8 != 0) = true := by simp; omega
        have HE : Hid (R = false) := by
          unfold Hid; rw [HR.out]; unfold M.pieceOk; rw [decide_eq_false h3]; simp
        clear h3
        go_enter Try.func29, Try.ntmps29
        go_wp2_with fail
        go_ret
        exact ⟨ret_bool (by rw [HE.out]), rfl⟩
end Go.Proofs.Ytdoeebbcieiimaa
