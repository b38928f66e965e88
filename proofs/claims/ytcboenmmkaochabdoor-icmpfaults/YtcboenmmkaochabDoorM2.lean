import Derived.Test.YtcboenmmkaochabDoorM1
import Derived.Deep.RegionHeld3
import Derived.Deep.RegionWith
import Derived.Laws.CopyOwn
import Derived.Laws.MakeOwn
namespace Go.Proofs.YtcboenmmkaochabDoor.N
open Go.ChangeShapes Go.WideShapes Go.ChangeAt Go.RowKit
set_option maxHeartbeats 400000
set_option maxRecDepth 100000

/-- A cut 'x[:m]': its address is kept a letter. -/
theorem SeesB.high {w : World} {ao : Option Addr} {n cap : Nat} {L : List Nat} (h : SeesB w (.slice ao n cap) L) (m : Nat) (i : Int) (hi : i = m) (hm : m ≤ n) :
    ∃ ao', Hid (SeesB w (.slice ao' m cap) (L.take m)) ∧ ∀ u : World, (Instr.sliceAt 26 (.slice ao n cap) none (some (.int .i64 i)) none).run Tryd.prog u = .ok (.slice ao' m cap) u := by
  subst hi
  have h0 := h
  obtain ⟨ao1, cap1, hv, h1, h2, h3⟩ := h
  simp at hv
  obtain ⟨rfl, hlen, rfl⟩ := hv
  refine ⟨ao, ?_, fun u => ?_⟩
  · refine ⟨ao, cap, by rw [List.length_take]; congr 1; omega, ⟨by rw [List.length_take]; omega, h1.2⟩, h2, fun j hj => ?_⟩
    rw [List.length_take] at hj
    obtain ⟨g, off, ha, hg, hc, hb⟩ := h3 j (by omega)
    exact ⟨g, off, ha, hg, by rw [List.getElem_take]; exact hc, by rw [List.getElem_take]; exact hb⟩
  · have hu : Tryd.prog.underlying 26 = some (.slice (Tryd.prog.elem 26)) := by kernel_rfl
    have hsz : (sizeOf (Tryd.prog.elem 26)).run Tryd.prog u = .ok 1 u := by kernel_rfl
    rw [run_sliceAt_slice (h := hu), run_slice_h (ht := hu) (h0 := by omega) (h2 := by omega), hsz]
    simp [Result.andThen, sliced]
    intro _
    cases ao <;> simp [Addr.add]

theorem optionSize_any (v : Value) (L : List Nat) (w : World) (hv : SeesB w v L) (hne : L ≠ []) (hl : L.length ≤ 1099511627776) :
    Calls Tryd.prog 90 #[v] w fun e w' => e = .returned (.int .i64 ((M.opt L : Nat) : Int)) ∧ w' = w := by
  obtain ⟨ao, n, cap, rfl, HN, hn1, hn2⟩ := hv.shape
  unfold maxLen at hn2
  obtain ⟨R, hR⟩ : ∃ R, R = M.opt L := ⟨_, rfl⟩
  have HR := hid hR
  rw [← hR]
  clear hR
  match L, hne with
  | x :: t, _ =>
    have hn0 : 0 < n := by have := HN.out; simp at this; omega
    obtain ⟨g, off, x', rfl, hg, hc, hx, HX⟩ := hv.at 0 hn0
    have hxe : x' = x := by have := HX.out; simpa using this.symm
    subst hxe
    rw [Nat.add_zero] at hc
    by_cases h1 : x' = 1
    · have HE : Hid (R = 1) := by unfold Hid; rw [HR.out, h1]; cases t <;> simp [M.opt]
      have hq : ((x' : Int) == 1) = true := by simp [h1]
      clear h1 hv HX
      go_enter Tryd.func90, Tryd.ntmps90
      go_wp2_with fail
      go_ret
      exact ⟨ret_int (by rw [HE.out]; rfl), rfl⟩
    · have hq : ((x' : Int) == 1) = false := by simp; omega
      match t with
      | [] =>
        have HE : Hid (R = 0) := by unfold Hid; rw [HR.out]; simp [M.opt, h1]
        obtain rfl : n = 1 := by have := HN.out; simpa using this
        clear h1 hv HX
        go_enter Tryd.func90, Tryd.ntmps90
        go_wp2_with fail
        go_ret
        exact ⟨ret_int (by rw [HE.out]; rfl), rfl⟩
      | y :: t =>
        have hn2' : 2 ≤ n := by have := HN.out; simp at this; omega
        obtain ⟨g', off', y', he, hg', hcy, hy, HY⟩ := hv.at 1 (by omega)
        simp at he
        obtain ⟨rfl, rfl⟩ := he
        have hye : y' = y := by have := HY.out; simpa using this.symm
        subst hye
        have HNT : Hid (t.length + 2 = n) := by have := HN.out; simp at this; unfold Hid; omega
        have hnl : n ≤ 1099511627776 := by have := HNT.out; simp at hl; omega
        by_cases hy2 : y' < 2
        · have HE : Hid (R = 0) := by unfold Hid; rw [HR.out]; simp only [M.opt]; rw [if_neg h1, if_pos (.inl hy2)]
          clear h1 hv HX HY hl
          go_enter Tryd.func90, Tryd.ntmps90
          go_wp2_with fail
          go_ret
          exact ⟨ret_int (by rw [HE.out]; rfl), rfl⟩
        · by_cases hy3 : n < y'
          · have HE : Hid (R = 0) := by unfold Hid; rw [HR.out]; simp only [M.opt]; rw [if_neg h1, if_pos (.inr (by have := HNT.out; omega))]
            clear h1 hv HX HY hl
            go_enter Tryd.func90, Tryd.ntmps90
            go_wp2_with fail
            go_ret
            exact ⟨ret_int (by rw [HE.out]; rfl), rfl⟩
          · have HE : Hid (R = y') := by unfold Hid; rw [HR.out]; simp only [M.opt]; rw [if_neg h1, if_neg (by have := HNT.out; omega)]
            clear h1 hv HX HY hl
            go_enter Tryd.func90, Tryd.ntmps90
            go_wp2_with fail
            go_ret
            exact ⟨ret_int (by rw [HE.out]), rfl⟩

theorem allZero_any (v : Value) (L : List Nat) (w : World) (hv : SeesB w v L) :
    Calls Tryd.prog 91 #[v] w fun e w' => e = .returned (.bool (L.all (· == 0))) ∧ w' = w := by
  obtain ⟨ao, n, cap, rfl, HN, hn1, hn2⟩ := hv.shape
  unfold maxLen at hn2
  obtain ⟨R, hR⟩ : ∃ R, R = L.all (· == 0) := ⟨_, rfl⟩
  have HR := hid hR
  have HV := hid hv
  rw [← hR]
  clear hR hv
  go_enter Tryd.func91, Tryd.ntmps91
  go_wp2_with fail
  go_loop [4, 7] (fun _ i => ∃ k : Nat, i = .int .i64 k ∧ k ≤ n ∧ Hid (∀ m, m < k → L[m]? = some 0)) (fun _ i => n - (intOf i).toNat)
  case atStart => exact ⟨0, rfl, by omega, fun m h => absurd h (by omega)⟩
  case round =>
    obtain ⟨k, rfl, hk, HZ⟩ := hrel
    by_cases hlt : k < n
    · obtain ⟨g, off, y, rfl, hg, hc, hy, HY⟩ := HV.out.at k hlt
      by_cases hy0 : y = 0
      · have hq : ((y : Int) != 0) = false := by simp [hy0]
        have HZ2 : Hid (∀ m, m < k + 1 → L[m]? = some 0) := fun m h2 => by
          by_cases h3 : m < k
          · exact HZ.out m h3
          · rw [show m = k by omega, HY.out, hy0]
        clear hy0
        go_wp2_with fail
        go_round
        case rel => exact ⟨k + 1, by go_num, by omega, HZ2⟩
        case measure => simp [intOf]; omega
      · have hq : ((y : Int) != 0) = true := by simp; omega
        have HE : Hid (R = false) := by
          unfold Hid; rw [HR.out, List.all_eq_false]
          exact ⟨y, List.mem_iff_getElem?.2 ⟨k, HY.out⟩, by simpa using hy0⟩
        clear hy0
        go_wp2_with fail
        go_ret
        exact ⟨ret_bool (by rw [HE.out]), rfl⟩
    · have HE : Hid (R = true) := by
        unfold Hid; rw [HR.out, List.all_eq_true]
        intro z hz
        obtain ⟨m, hm⟩ := List.mem_iff_getElem?.1 hz
        have h3 : m < n := by have := (List.getElem?_eq_some_iff.1 hm).1; have := HN.out; omega
        have h4 := HZ.out m (by omega)
        rw [h4] at hm; simp at hm; simp [← hm]
      go_wp2_with fail
      go_ret
      exact ⟨ret_bool (by rw [HE.out]), rfl⟩

theorem okO_zero {t : List Nat} : M.okO (0 :: t) = (0 :: t).all (· == 0) := by
  cases h : (0 :: t).all (· == 0) with
  | true => rw [M.okO_some (by simp) (M.nxt_zero_ok h), List.drop_length, M.okO_nil]
  | false => exact M.okO_none (by simp) (M.nxt_zero_no h)

theorem okO_step {r : List Nat} (hr : r ≠ []) (h0 : r.head? ≠ some 0) : M.okO r = if M.opt r = 0 then false else M.okO (r.drop (M.opt r)) := by
  by_cases h : M.opt r = 0
  · rw [if_pos h]; exact M.okO_none hr (by unfold M.nxt; rw [if_neg h0, if_pos h])
  · rw [if_neg h]; exact M.okO_some hr (by unfold M.nxt; rw [if_neg h0, if_neg h])

theorem show_any (v : Value) (w : World) : Calls Tryd.prog 75 #[v] w fun e w' => e = .returned (.tuple #[]) ∧ w' = w := by
  go_enter Tryd.func75, Tryd.ntmps75
  go_wp2_with fail
  exact bodyPost_end (results_none Tryd.results75 _ _ _) rfl ⟨rfl, rfl⟩

theorem walkO_any (v : Value) (L : List Nat) (w : World) (hv : SeesB w v L) :
    Calls Tryd.prog 74 #[v, .func (.func 75) #[] #[]] w fun e w' => e = .returned (.bool (M.area L)) ∧ w' = w := by
  obtain ⟨ao, n, cap, rfl, HN, hn1, hn2⟩ := hv.shape
  unfold maxLen at hn2
  have HV := hid hv
  clear hv
  obtain ⟨R, hR⟩ : ∃ R, R = M.area L := ⟨_, rfl⟩
  have HR := hid hR
  rw [← hR]
  clear hR
  by_cases h40 : 40 < n
  · have HE : Hid (R = false) := by
      unfold Hid; rw [HR.out]; unfold M.area; have := HN.out; rw [decide_eq_false (by omega)]; rfl
    go_enter Tryd.func74, Tryd.ntmps74
    go_wp2_with fail
    go_ret
    exact ⟨ret_bool (by rw [HE.out]), rfl⟩
  · by_cases h4 : n % 4 = 0
    · have hq : ((n : Int) % 4 != 0) = false := by simp; omega
      have HA : Hid (R = M.okO L) := by
        unfold Hid; rw [HR.out]; unfold M.area; have := HN.out; rw [decide_eq_true (by omega), decide_eq_true (by omega)]; rfl
      have HN40 : Hid (L.length ≤ 40) := by have := HN.out; unfold Hid; omega
      clear h4 HR
      go_enter Tryd.func74, Tryd.ntmps74
      go_wp2_with fail
      go_loop [0, 5] (fun p _ => ∃ r : List Nat, Hid (SeesB w p r) ∧ Hid (R = M.okO r) ∧ Hid (r.length ≤ 40)) (fun p _ => lenOf p)
      case atStart => exact ⟨L, HV, HA, HN40⟩
      case round =>
        clear HV HN HA HN40 h40
        obtain ⟨r, HV, HA, H40⟩ := hrel
        obtain ⟨ar, nr, capr, rfl, HNR, hr1, hr2⟩ := HV.out.shape
        unfold maxLen at hr2
        by_cases h0 : 0 < nr
        · obtain ⟨g, off, x, rfl, hg, hc, hx, HX⟩ := HV.out.at 0 h0
          rw [Nat.add_zero] at hc
          have hne : r ≠ [] := by intro e; have := HNR.out; rw [e] at this; simp at this; omega
          have hhd : r.head? = some x := by rw [List.head?_eq_getElem?]; exact HX.out
          by_cases hx0 : x = 0
          · have hq2 : ((x : Int) != 0) = false := by simp [hx0]
            have HE : Hid (R = r.all (· == 0)) := by
              unfold Hid; rw [HA.out]
              cases r with
              | nil => exact absurd rfl hne
              | cons y t => simp at hhd; rw [hhd, hx0]; exact okO_zero
            clear hx0 hne hhd
            go_wp2_with fail
            refine (allZero_any _ r _ HV.out).mono ?_
            rintro _ _ ⟨rfl, rfl⟩
            go_wp2_with fail
            go_ret
            exact ⟨ret_bool (by rw [HE.out]), rfl⟩
          · have hq2 : ((x : Int) != 0) = true := by simp; omega
            have hstep := okO_step hne (by rw [hhd]; simp; exact hx0)
            have HC := hid (optionSize_any _ r w HV.out hne (by have := H40.out; omega))
            have hole : M.opt r ≤ nr := by have := M.opt_le r; have := HNR.out; omega
            obtain ⟨z, hz⟩ : ∃ z, z = M.opt r := ⟨_, rfl⟩
            rw [← hz] at hstep HC hole
            by_cases hz0 : z = 0
            · have HE : Hid (R = false) := by unfold Hid; rw [HA.out, hstep, if_pos hz0]
              have hq3 : ((z : Int) == 0) = true := by simp [hz0]
              clear hz hz0 hstep hx0 hne hhd
              go_wp2_with fail
              refine HC.out.mono ?_
              rintro _ _ ⟨rfl, rfl⟩
              go_wp2_with fail
              go_ret
              exact ⟨ret_bool (by rw [HE.out]), rfl⟩
            · have HE : Hid (R = M.okO (r.drop z)) := by unfold Hid; rw [HA.out, hstep, if_neg hz0]
              have hq3 : ((z : Int) == 0) = false := by simp; omega
              have HZ := hid (show 0 < z by omega)
              obtain ⟨ah, HSH, hhigh⟩ := HV.out.high z (z : Int) rfl hole
              obtain ⟨al, HSL, hlow⟩ := HV.out.low z (z : Int) rfl hole
              have HD40 : Hid ((r.drop z).length ≤ 40) := by have := H40.out; unfold Hid; rw [List.length_drop]; omega
              clear hz hz0 hstep hx0 hne hhd
              go_wp2_with fail
              refine HC.out.mono ?_
              rintro _ _ ⟨rfl, rfl⟩
              go_wp2_with fail
              refine (show_any _ _).mono ?_
              rintro _ _ ⟨rfl, rfl⟩
              go_wp2_with fail
              go_round
              case rel => exact ⟨r.drop z, HSL, HE, HD40⟩
              case measure => (have := HZ.out; simp [lenOf]; omega)
        · have HE : Hid (R = r.all (· == 0)) := by
            have h1 : r = [] := List.eq_nil_of_length_eq_zero (by have := HNR.out; omega)
            unfold Hid; rw [HA.out, h1, M.okO_nil]; rfl
          go_wp2_with fail
          refine (allZero_any _ r _ HV.out).mono ?_
          rintro _ _ ⟨rfl, rfl⟩
          go_wp2_with fail
          go_ret
          exact ⟨ret_bool (by rw [HE.out]), rfl⟩
    · have hq : ((n : Int) % 4 != 0) = true := by simp; omega
      have HE : Hid (R = false) := by
        unfold Hid; rw [HR.out]; unfold M.area; have := HN.out; rw [decide_eq_false (p := L.length % 4 = 0) (by omega)]; simp
      clear h4 HR
      go_enter Tryd.func74, Tryd.ntmps74
      go_wp2_with fail
      go_ret
      exact ⟨ret_bool (by rw [HE.out]), rfl⟩

theorem area_code (v : Value) (L : List Nat) (w : World) (hv : SeesB w v L) :
    Calls Tryd.prog 63 #[v] w fun e w' => e = .returned (.bool (M.area L)) ∧ w' = w := by
  go_enter Tryd.func63, Tryd.ntmps63
  go_wp2_with fail
  refine (walkO_any v L w hv).mono ?_
  rintro _ _ ⟨rfl, rfl⟩
  go_wp2_with fail
  go_ret
  exact ⟨rfl, rfl⟩

theorem piece_code (off : Int) (n : Nat) (more : Bool) (w : World) (ho : -9223372036854775808 ≤ off ∧ off ≤ 9223372036854775807) (hn : n ≤ 4611686018427387904) :
    Calls Tryd.prog 64 #[.int .i64 off, .int .i64 n, .bool more] w fun e w' => e = .returned (.bool (M.pieceOk off n more)) ∧ w' = w := by
  obtain ⟨R, hR⟩ : ∃ R, R = M.pieceOk off n more := ⟨_, rfl⟩
  have HR := hid hR
  rw [← hR]
  clear hR
  obtain ⟨ho1, ho2⟩ := ho
  by_cases h1 : off < 0
  · have HE : Hid (R = false) := by
      unfold Hid; rw [HR.out]; unfold M.pieceOk; rw [decide_eq_false (p := 0 ≤ off) (by omega)]; rfl
    go_enter Tryd.func64, Tryd.ntmps64
    go_wp2_with fail
    go_ret
    exact ⟨ret_bool (by rw [HE.out]), rfl⟩
  · by_cases h2 : 65528 < off
    · have HE : Hid (R = false) := by
        unfold Hid; rw [HR.out]; unfold M.pieceOk; rw [decide_eq_false (p := off ≤ 65528) (by omega)]; simp
      go_enter Tryd.func64, Tryd.ntmps64
      go_wp2_with fail
      go_ret
      exact ⟨ret_bool (by rw [HE.out]), rfl⟩
    · by_cases h3 : off % 8 = 0
      · have hq : (off % 8 != 0) = false := by simp [h3]
        by_cases h4 : 65535 - off < n
        · have HE : Hid (R = false) := by
            unfold Hid; rw [HR.out]; unfold M.pieceOk; rw [decide_eq_false (p := off + n ≤ 65535) (by omega)]; simp
          clear h3
          go_enter Tryd.func64, Tryd.ntmps64
          go_wp2_with fail
          go_ret
          exact ⟨ret_bool (by rw [HE.out]), rfl⟩
        · have HE : Hid (R = (!more || (decide (0 < n) && decide (n % 8 = 0)))) := by
            unfold Hid; rw [HR.out]; unfold M.pieceOk; rw [decide_eq_true (p := 0 ≤ off) (by omega), decide_eq_true (p := off ≤ 65528) (by omega), decide_eq_true h3, decide_eq_true (p := off + n ≤ 65535) (by omega)]; simp
          clear h3
          cases more with
          | false =>
            go_enter Tryd.func64, Tryd.ntmps64
            go_wp2_with fail
            go_ret
            exact ⟨ret_bool (by rw [HE.out]; rfl), rfl⟩
          | true =>
            by_cases h5 : 0 < n
            · by_cases h6 : n % 8 = 0
              · have hq2 : ((n : Int) % 8 == 0) = true := by simp; omega
                have HE2 : Hid (R = true) := by unfold Hid; rw [HE.out]; simp [h5, h6]
                clear h6
                go_enter Tryd.func64, Tryd.ntmps64
                go_wp2_with fail
                go_ret
                exact ⟨ret_bool (by rw [HE2.out]), rfl⟩
              · have hq2 : ((n : Int) % 8 == 0) = false := by simp; omega
                have HE2 : Hid (R = false) := by unfold Hid; rw [HE.out]; simp [h6]
                clear h6
                go_enter Tryd.func64, Tryd.ntmps64
                go_wp2_with fail
                go_ret
                exact ⟨ret_bool (by rw [HE2.out]), rfl⟩
            · obtain rfl : n = 0 := by omega
              have HE2 : Hid (R = false) := by unfold Hid; rw [HE.out]; simp
              go_enter Tryd.func64, Tryd.ntmps64
              go_wp2_with fail
              go_ret
              exact ⟨ret_bool (by rw [HE2.out]), rfl⟩
      · have hq : (off % 8 != 0) = true := by simp; omega
        have HE : Hid (R = false) := by
          unfold Hid; rw [HR.out]; unfold M.pieceOk; rw [decide_eq_false h3]; simp
        clear h3
        go_enter Tryd.func64, Tryd.ntmps64
        go_wp2_with fail
        go_ret
        exact ⟨ret_bool (by rw [HE.out]), rfl⟩
end Go.Proofs.YtcboenmmkaochabDoor.N

namespace Go.Proofs.YtcboenmmkaochabDoor.N
open Go.ChangeShapes Go.WideShapes Go.ChangeAt Go.RowKit
set_option maxHeartbeats 400000
set_option maxRecDepth 100000

theorem and_bit (f k : Nat) : f &&& 2 ^ k = 2 ^ k * (f / 2 ^ k % 2) := by
  apply Nat.eq_of_testBit_eq
  intro i
  rw [Nat.testBit_and, Nat.testBit_two_pow, Nat.testBit_two_pow_mul]
  have e : f / 2 ^ k % 2 = f / 2 ^ k % 2 ^ 1 := rfl
  rw [e, Nat.testBit_mod_two_pow, Nat.testBit_div_two_pow]
  by_cases h : k = i
  · subst h; simp
  · by_cases g : k < i
    · have h1 : ¬ i - k < 1 := by omega
      simp [h, h1]
    · have h1 : ¬ i ≥ k := by omega
      simp [h, h1]

theorem and_u16_bit (f k : Nat) (hf : f < 65536) (hk : k < 16) : bits .and .u16 (f : Int) ((2 ^ k : Nat) : Int) = ((2 ^ k * (f / 2 ^ k % 2) : Nat) : Int) := by
  have h1 : 2 ^ k < 65536 := by
    have := Nat.pow_lt_pow_right (a := 2) (by omega) hk
    simpa using this
  rw [u16_and_nat f (2 ^ k) hf h1, and_bit]

theorem and_u16_mask (f : Nat) (hf : f < 65536) : bits .and .u16 (f : Int) 8191 = ((f % 8192 : Nat) : Int) := by
  have := u16_and_nat f 8191 hf (by decide)
  rw [show (f &&& 8191) = f % 8192 from Nat.and_two_pow_sub_one_eq_mod f 13] at this
  exact this

theorem and_u8_mask (f : Nat) (hf : f < 256) : bits .and .u8 (f : Int) 15 = ((f % 16 : Nat) : Int) := by
  have := u8_and_nat f 15 hf (by decide)
  rw [show (f &&& 15) = f % 16 from Nat.and_two_pow_sub_one_eq_mod f 4] at this
  exact this

theorem or_u32 (x y : Nat) (hx : x < 65536) (hy : y < 65536) : bits .or .u32 ((x * 65536 : Nat) : Int) (y : Int) = ((x * 65536 + y : Nat) : Int) := by
  rw [u32_or_nat (x * 65536) y (by omega) (by omega)]
  congr 1
  have := Nat.two_pow_add_eq_or_of_lt (i := 16) (b := y) (by omega) x
  rw [Nat.mul_comm x 65536]
  exact this.symm

def byt (L : List Nat) (i : Nat) : Nat := L.getD i 0
def w16 (L : List Nat) (i : Nat) : Nat := byt L i * 256 + byt L (i + 1)
def w32 (L : List Nat) (i : Nat) : Nat := w16 L i * 65536 + w16 L (i + 2)

theorem byt_some {L : List Nat} {i x : Nat} (h : L[i]? = some x) : byt L i = x := by unfold byt; rw [List.getD_eq_getElem?_getD, h]; rfl

theorem byt_lt {L : List Nat} (h : ∀ x ∈ L, x < 256) (i : Nat) : byt L i < 256 := by
  unfold byt
  rw [List.getD_eq_getElem?_getD]
  cases e : L[i]? with
  | none => simp
  | some x => simpa using h x (List.mem_of_getElem? e)

theorem w16_lt {L : List Nat} (h : ∀ x ∈ L, x < 256) (i : Nat) : w16 L i < 65536 := by
  have h1 := byt_lt h i
  have h2 := byt_lt h (i + 1)
  unfold w16; omega

theorem SeesB.atB {w : World} {ao : Option Addr} {n cap : Nat} {L : List Nat} (h : SeesB w (.slice ao n cap) L) (j : Nat) (hj : j < n) : ∃ (g off : Nat), ao = some ⟨g, off, none⟩ ∧ g < w.heap.size ∧ w.cell? ⟨g, off + j, none⟩ = some (.int .u8 ((byt L j : Nat) : Int)) := by
  obtain ⟨g, off, p, ha, hg, hc, hp, HP⟩ := h.at j hj
  exact ⟨g, off, ha, hg, by rw [hc, byt_some HP.out]⟩

theorem below_drewN {B : Nat} {a w : World} (h : Below B a w) (n : Nat) : Below B a (w.drewN n) := ⟨h.os, h.tape, h.output, h.size, h.block⟩

/-- Two bytes at a slice's head: one draw. -/
theorem read16_x (v : Value) (L : List Nat) (w : World) (hv : SeesB w v L) (hl : 2 ≤ L.length) :
    Calls Tryd.prog 54 #[v] w fun e w' => e = .returned (.int .u16 ((w16 L 0 : Nat) : Int)) ∧ w' = w.drew := by
  obtain ⟨ao, n, cap, rfl, HN, hn1, hn2⟩ := hv.shape
  have h2 : 2 ≤ n := by have := HN.out; omega
  obtain ⟨g, off, rfl, hg, hc0⟩ := hv.atB 0 (by omega)
  obtain ⟨g', off', he, hg', hc1⟩ := hv.atB 1 (by omega)
  simp at he
  obtain ⟨rfl, rfl⟩ := he
  have hp := byt_lt hv.bytes 0
  have hq := byt_lt hv.bytes 1
  have HR : Hid (bits .or .u16 ((byt L 0 * 256 : Nat) : Int) (byt L 1 : Int) = ((w16 L 0 : Nat) : Int)) := by unfold Hid; rw [or_u16 _ _ hp hq]; rfl
  generalize w16 L 0 = r at *
  generalize byt L 0 = p at *
  generalize byt L 1 = q at *
  clear hv
  rw [Nat.add_zero] at hc0
  have b0 : 0 < n := by omega
  have b1 : 1 < n := by omega
  go_enter Tryd.func54, Tryd.ntmps54
  go_wp2
  go_region
  go_wp2
  go_ret
  exact ⟨ret_int (by rw [← HR.out]; simp), rfl⟩

theorem w16_drop (L : List Nat) (i j : Nat) : w16 (L.drop i) j = w16 L (i + j) := by
  unfold w16 byt
  simp only [List.getD_eq_getElem?_getD, List.getElem?_drop, Nat.add_assoc]

theorem offset_any (f : Nat) (w : World) (hf : f < 65536) :
    Calls Tryd.prog 81 #[.int .u16 (f : Int)] w fun e w' => e = .returned (.int .i64 ((f % 8192 * 8 : Nat) : Int)) ∧ w' = w := by
  have hA := and_u16_mask f hf
  have h1 : f % 8192 < 8192 := Nat.mod_lt _ (by decide)
  generalize f % 8192 = g at *
  go_enter Tryd.func81, Tryd.ntmps81
  go_wp2_with fail
  go_ret
  exact ⟨ret_int (by simp), rfl⟩

theorem two_x (v : Value) (i : Int) (j : Nat) (L : List Nat) (w : World) (hv : SeesB w v L) (hi : i = (j : Int)) (hl : j + 2 ≤ L.length) (hj : j ≤ 1000) :
    Calls Tryd.prog 84 #[v, .int .i64 i] w fun e w' => e = .returned (.int .i64 ((w16 L j : Nat) : Int)) ∧ w' = w.drew := by
  subst hi
  obtain ⟨ao, n, cap, rfl, HN, hn1, hn2⟩ := hv.shape
  have h2 : j + 2 ≤ n := by have := HN.out; omega
  obtain ⟨g, off, rfl, hg, hc0⟩ := hv.atB j (by omega)
  obtain ⟨g', off', he, hg', hc1⟩ := hv.atB (j + 1) (by omega)
  simp at he
  obtain ⟨rfl, rfl⟩ := he
  have hp := byt_lt hv.bytes j
  have hq := byt_lt hv.bytes (j + 1)
  have HR : Hid (w16 L j = byt L j * 256 + byt L (j + 1)) := rfl
  generalize w16 L j = r at *
  generalize byt L j = p at *
  generalize byt L (j + 1) = q at *
  clear hv
  have b0 : j < n := by omega
  have b1 : j + 1 < n := by omega
  have b2 : (j : Int) + 1 < (n : Int) := by omega
  have b3 : (0 : Int) ≤ (j : Int) + 1 := by omega
  have hc1' := hc1
  rw [← Nat.add_assoc] at hc1'
  go_enter Tryd.func84, Tryd.ntmps84
  go_wp2
  go_region
  go_wp2
  go_ret
  exact ⟨ret_int (by rw [HR.out]; omega), rfl⟩

theorem sees_drew {w : World} {v : Value} {L : List Nat} (h : SeesB w v L) : SeesB w.drew v L := h.below (below_drew (Below.refl _ _))

theorem four_x (v : Value) (i : Int) (j : Nat) (L : List Nat) (w : World) (hv : SeesB w v L) (hi : i = (j : Int)) (hl : j + 4 ≤ L.length) (hj : j ≤ 990) :
    Calls Tryd.prog 85 #[v, .int .i64 i] w fun e w' => e = .returned (.int .i64 ((w32 L j : Nat) : Int)) ∧ w' = w.drew.drew := by
  subst hi
  have HA := hid (two_x v (j : Int) j L w hv rfl (by omega) (by omega))
  have HB := hid (fun i (hi : i = ((j + 2 : Nat) : Int)) => two_x v i (j + 2) L w.drew (sees_drew hv) hi (by omega) (by omega))
  have h1 := w16_lt hv.bytes j
  have h2 := w16_lt hv.bytes (j + 2)
  have HR : Hid (w32 L j = w16 L j * 65536 + w16 L (j + 2)) := rfl
  generalize w32 L j = r at *
  generalize w16 L j = p at *
  generalize w16 L (j + 2) = q at *
  clear hv
  go_enter Tryd.func85, Tryd.ntmps85
  go_wp2_with fail
  refine HA.out.mono ?_
  rintro _ _ ⟨rfl, rfl⟩
  go_wp2_with fail
  refine (HB.out _ (by omega)).mono ?_
  rintro _ _ ⟨rfl, rfl⟩
  go_wp2_with fail
  go_ret
  exact ⟨ret_int (by rw [HR.out]; omega), rfl⟩

theorem clone_any (v : Value) (L : List Nat) (w : World) (hv : SeesB w v L) (hl : L.length ≤ 1099511627776) :
    Calls Tryd.prog 86 #[v] w fun e w' => ∃ v', e = .returned v' ∧ OwnB w' w.heap.size v' L ∧ Below w.heap.size w w' := by
  obtain ⟨ao, n, cap, rfl, HN, hn1, hn2⟩ := hv.shape
  have HV := hid hv
  have hnl : n ≤ 1099511627776 := by have := HN.out; omega
  clear hv hl
  unfold maxLen at hn2
  go_enter Tryd.func86, Tryd.ntmps86
  go_wp2_with fail
  go_loopw [3, 4] (fun t i wr => ∃ q : Nat, i = .int .i64 q ∧ q ≤ n ∧ Hid (OwnB wr w.heap.size t (L.take q)) ∧ Below w.heap.size w wr) (fun _ i _ => n - (intOf i).toNat)
  case atStart => exact ⟨0, rfl, by omega, ownB_nil _ _, Below.refl _ _⟩
  case round =>
    obtain ⟨q, rfl, hq, HO, hb⟩ := hrel
    by_cases hlt : q < n
    · obtain ⟨ga, oa, x, rfl, hga, hca, hx, HX⟩ := (HV.out.below hb).at q hlt
      have HF : Hid (L.take q ++ [x] = L.take (q + 1)) := by unfold Hid; rw [take_snoc HX.out]
      go_wp2_with (at_builtin; refine wpList_append_bytes rfl _ _ rfl w.heap.size _ _ rfl (HO.out.alloc _) _ [x] rfl (sees_one rfl x hx _) ?c1 ?c2 ?_)
      case c1 => rw [List.length_take]; simp only [List.length_cons, List.length_nil]; omega
      case c2 => have := hb.size; simp; omega
      intro v' w6 ho hb6
      rw [HF.out] at ho
      have HO6 := hid ho
      have hb7 := (hb.alloc hb.size _).trans hb6
      clear ho hb6 hca
      go_wp2_with fail
      go_roundw
      case rel => exact ⟨q + 1, by go_num, by omega, HO6, hb7⟩
      case measure => simp [intOf]; omega
    · have HE : Hid (L.take q = L) := by
        unfold Hid; rw [List.take_of_length_le (by have := HN.out; omega)]
      rw [HE.out] at HO
      go_wp2_with fail
      go_ret
      exact ⟨_, rfl, HO.out, hb⟩
end Go.Proofs.YtcboenmmkaochabDoor.N

namespace Go.Proofs.YtcboenmmkaochabDoor.N
open Go.ChangeShapes Go.WideShapes Go.ChangeAt Go.RowKit
set_option maxHeartbeats 400000
set_option maxRecDepth 100000

/-- The block g holds the bytes X. -/
def Blk (w : World) (g : Nat) (X : List Nat) : Prop := w.heap[g]? = some (.cells (bs X).toArray 5 (0, 0))

theorem Blk.lt {w : World} {g : Nat} {X : List Nat} (h : Blk w g X) : g < w.heap.size := (Array.getElem?_eq_some_iff.1 h).1

theorem Blk.cell {w : World} {g : Nat} {X : List Nat} (h : Blk w g X) (i : Nat) (hi : i < X.length) : w.cell? ⟨g, i, none⟩ = some (.int .u8 ((byt X i : Nat) : Int)) := by
  rw [cell_of_row _ _ _ _ _ _ h]
  simp [bs, byt, hi]

theorem Blk.free {w : World} {g : Nat} {X : List Nat} (h : Blk w g X) (i : Nat) : w.frozen? ⟨g, i, none⟩ = false := frozen_of_row _ _ _ _ _ h

theorem Blk.set {w : World} {g : Nat} {X : List Nat} (h : Blk w g X) (i x : Nat) : Blk (w.setCell ⟨g, i, none⟩ (.int .u8 (x : Int))) g (X.set i x) := by
  unfold Blk at *
  simp only [World.setCell, Array.getElem?_modify, h]
  simp [bs, List.map_set]

/-- All but the block g stands as it did. -/
structure But (g : Nat) (w w' : World) : Prop where
  os : w'.os = w.os
  tape : w'.tape = w.tape
  output : w'.output = w.output
  size : w.heap.size ≤ w'.heap.size
  block : ∀ i, i < w.heap.size → i ≠ g → w'.heap[i]? = w.heap[i]?

theorem But.refl (g : Nat) (w : World) : But g w w := ⟨rfl, rfl, rfl, Nat.le_refl _, fun _ _ _ => rfl⟩
theorem But.trans {g : Nat} {a b c : World} (h1 : But g a b) (h2 : But g b c) : But g a c :=
  ⟨h2.os.trans h1.os, h2.tape.trans h1.tape, h2.output.trans h1.output, Nat.le_trans h1.size h2.size, fun i hi hn => (h2.block i (Nat.lt_of_lt_of_le hi h1.size) hn).trans (h1.block i hi hn)⟩
theorem But.set (g i : Nat) (w : World) (v : Value) : But g w (w.setCell ⟨g, i, none⟩ v) := ⟨rfl, rfl, rfl, by simp [World.setCell], fun j _ hn => by simp [World.setCell, Array.getElem?_modify, Ne.symm hn]⟩
theorem But.drew {g : Nat} {w w' : World} (h : But g w w') : But g w w'.drew := ⟨h.os, h.tape, h.output, h.size, h.block⟩
theorem But.below {g : Nat} {w w' w0 : World} {B : Nat} (h : But g w w') (hb : Below B w0 w) (hB : B ≤ w.heap.size) (hg : B ≤ g) : Below B w0 w' :=
  ⟨h.os.trans hb.os, h.tape.trans hb.tape, h.output.trans hb.output, Nat.le_trans hb.size h.size, fun i hi => (h.block i (by omega) (by omega)).trans (hb.block i hi)⟩

theorem write16_any (g off n cap x : Nat) (X : List Nat) (w : World) (hB : Blk w g X) (hn : 2 ≤ n) (ho : off + n ≤ X.length) (hx : x < 65536) :
    Calls Tryd.prog 76 #[.slice (some ⟨g, off, none⟩) n cap, .int .u16 (x : Int)] w fun e w' => e = .returned (.tuple #[]) ∧ Blk w' g ((X.set off (x / 256)).set (off + 1) (x % 256)) ∧ But g w w' := by
  have c0 := hB.cell off (by omega)
  have c1 := hB.cell (off + 1) (by omega)
  have f0 := hB.free off
  have f1 := hB.free (off + 1)
  have HR : Hid (Blk ((w.setCell ⟨g, off, none⟩ (.int .u8 ((x / 256 : Nat) : Int))).setCell ⟨g, off + 1, none⟩ (.int .u8 ((x % 256 : Nat) : Int))) g ((X.set off (x / 256)).set (off + 1) (x % 256)) ∧ But g w ((w.setCell ⟨g, off, none⟩ (.int .u8 ((x / 256 : Nat) : Int))).setCell ⟨g, off + 1, none⟩ (.int .u8 ((x % 256 : Nat) : Int)))) := ⟨(hB.set _ _).set _ _, (But.set _ _ _ _).trans (But.set _ _ _ _)⟩
  generalize byt X off = y0 at c0
  generalize byt X (off + 1) = y1 at c1
  have hne : ¬ off + 1 = off := by omega
  have hne' : ¬ off = off + 1 := by omega
  clear hB
  go_enter Tryd.func76, Tryd.ntmps76
  go_wp2_with fail
  have e0 : ((x / 256 : Nat) : Int) = (x : Int) / 256 := by omega
  have e1 : ((x % 256 : Nat) : Int) = (x : Int) % 256 := by omega
  rw [e0, e1] at HR
  exact bodyPost_end (results_none Tryd.results76 _ _ _) rfl ⟨rfl, HR.out.1, HR.out.2⟩

/-- A cut 'b[m:]' of which something is left room for. -/
theorem cut_at (g off n cap m : Nat) (i : Int) (hi : i = m) (hm : m ≤ n) (hmc : m < cap) (u : World) : (Instr.sliceAt 26 (.slice (some ⟨g, off, none⟩) n cap) (some (.int .i64 i)) none none).run Tryd.prog u = .ok (.slice (some ⟨g, off + m, none⟩) (n - m) (cap - m)) u := by
  subst hi
  have hu : Tryd.prog.underlying 26 = some (.slice (Tryd.prog.elem 26)) := by kernel_rfl
  have hsz : (sizeOf (Tryd.prog.elem 26)).run Tryd.prog u = .ok 1 u := by kernel_rfl
  rw [run_sliceAt_slice (h := hu), run_slice_l (ht := hu) (h0 := by omega) (h1 := by omega), hsz]
  have hne : ¬ cap = m := by omega
  simp [Result.andThen, sliced, hne, Addr.add_mid]

theorem write32_any (g off n cap x : Nat) (X : List Nat) (w : World) (hB : Blk w g X) (hn : 4 ≤ n) (hc : n ≤ cap) (ho : off + n ≤ X.length) (hx : x < 4294967296) (_hX : X.length ≤ 1099511627776) :
    Calls Tryd.prog 78 #[.slice (some ⟨g, off, none⟩) n cap, .int .u32 (x : Int)] w fun e w' => e = .returned (.tuple #[]) ∧ Blk w' g ((((X.set off (x / 65536 / 256)).set (off + 1) (x / 65536 % 256)).set (off + 2) (x % 65536 / 256)).set (off + 3) (x % 65536 % 256)) ∧ But g w w' := by
  have H1 := hid (write16_any g off n cap (x / 65536) X w hB (by omega) ho (by omega))
  have H2 : Hid (∀ (Y : List Nat) (u : World), Blk u g Y → Y.length = X.length → Calls Tryd.prog 76 #[.slice (some ⟨g, off + 2, none⟩) (n - 2) (cap - 2), .int .u16 ((x % 65536 : Nat) : Int)] u fun e w' => e = .returned (.tuple #[]) ∧ Blk w' g ((Y.set (off + 2) (x % 65536 / 256)).set (off + 2 + 1) (x % 65536 % 256)) ∧ But g u w') := fun Y u hY hl => write16_any g (off + 2) (n - 2) (cap - 2) (x % 65536) Y u hY (by omega) (by omega) (by omega)
  have hcut := cut_at g off n cap 2 2 rfl (by omega) (by omega)
  have e0 : ((x / 65536 : Nat) : Int) = (x : Int) / 65536 := by omega
  have e1 : ((x % 65536 : Nat) : Int) = (x : Int) % 65536 := by omega
  rw [e0] at H1
  rw [e1] at H2
  clear hB
  go_enter Tryd.func78, Tryd.ntmps78
  go_wp2_with fail
  refine H1.out.mono ?_
  rintro _ w2 ⟨rfl, hb2, hu2⟩
  go_wp2_with fail
  refine (H2.out _ _ hb2 (by simp)).mono ?_
  rintro _ w3 ⟨rfl, hb3, hu3⟩
  go_wp2_with fail
  exact bodyPost_end (results_none Tryd.results78 _ _ _) rfl ⟨rfl, hb3, hu2.trans hu3⟩
end Go.Proofs.YtcboenmmkaochabDoor.N

namespace Go.Proofs.YtcboenmmkaochabDoor.N
open Go.ChangeShapes Go.WideShapes Go.ChangeAt Go.RowKit
set_option maxHeartbeats 400000
set_option maxRecDepth 100000

theorem or_14 (a : Nat) (ha : a < 16384) : bits .or .u16 (a : Int) 16384 = ((a + 16384 : Nat) : Int) := by
  have := u16_or_nat a 16384 (by omega) (by omega)
  rw [show ((16384 : Nat) : Int) = 16384 from rfl] at this
  rw [this]
  congr 1
  have h := Nat.two_pow_add_eq_or_of_lt (i := 14) (b := a) (by omega) 1
  rw [Nat.or_comm]
  have h' : 16384 + a = 16384 ||| a := h
  omega

theorem or_13 (a : Nat) (ha : a < 8192) (k : Nat) (hk : k < 2) : bits .or .u16 ((a + k * 16384 : Nat) : Int) 8192 = ((a + k * 16384 + 8192 : Nat) : Int) := by
  have := u16_or_nat (a + k * 16384) 8192 (by omega) (by omega)
  rw [show ((8192 : Nat) : Int) = 8192 from rfl] at this
  rw [this]
  congr 1
  have h1 := Nat.two_pow_add_eq_or_of_lt (i := 13) (b := a) (by omega) 1
  have h2 := Nat.two_pow_add_eq_or_of_lt (i := 13) (b := a) (by omega) (2 * k)
  have h3 := Nat.two_pow_add_eq_or_of_lt (i := 13) (b := a) (by omega) (2 * k + 1)
  rw [show a + k * 16384 = 2 ^ 13 * (2 * k) + a by omega, h2, show 2 ^ 13 * (2 * k) ||| a ||| 8192 = (2 ^ 13 * (2 * k) ||| 8192) ||| a by rw [Nat.or_assoc, Nat.or_comm a, ← Nat.or_assoc]]
  rw [show 2 ^ 13 * (2 * k) ||| 8192 = 2 ^ 13 * (2 * k + 1) from by
    rcases Nat.lt_or_ge k 1 with h | h
    · obtain rfl : k = 0 := by omega
      decide
    · obtain rfl : k = 1 := by omega
      decide]
  rw [← h3, ← h2]
  omega

theorem frag_any (h : Hd) (vo : Value) (f : Nat) (w : World) (hf : h.off = (f : Int)) (hf1 : f ≤ 65528) :
    Calls Tryd.prog 77 #[.agg (hdCells h vo)] w fun e w' => e = .returned (.int .u16 ((flagW h.df h.mf f : Nat) : Int)) ∧ w' = w.alloc (.cells (hdCells h vo) 33) := by
  obtain ⟨tos, id, df, mf, off, ttl, proto, src, dst, opts⟩ := h
  simp only at hf
  subst hf
  unfold hdCells
  simp only
  have h14 := or_14 (f / 8) (by omega)
  have h13a := or_13 (f / 8) (by omega) 0 (by omega)
  have h13b := or_13 (f / 8) (by omega) 1 (by omega)
  rw [show ((f / 8 : Nat) : Int) = (f : Int) / 8 by omega] at h14
  rw [show ((f / 8 + 0 * 16384 : Nat) : Int) = (f : Int) / 8 by omega] at h13a
  rw [show ((f / 8 + 1 * 16384 : Nat) : Int) = (f : Int) / 8 + 16384 by omega] at h13b
  have HE : Hid (flagW df mf f = f / 8 + (if df then 16384 else 0) + (if mf then 8192 else 0)) := rfl
  generalize flagW df mf f = R at *
  cases df <;> cases mf
  all_goals (
    go_enter Tryd.func77, Tryd.ntmps77
    go_wp2_with fail
    go_ret
    exact ⟨ret_int (by rw [HE.out]; first | (simp; done) | (simp [h13b]; done)), rfl⟩)

theorem or_64 (a : Nat) (ha : a < 64) : bits .or .u8 64 (a : Int) = ((64 + a : Nat) : Int) := by
  have := u8_or_nat 64 a (by omega) (by omega)
  rw [show ((64 : Nat) : Int) = 64 from rfl] at this
  rw [this]
  congr 1
  exact (Nat.two_pow_add_eq_or_of_lt (i := 6) (b := a) (by omega) 1).symm

def hd20 (h : Hd) (len sum : Nat) : List Nat :=
  [69 + h.opts.length / 4, h.tos, len / 256, len % 256, h.id / 256, h.id % 256, flagW h.df h.mf h.off.toNat / 256, flagW h.df h.mf h.off.toNat % 256, h.ttl, h.proto, sum / 256, sum % 256,
   h.src / 65536 / 256, h.src / 65536 % 256, h.src % 65536 / 256, h.src % 65536 % 256, h.dst / 65536 / 256, h.dst / 65536 % 256, h.dst % 65536 / 256, h.dst % 65536 % 256]

theorem hdBytes_eq (h : Hd) (len sum : Nat) : hdBytes h len sum = hd20 h len sum ++ h.opts := rfl

def z20 : List Nat := [0, 0, 0, 0, 0, 0, 0, 0, 0, 0, 0, 0, 0, 0, 0, 0, 0, 0, 0, 0]

set_option maxHeartbeats 2000000 in
theorem layHead_any (h : Hd) (vo : Value) (g len f : Nat) (R : List Nat) (w : World) (hok : h.Ok) (hB : Blk w g (z20 ++ R)) (hlen : (z20 ++ R).length = len) (hl2 : len < 65536) (hf : h.off = (f : Int)) (hf1 : f ≤ 65528) (hvo : SeesB w vo h.opts) (hol : h.opts.length ≤ 40) (hom : h.opts.length % 4 = 0) :
    Calls Tryd.prog 65 #[.slice (some ⟨g, 0, none⟩) len len, .agg (hdCells h vo)] w fun e w' => e = .returned (.tuple #[]) ∧ Blk w' g (hd20 h len 0 ++ R) ∧ But g w w' := by
  have hl20 : 20 ≤ len := by rw [← hlen, List.length_append]; show 20 ≤ 20 + _; omega
  obtain ⟨tos, id, df, mf, off, ttl, proto, src, dst, opts⟩ := h
  simp only at hf hvo hol hom
  subst hf
  obtain ⟨h, hh⟩ : ∃ h : Hd, h = ⟨tos, id, df, mf, (f : Int), ttl, proto, src, dst, opts⟩ := ⟨_, rfl⟩
  rw [← hh] at hok ⊢
  obtain ⟨w1, hw1⟩ : ∃ w1, w1 = w.alloc (.cells (hdCells h vo) 33) := ⟨_, rfl⟩
  have hs1 : w1.heap.size = w.heap.size + 1 := by rw [hw1]; simp
  have hg := hB.lt
  have hu1 : But g w w1 := by
    have hb : Below w.heap.size w w1 := by rw [hw1]; exact (Below.refl _ _).alloc (Nat.le_refl _) _
    exact ⟨hb.os, hb.tape, hb.output, hb.size, fun i hi _ => hb.block i hi⟩
  have hB1 : Blk w1 g (z20 ++ R) := by
    have hb : Below w.heap.size w w1 := by rw [hw1]; exact (Below.refl _ _).alloc (Nat.le_refl _) _
    exact (hb.block g hg).trans hB
  have HD : Hid (∀ u, But g w1 u → u.heap[w.heap.size]? = some (.cells (hdCells h vo) 33)) := fun u hu => by
    rw [hu.block w.heap.size (by omega) (by omega), hw1]
    exact heap_alloc_new w _
  obtain ⟨ao, n, cap, rfl, HN, hn1, hn2⟩ := hvo.shape
  have hn40 : n ≤ 40 := by have := HN.out; omega
  have hn4 : n % 4 = 0 := by have := HN.out; omega
  have H64 := or_64 ((20 + n) / 4) (by omega)
  rw [show (((20 + n) / 4 : Nat) : Int) = (20 + (n : Int)) / 4 by omega] at H64
  have HFR : Hid (∀ u, Calls Tryd.prog 77 #[.agg (hdCells h (.slice ao n cap))] u fun e w' => e = .returned (.int .u16 ((flagW h.df h.mf f : Nat) : Int)) ∧ w' = u.alloc (.cells (hdCells h (.slice ao n cap)) 33)) := fun u => frag_any h _ f u (by rw [hh]) hf1
  have HLD : Hid (∀ u, But g w1 u → (Instr.loadAt 33 (.pointer (some ⟨w.heap.size, 0, none⟩))).run Tryd.prog u = .ok (.agg (hdCells h (.slice ao n cap))) u) := fun u hu => by
    obtain ⟨fs, hu30⟩ := und27
    refine run_loadAt_mid u w.heap.size 0 33 (hdCells h (.slice ao n cap)).toList (.struct fs) (fun j v hv => ?_) hu30 rfl (by rw [show (Tryd.prog.info? 33).map (·.size) = some 10 from by kernel_rfl]; rfl)
    rw [Nat.zero_add, cell_of_row _ _ _ _ _ _ (HD.out u hu), ← hv, Array.getElem?_toList]
  have HFW : Hid (flagW h.df h.mf f < 65536) := by unfold Hid flagW; split <;> split <;> omega
  have HOK := hid hok
  have HW1 := hid hw1
  have HU1 := hid hu1
  clear hw1 hu1 hB
  generalize hfl : flagW h.df h.mf f = fl at *
  have c0 := hB1.cell 0 (by rw [hlen]; omega)
  have f0 := hB1.free 0
  have HDC : Hid (∀ u, But g w1 u → u.cell? ⟨w.heap.size, 0, none⟩ = some (.int .u8 (tos : Int)) ∧ u.cell? ⟨w.heap.size, 1, none⟩ = some (.int .u16 (id : Int)) ∧ u.cell? ⟨w.heap.size, 2, none⟩ = some (.bool df) ∧ u.cell? ⟨w.heap.size, 3, none⟩ = some (.bool mf) ∧ u.cell? ⟨w.heap.size, 4, none⟩ = some (.int .i64 (f : Int)) ∧ u.cell? ⟨w.heap.size, 5, none⟩ = some (.int .u8 (ttl : Int)) ∧ u.cell? ⟨w.heap.size, 6, none⟩ = some (.int .u8 (proto : Int)) ∧ u.cell? ⟨w.heap.size, 7, none⟩ = some (.int .u32 (src : Int)) ∧ u.cell? ⟨w.heap.size, 8, none⟩ = some (.int .u32 (dst : Int)) ∧ u.cell? ⟨w.heap.size, 9, none⟩ = some (.slice ao n cap)) := fun u hu => by
    have hr := hd_at (HD.out u hu)
    rw [hh] at hr
    exact hr
  obtain ⟨d0, _, _, _, _, _, _, _, _, d9⟩ := HDC.out _ (But.refl _ _)
  generalize hX : z20 ++ R = X at *
  generalize byt X 0 = y0 at c0
  have HHC : Hid (hdCells h (.slice ao n cap) = #[.int .u8 (tos : Int), .int .u16 (id : Int), .bool df, .bool mf, .int .i64 (f : Int), .int .u8 (ttl : Int), .int .u8 (proto : Int), .int .u32 (src : Int), .int .u32 (dst : Int), .slice ao n cap]) := by unfold Hid; rw [hh]; rfl
  rw [HHC.out] at HW1 HFR ⊢
  have hsrc : src < 4294967296 := by have := hok.src; rw [hh] at this; exact this
  have hdst : dst < 4294967296 := by have := hok.dst; rw [hh] at this; exact this
  have hid16 : id < 65536 := by have := hok.id; rw [hh] at this; exact this
  have hcut : ∀ m : Nat, m ≤ 16 → ∀ u : World, (Instr.sliceAt 26 (.slice (some ⟨g, 0, none⟩) len len) (some (.int .i64 (m : Int))) none none).run Tryd.prog u = .ok (.slice (some ⟨g, m, none⟩) (len - m) (len - m)) u := fun m hm u => by
    have := cut_at g 0 len len m (m : Int) rfl (by omega) (by omega) u
    rwa [Nat.zero_add] at this
  have k2 : ∀ u : World, (Instr.sliceAt 26 (.slice (some ⟨g, 0, none⟩) len len) (some (.int .i64 2)) none none).run Tryd.prog u = .ok (.slice (some ⟨g, 2, none⟩) (len - 2) (len - 2)) u := hcut 2 (by omega)
  have k4 : ∀ u : World, (Instr.sliceAt 26 (.slice (some ⟨g, 0, none⟩) len len) (some (.int .i64 4)) none none).run Tryd.prog u = .ok (.slice (some ⟨g, 4, none⟩) (len - 4) (len - 4)) u := hcut 4 (by omega)
  have k6 : ∀ u : World, (Instr.sliceAt 26 (.slice (some ⟨g, 0, none⟩) len len) (some (.int .i64 6)) none none).run Tryd.prog u = .ok (.slice (some ⟨g, 6, none⟩) (len - 6) (len - 6)) u := hcut 6 (by omega)
  have k12 : ∀ u : World, (Instr.sliceAt 26 (.slice (some ⟨g, 0, none⟩) len len) (some (.int .i64 12)) none none).run Tryd.prog u = .ok (.slice (some ⟨g, 12, none⟩) (len - 12) (len - 12)) u := hcut 12 (by omega)
  have k16 : ∀ u : World, (Instr.sliceAt 26 (.slice (some ⟨g, 0, none⟩) len len) (some (.int .i64 16)) none none).run Tryd.prog u = .ok (.slice (some ⟨g, 16, none⟩) (len - 16) (len - 16)) u := hcut 16 (by omega)
  clear hcut
  have H16 : Hid (∀ (o x : Nat) (u : World) (Y : List Nat), o + 2 ≤ len → x < 65536 → But g w1 u → Blk u g Y → Y.length = len → Calls Tryd.prog 76 #[.slice (some ⟨g, o, none⟩) (len - o) (len - o), .int .u16 (x : Int)] u fun e w' => e = .returned (.tuple #[]) ∧ Hid (Blk w' g ((Y.set o (x / 256)).set (o + 1) (x % 256))) ∧ But g w1 w') := fun o x u Y h1 h2 h3 h4 h5 =>
    (write16_any g o (len - o) (len - o) x Y u h4 (by omega) (by omega) h2).mono fun e w' ⟨a, b, c⟩ => ⟨a, b, h3.trans c⟩
  have H32 : Hid (∀ (o x : Nat) (u : World) (Y : List Nat), o + 4 ≤ len → x < 4294967296 → But g w1 u → Blk u g Y → Y.length = len → Calls Tryd.prog 78 #[.slice (some ⟨g, o, none⟩) (len - o) (len - o), .int .u32 (x : Int)] u fun e w' => e = .returned (.tuple #[]) ∧ Hid (Blk w' g ((((Y.set o (x / 65536 / 256)).set (o + 1) (x / 65536 % 256)).set (o + 2) (x % 65536 / 256)).set (o + 3) (x % 65536 % 256))) ∧ But g w1 w') := fun o x u Y h1 h2 h3 h4 h5 =>
    (write32_any g o (len - o) (len - o) x Y u h4 (by omega) (Nat.le_refl _) (by omega) h2 (by omega)).mono fun e w' ⟨a, b, c⟩ => ⟨a, b, h3.trans c⟩
  have b0 : (0 : Int) < (len : Int) := by omega
  have b1 : (1 : Int) < (len : Int) := by omega
  have b8 : (8 : Int) < (len : Int) := by omega
  have b9 : (9 : Int) < (len : Int) := by omega
  go_enter Tryd.func65, Tryd.ntmps65
  go_upto_region 1 with fail
  rw [← HW1.out]
  go_upto_region 2 with fail
  have hv0 : (64 + (20 + (n : Int)) / 4) = ((69 + n / 4 : Nat) : Int) := by omega
  rw [hv0]
  have hB2 := hB1.set 0 (69 + n / 4)
  have hu2 := But.set g 0 w1 (.int .u8 ((69 + n / 4 : Nat) : Int))
  generalize w1.setCell ⟨g, 0, none⟩ (.int .u8 ((69 + n / 4 : Nat) : Int)) = w2 at hB2 hu2 ⊢
  obtain ⟨Y2, hY2⟩ : ∃ Y2, Y2 = X.set 0 (69 + n / 4) := ⟨_, rfl⟩
  rw [← hY2] at hB2
  have hl2' : Y2.length = len := by rw [hY2]; simpa using hlen
  have c1 := hB2.cell 1 (by omega)
  have f1 := hB2.free 1
  generalize byt Y2 1 = y1 at c1
  obtain ⟨e0, _, _, _, _, _, _, _, _, _⟩ := HDC.out _ hu2
  clear c0 f0 d0 d9
  go_upto_region 3 with fail
  have hB3 := hB2.set 1 tos
  have hu3 := hu2.trans (But.set g 1 w2 (.int .u8 (tos : Int)))
  generalize w2.setCell ⟨g, 1, none⟩ (.int .u8 (tos : Int)) = w3 at hB3 hu3 ⊢
  obtain ⟨Y3, hY3⟩ : ∃ Y3, Y3 = Y2.set 1 tos := ⟨_, rfl⟩
  rw [← hY3] at hB3
  have hl3' : Y3.length = len := by rw [hY3]; simpa using hl2'
  clear c1 f1 e0 hB2 hu2
  go_wp2_with fail
  refine (H16.out 2 len w3 Y3 (by omega) (by omega) hu3 hB3 hl3').mono ?_
  rintro _ w4 ⟨rfl, hB4, hu4⟩
  obtain ⟨Y4, hY4⟩ : ∃ Y4, Y4 = (Y3.set 2 (len / 256)).set (2 + 1) (len % 256) := ⟨_, rfl⟩
  rw [← hY4] at hB4
  have hl4' : Y4.length = len := by rw [hY4]; simpa using hl3'
  obtain ⟨_, e1, _, _, _, _, _, _, _, _⟩ := HDC.out _ hu4
  have HC4 : Hid (∀ u, (u.cell? ⟨w.heap.size, 1, none⟩ = some (.int .u16 (id : Int)) ∧ But g w1 u) → Blk u g Y4 → Calls Tryd.prog 76 #[.slice (some ⟨g, 4, none⟩) (len - 4) (len - 4), .int .u16 (id : Int)] u fun e w' => e = .returned (.tuple #[]) ∧ Hid (Blk w' g ((Y4.set 4 (id / 256)).set (4 + 1) (id % 256))) ∧ (w'.cell? ⟨w.heap.size, 1, none⟩ = some (.int .u16 (id : Int)) ∧ But g w1 w')) := fun u hu hB => (H16.out 4 id u Y4 (by omega) hid16 hu.2 hB hl4').mono fun e w' ⟨a, b, c⟩ => ⟨a, b, (HDC.out _ c).2.1, c⟩
  clear hB3 hu3
  go_upto_region 4 with fail
  go_cut [] from 23 (fun wx => Hid (Blk wx g ((Y4.set 4 (id / 256)).set (4 + 1) (id % 256))) ∧ But g w1 wx)
  case first =>
    go_region_with (first | (go_at_call 76; refine (HC4.out w4.drew ⟨e1, But.drew hu4⟩ hB4.out).mono ?_; rintro _ w5 ⟨rfl, hB5, hS5⟩) | fail)
    all_goals (
      go_wp2_with fail
      go_meet
      case rel => exact ⟨hB5, hS5.2⟩)
  case rest =>
  obtain ⟨hB5, hu5⟩ := hcut
  obtain ⟨w5, hw5⟩ : ∃ w5, w5 = wc := ⟨_, rfl⟩
  rw [← hw5] at hB5 hu5 ⊢
  clear hw5 e1 HC4
  obtain ⟨Y5, hY5⟩ : ∃ Y5, Y5 = (Y4.set 4 (id / 256)).set (4 + 1) (id % 256) := ⟨_, rfl⟩
  rw [← hY5] at hB5
  have hl5' : Y5.length = len := by rw [hY5]; simpa using hl4'
  obtain ⟨q0, q1, q2, q3, q4, q5, q6, q7, q8, q9⟩ := HDC.out _ hu5
  have hu5a : But g w1 (w5.drew.alloc (.cells #[.int .u8 (tos : Int), .int .u16 (id : Int), .bool df, .bool mf, .int .i64 (f : Int), .int .u8 (ttl : Int), .int .u8 (proto : Int), .int .u32 (src : Int), .int .u32 (dst : Int), .slice ao n cap] 33)) := hu5.trans ⟨rfl, rfl, rfl, by simp, fun i hi _ => by
    have := ((Below.refl w5.drew.heap.size w5.drew).alloc (Nat.le_refl _) (.cells #[.int .u8 (tos : Int), .int .u16 (id : Int), .bool df, .bool mf, .int .i64 (f : Int), .int .u8 (ttl : Int), .int .u8 (proto : Int), .int .u32 (src : Int), .int .u32 (dst : Int), .slice ao n cap] 33)).block i hi
    exact this⟩
  have hB5a : Blk (w5.drew.alloc (.cells #[.int .u8 (tos : Int), .int .u16 (id : Int), .bool df, .bool mf, .int .i64 (f : Int), .int .u8 (ttl : Int), .int .u8 (proto : Int), .int .u32 (src : Int), .int .u32 (dst : Int), .slice ao n cap] 33)) g Y5 := by
    have := ((Below.refl w5.drew.heap.size w5.drew).alloc (Nat.le_refl _) (.cells #[.int .u8 (tos : Int), .int .u16 (id : Int), .bool df, .bool mf, .int .i64 (f : Int), .int .u8 (ttl : Int), .int .u8 (proto : Int), .int .u32 (src : Int), .int .u32 (dst : Int), .slice ao n cap] 33)).block g hB5.out.lt
    exact this.trans hB5.out
  have HC5 := hid (H16.out 6 fl _ Y5 (by omega) HFW.out hu5a hB5a hl5')
  go_upto_region 5 with fail
  go_cut [] from 28 (fun wx => Hid (Blk wx g ((Y5.set 6 (fl / 256)).set (6 + 1) (fl % 256))) ∧ But g w1 wx)
  case first =>
    go_region_with (first | (go_at_call 77; refine (HFR.out w5.drew).mono ?_; rintro _ _ ⟨rfl, rfl⟩) | (go_at_call 76; refine HC5.out.mono ?_; rintro _ w6 ⟨rfl, hB6, hS6⟩) | fail)
    all_goals (
      go_wp2_with fail
      go_meet
      case rel => exact ⟨hB6, hS6⟩)
  case rest =>
  obtain ⟨hB6, hu6⟩ := hcut
  obtain ⟨w6, hw6⟩ : ∃ w6, w6 = wc := ⟨_, rfl⟩
  rw [← hw6] at hB6 hu6 ⊢
  clear hw6 HC5 hB5a hu5a q0 q1 q2 q3 q4 q5 q6 q7 q8 q9
  obtain ⟨Y6, hY6⟩ : ∃ Y6, Y6 = (Y5.set 6 (fl / 256)).set (6 + 1) (fl % 256) := ⟨_, rfl⟩
  rw [← hY6] at hB6
  have hl6' : Y6.length = len := by rw [hY6]; simpa using hl5'
  have hB6 := hB6.out
  obtain ⟨_, _, _, _, _, p5, _, _, _, _⟩ := HDC.out _ hu6
  have c8 := hB6.cell 8 (by omega)
  have f8 := hB6.free 8
  generalize byt Y6 8 = y8 at c8
  go_upto_region 7 with fail
  have hB7 := hB6.set 8 ttl
  have hu7 := hu6.trans (But.set g 8 w6 (.int .u8 (ttl : Int)))
  generalize w6.setCell ⟨g, 8, none⟩ (.int .u8 (ttl : Int)) = w7 at hB7 hu7 ⊢
  obtain ⟨Y7, hY7⟩ : ∃ Y7, Y7 = Y6.set 8 ttl := ⟨_, rfl⟩
  rw [← hY7] at hB7
  have hl7' : Y7.length = len := by rw [hY7]; simpa using hl6'
  obtain ⟨_, _, _, _, _, _, p6, _, _, _⟩ := HDC.out _ hu7
  have c9 := hB7.cell 9 (by omega)
  have f9 := hB7.free 9
  generalize byt Y7 9 = y9 at c9
  clear c8 f8 p5
  go_upto_region 8 with fail
  have hB8 := hB7.set 9 proto
  have hu8 := hu7.trans (But.set g 9 w7 (.int .u8 (proto : Int)))
  generalize w7.setCell ⟨g, 9, none⟩ (.int .u8 (proto : Int)) = w8 at hB8 hu8 ⊢
  obtain ⟨Y8, hY8⟩ : ∃ Y8, Y8 = Y7.set 9 proto := ⟨_, rfl⟩
  rw [← hY8] at hB8
  have hl8' : Y8.length = len := by rw [hY8]; simpa using hl7'
  obtain ⟨_, _, _, _, _, _, _, p7, _, _⟩ := HDC.out _ hu8
  have HC8 := hid (H32.out 12 src w8.drew Y8 (by omega) hsrc (But.drew hu8) hB8 hl8')
  clear c9 f9 p6
  go_cut [] from 41 (fun wx => Hid (Blk wx g ((((Y8.set 12 (src / 65536 / 256)).set (12 + 1) (src / 65536 % 256)).set (12 + 2) (src % 65536 / 256)).set (12 + 3) (src % 65536 % 256))) ∧ But g w1 wx)
  case first =>
    go_region_with (first | (go_at_call 78; refine HC8.out.mono ?_; rintro _ w9 ⟨rfl, hB9, hS9⟩) | fail)
    all_goals (
      go_wp2_with fail
      go_meet
      case rel => exact ⟨hB9, hS9⟩)
  case rest =>
  obtain ⟨hB9, hu9⟩ := hcut
  obtain ⟨w9, hw9⟩ : ∃ w9, w9 = wc := ⟨_, rfl⟩
  rw [← hw9] at hB9 hu9 ⊢
  clear hw9 HC8 p7
  obtain ⟨Y9, hY9⟩ : ∃ Y9, Y9 = ((((Y8.set 12 (src / 65536 / 256)).set (12 + 1) (src / 65536 % 256)).set (12 + 2) (src % 65536 / 256)).set (12 + 3) (src % 65536 % 256)) := ⟨_, rfl⟩
  rw [← hY9] at hB9
  have hl9' : Y9.length = len := by rw [hY9]; simpa using hl8'
  obtain ⟨_, _, _, _, _, _, _, _, p8, _⟩ := HDC.out _ hu9
  have HC9 := hid (H32.out 16 dst w9.drew Y9 (by omega) hdst (But.drew hu9) hB9.out hl9')
  have HY : Hid ((((Y9.set 16 (dst / 65536 / 256)).set (16 + 1) (dst / 65536 % 256)).set (16 + 2) (dst % 65536 / 256)).set (16 + 3) (dst % 65536 % 256) = hd20 h len 0 ++ R) := by
    unfold Hid
    rw [hY9, hY8, hY7, hY6, hY5, hY4, hY3, hY2, ← hX, hh, ← hfl, hh, HN.out]
    rfl
  clear hY9 hY8 hY7 hY6 hY5 hY4 hY3 hY2 hX
  go_upto_region 9 with fail
  go_region_with (first | (go_at_call 78; refine HC9.out.mono ?_; rintro _ w10 ⟨rfl, hB10, hS10⟩) | fail)
  all_goals (
    rw [HY.out] at hB10
    go_wp2_with fail
    exact bodyPost_end (results_none Tryd.results65 _ _ _) rfl ⟨rfl, hB10.out, HU1.out.trans hS10⟩)
end Go.Proofs.YtcboenmmkaochabDoor.N

namespace Go.Proofs.YtcboenmmkaochabDoor.N
open Go.ChangeShapes Go.WideShapes Go.ChangeAt Go.RowKit
set_option maxHeartbeats 400000
set_option maxRecDepth 100000

def smallH : Hd := ⟨0, 7216, true, false, 0, 64, 6, 167838211, 167904004, []⟩
def zeroHd : Hd := ⟨0, 0, false, false, 0, 0, 0, 0, 0, []⟩

theorem small_ok : smallH.Ok := ⟨by decide, by decide, by decide, by decide, by decide, by decide, by decide⟩

theorem small_refE : refE smallH [1, 2, 3].length = 0 := by
  have h1 : M.area smallH.opts = true := by unfold M.area smallH; simp [M.okO_nil]
  unfold refE; rw [if_pos h1, if_pos (by decide), if_pos (by decide)]

theorem sees_three {w : World} (x y z : Nat) (hx : x < 256) (hy : y < 256) (hz : z < 256) (t : TypeId) : SeesB (w.alloc (.cells #[.int .u8 (x : Int), .int .u8 (y : Int), .int .u8 (z : Int)] t)) (.slice (some ⟨w.heap.size, 0, none⟩) 3 3) [x, y, z] := by
  refine ⟨some ⟨w.heap.size, 0, none⟩, 3, rfl, ⟨by simp, fun h => by cases h⟩, by unfold maxLen; omega, fun j hj => ⟨w.heap.size, 0, rfl, by simp, ?_, ?_⟩⟩
  · match j, hj with
    | 0, _ => simp
    | 1, _ => simp
    | 2, _ => simp
  · match j, hj with
    | 0, _ => exact hx
    | 1, _ => exact hy
    | 2, _ => exact hz

def smallC (n : Nat) : Array Value := #[.int .u8 0, .int .u16 7216, .bool true, .bool false, .int .i64 0, .int .u8 64, .int .u8 6, .int .u32 167838211, .int .u32 167904004, .slice none 0 0, .slice (some ⟨n, 0, none⟩) 3 3]

/-- The world behind the making of the packet. -/
def smallW (w : World) : World := (w.alloc (.cells #[.int .u8 1, .int .u8 2, .int .u8 3] 5)).alloc (.cells (smallC w.heap.size) 35)

theorem smallW_below (w : World) : Below w.heap.size w (smallW w) := by
  unfold smallW
  exact ((Below.refl _ _).alloc (Nat.le_refl _) _).alloc (by simp) _

theorem smallW_body (w : World) : SeesB (smallW w) (.slice (some ⟨w.heap.size, 0, none⟩) 3 3) [1, 2, 3] := by
  have h := sees_three (w := w) 1 2 3 (by decide) (by decide) (by decide) 5
  exact h.below ((Below.refl _ _).alloc (Nat.le_refl _) _)

theorem smallB_ok : ∀ x ∈ builtL smallH [1, 2, 3], x < 256 := by
  unfold builtL
  rw [if_pos small_refE]
  intro x hx
  rw [List.mem_append] at hx
  rcases hx with hx | hx
  · exact hdBytes_ok small_ok (by intro x hx; cases hx) (by decide) (f := 0) rfl (by omega) (by decide) (M.csum_lt _) x hx
  · simp at hx; omega

theorem small_build (w : World) :
    Calls Tryd.prog 30 #[.agg (smallC w.heap.size)] (smallW w) fun e w' => ∃ ao n cap, e = .returned (.tuple #[.slice ao n cap, .int .i64 0]) ∧ SeesB w' (.slice ao n cap) (builtL smallH [1, 2, 3]) ∧ Below (smallW w).heap.size (smallW w) w' := by
  refine (show Calls Tryd.prog 30 #[.agg (smallC w.heap.size)] (smallW w) _ from build_ref smallH (.slice none 0 0) (.slice (some ⟨w.heap.size, 0, none⟩) 3 3) [1, 2, 3] (smallW w) small_ok (sees_nil _) (smallW_body w) (by decide)).mono ?_
  rintro _ w' ⟨v', rfl, hO, hb⟩
  have hs := hO.sees smallB_ok
  obtain ⟨ao, n, cap, rfl, _, _, _⟩ := hs.shape
  exact ⟨ao, n, cap, by rw [small_refE], hs, hb⟩

theorem seesBB_two {w : World} {n : Nat} (hn : w.heap.size = n) (v1 v2 : Value) (L1 L2 : List Nat) (h1 : SeesB w v1 L1) (h2 : SeesB w v2 L2) (t : TypeId) : SeesBB (w.alloc (.cells #[v1, v2] t)) (.slice (some ⟨n, 0, none⟩) 2 2) [L1, L2] := by
  subst hn
  refine ⟨some ⟨w.heap.size, 0, none⟩, 2, rfl, by simp, by unfold maxLen; omega, fun j hj => ?_⟩
  match j, hj with
  | 0, _ => exact ⟨w.heap.size, 0, v1, rfl, by simp, by simp, h1.below ((Below.refl _ _).alloc (Nat.le_refl _) _)⟩
  | 1, _ => exact ⟨w.heap.size, 0, v2, rfl, by simp, by simp, h2.below ((Below.refl _ _).alloc (Nat.le_refl _) _)⟩

end Go.Proofs.YtcboenmmkaochabDoor.N

namespace Go.Proofs.YtcboenmmkaochabDoor.N
open Go.ChangeShapes Go.WideShapes Go.ChangeAt Go.RowKit
set_option maxHeartbeats 400000
set_option maxRecDepth 100000

theorem read32_x (v : Value) (L : List Nat) (w : World) (hv : SeesB w v L) (hl : 4 ≤ L.length) :
    Calls Tryd.prog 82 #[v] w fun e w' => e = .returned (.int .u32 ((w32 L 0 : Nat) : Int)) ∧ ∃ m, w' = w.drewN m := by
  obtain ⟨ao, n, cap, rfl, HN, hn1, hn2⟩ := hv.shape
  have h4 : 4 ≤ n := by have := HN.out; omega
  obtain ⟨al, HSL, hlow⟩ := hv.low 2 2 rfl (by omega)
  have HA : Hid (∀ k, Calls Tryd.prog 54 #[.slice ao n cap] (w.drewN k) fun e w' => e = .returned (.int .u16 ((w16 L 0 : Nat) : Int)) ∧ ∃ m, w' = w.drewN m) := fun k =>
    Calls.quiet_of ((read16_x _ L _ (hv.below (below_drewN (Below.refl _ _) k)) (by omega)).mono fun _ _ ⟨he, hw⟩ => ⟨he, 1, hw⟩)
  have HB : Hid (∀ k, Calls Tryd.prog 54 #[.slice al (n - 2) (cap - 2)] (w.drewN k) fun e w' => e = .returned (.int .u16 ((w16 L 2 : Nat) : Int)) ∧ ∃ m, w' = w.drewN m) := fun k => by
    have := read16_x _ (L.drop 2) (w.drewN k) (HSL.out.below (below_drewN (Below.refl _ _) k)) (by rw [List.length_drop]; omega)
    rw [w16_drop] at this
    exact Calls.quiet_of (this.mono fun _ _ ⟨he, hw⟩ => ⟨he, 1, hw⟩)
  have hx := w16_lt hv.bytes 0
  have hy := w16_lt hv.bytes 2
  have HR : Hid (bits .or .u32 ((w16 L 0 * 65536 : Nat) : Int) (w16 L 2 : Int) = ((w32 L 0 : Nat) : Int)) := by unfold Hid; rw [or_u32 _ _ hx hy]; rfl
  have HC : Hid (∀ (v : Value) (x : Nat), ((v = .slice ao n cap ∧ x = w16 L 0) ∨ (v = .slice al (n - 2) (cap - 2) ∧ x = w16 L 2)) → ∀ k, Calls Tryd.prog 54 #[v] (w.drewN k) fun e w' => e = .returned (.int .u16 (x : Int)) ∧ ∃ m, w' = w.drewN m) := by
    rintro v x (⟨rfl, rfl⟩ | ⟨rfl, rfl⟩) k
    · exact HA.out k
    · exact HB.out k
  clear HA HB
  generalize w32 L 0 = r at *
  generalize w16 L 0 = p at *
  generalize w16 L 2 = q at *
  clear hv HSL
  generalize n - 2 = n2 at *
  generalize cap - 2 = cap2 at *
  go_enter Tryd.func82, Tryd.ntmps82
  go_wp2_with fail
  go_quiet ((first | (go_at_call 54; apply HC.out; first | exact .inl ⟨rfl, rfl⟩ | exact .inr ⟨rfl, rfl⟩) | fail))
  go_wp2_with fail
  go_ret
  exact ⟨ret_int (by rw [← HR.out]; simp), _, rfl⟩

end Go.Proofs.YtcboenmmkaochabDoor.N

namespace Go.Proofs.YtcboenmmkaochabDoor.N
open Go.ChangeShapes Go.WideShapes Go.ChangeAt Go.RowKit
set_option maxHeartbeats 400000
set_option maxRecDepth 100000

/-- Where the header ends, where the packet ends, the first error. -/
def lens (L : List Nat) (whole : Bool) : Nat × Nat × Int :=
  if L.length < 20 then (0, 0, 30)
  else if byt L 0 / 16 ≠ 4 then (0, 0, 31)
  else if byt L 0 % 16 * 4 < 20 then (0, 0, 32)
  else if L.length < byt L 0 % 16 * 4 then (0, 0, 30)
  else if w16 L 2 < byt L 0 % 16 * 4 then (0, 0, 32)
  else if whole = true ∧ L.length < w16 L 2 then (0, 0, 30)
  else (byt L 0 % 16 * 4, w16 L 2, 0)

theorem ret_three {k l m : IntKind} {a b c a' b' c' : Int} (h1 : a = a') (h2 : b = b') (h3 : c = c') : Ending.returned (.tuple #[.int k a, .int l b, .int m c]) = .returned (.tuple #[.int k a', .int l b', .int m c']) := by rw [h1, h2, h3]

set_option maxHeartbeats 2000000 in
theorem lens_code (v : Value) (L : List Nat) (whole : Bool) (w : World) (hv : SeesB w v L) (hl : L.length ≤ 140737488355328) :
    Calls Tryd.prog 79 #[v, .bool whole] w fun e w' => e = .returned (.tuple #[.int .i64 ((lens L whole).1 : Int), .int .i64 ((lens L whole).2.1 : Int), .int .i64 (lens L whole).2.2]) ∧ Below w.heap.size w w' := by
  obtain ⟨ao, n, cap, rfl, HN, hn1, hn2⟩ := hv.shape
  have hnl : n ≤ 140737488355328 := by have := HN.out; omega
  unfold maxLen at hn2
  obtain ⟨R, hR⟩ : ∃ R, R = lens L whole := ⟨_, rfl⟩
  have HR := hid hR
  rw [← hR]
  unfold lens at HR
  rw [← HN.out] at HR
  clear hR hl
  by_cases h1 : n < 20
  · have HE : Hid (R = (0, 0, 30)) := by unfold Hid; rw [HR.out, if_pos h1]
    go_enter Tryd.func79, Tryd.ntmps79
    go_wp2_with fail
    go_ret3
    exact ⟨ret_three (by rw [HE.out]; rfl) (by rw [HE.out]; rfl) (by rw [HE.out]), Below.refl _ _⟩
  · obtain ⟨g, off, rfl, hg, hc⟩ := hv.atB 0 (by omega)
    rw [Nat.add_zero] at hc
    have hx := byt_lt hv.bytes 0
    have hy := w16_lt hv.bytes 2
    obtain ⟨al, HSL, hlow⟩ := hv.low 2 2 rfl (by omega)
    have HC := read16_x _ (L.drop 2) w HSL.out (by rw [List.length_drop]; have := HN.out; omega)
    rw [w16_drop] at HC
    have HC := hid HC
    have hA := and_u8_mask (byt L 0) hx
    rw [if_neg h1] at HR
    generalize w16 L 2 = l at *
    generalize byt L 0 = x at *
    clear hv
    have hz1 : x % 16 < 16 := Nat.mod_lt _ (by decide)
    have ez : (x : Int) % 16 = ((x % 16 : Nat) : Int) := by simp
    generalize x % 16 = z at *
    by_cases h2 : x / 16 = 4
    · rw [if_neg (by omega)] at HR
      have hq : ((x : Int) / 16 != 4) = false := by simp; omega
      clear h2
      by_cases h3 : z * 4 < 20
      · have HE : Hid (R = (0, 0, 32)) := by unfold Hid; rw [HR.out, if_pos h3]
        clear HR
        go_enter Tryd.func79, Tryd.ntmps79
        go_wp2_with fail
        refine HC.out.mono ?_
        rintro _ _ ⟨rfl, rfl⟩
        go_wp2_with fail
        go_ret3
        exact ⟨ret_three (by rw [HE.out]; rfl) (by rw [HE.out]; rfl) (by rw [HE.out]), below_drew (Below.refl _ _)⟩
      · rw [if_neg h3] at HR
        by_cases h4 : n < z * 4
        · have HE : Hid (R = (0, 0, 30)) := by unfold Hid; rw [HR.out, if_pos h4]
          clear HR
          go_enter Tryd.func79, Tryd.ntmps79
          go_wp2_with fail
          refine HC.out.mono ?_
          rintro _ _ ⟨rfl, rfl⟩
          go_wp2_with fail
          go_ret3
          exact ⟨ret_three (by rw [HE.out]; rfl) (by rw [HE.out]; rfl) (by rw [HE.out]), below_drew (Below.refl _ _)⟩
        · rw [if_neg h4] at HR
          by_cases h5 : l < z * 4
          · have HE : Hid (R = (0, 0, 32)) := by unfold Hid; rw [HR.out, if_pos h5]
            clear HR
            go_enter Tryd.func79, Tryd.ntmps79
            go_wp2_with fail
            refine HC.out.mono ?_
            rintro _ _ ⟨rfl, rfl⟩
            go_wp2_with fail
            go_ret3
            exact ⟨ret_three (by rw [HE.out]; rfl) (by rw [HE.out]; rfl) (by rw [HE.out]), below_drew (Below.refl _ _)⟩
          · rw [if_neg h5] at HR
            cases whole with
            | false =>
              have HE : Hid (R = (z * 4, l, 0)) := by unfold Hid; rw [HR.out, if_neg (by simp)]
              clear HR
              go_enter Tryd.func79, Tryd.ntmps79
              go_wp2_with fail
              refine HC.out.mono ?_
              rintro _ _ ⟨rfl, rfl⟩
              go_wp2_with fail
              go_ret3
              exact ⟨ret_three (by rw [HE.out]; simp <;> omega) (by rw [HE.out]) (by rw [HE.out]), below_drew (Below.refl _ _)⟩
            | true =>
              by_cases h6 : n < l
              · have HE : Hid (R = (0, 0, 30)) := by unfold Hid; rw [HR.out, if_pos ⟨rfl, h6⟩]
                clear HR
                go_enter Tryd.func79, Tryd.ntmps79
                go_wp2_with fail
                refine HC.out.mono ?_
                rintro _ _ ⟨rfl, rfl⟩
                go_wp2_with fail
                go_ret3
                exact ⟨ret_three (by rw [HE.out]; rfl) (by rw [HE.out]; rfl) (by rw [HE.out]), below_drew (Below.refl _ _)⟩
              · have HE : Hid (R = (z * 4, l, 0)) := by unfold Hid; rw [HR.out, if_neg (by omega)]
                clear HR
                go_enter Tryd.func79, Tryd.ntmps79
                go_wp2_with fail
                refine HC.out.mono ?_
                rintro _ _ ⟨rfl, rfl⟩
                go_wp2_with fail
                go_ret3
                exact ⟨ret_three (by rw [HE.out]; simp <;> omega) (by rw [HE.out]) (by rw [HE.out]), below_drew (Below.refl _ _)⟩
    · have HE : Hid (R = (0, 0, 31)) := by unfold Hid; rw [HR.out, if_pos h2]
      have hq : ((x : Int) / 16 != 4) = true := by simp; omega
      clear h2 HR
      go_enter Tryd.func79, Tryd.ntmps79
      go_wp2_with fail
      go_ret3
      exact ⟨ret_three (by rw [HE.out]; rfl) (by rw [HE.out]; rfl) (by rw [HE.out]), Below.refl _ _⟩

set_option maxHeartbeats 2000000 in
theorem lens_ref (v : Value) (L : List Nat) (whole : Bool) (w : World) (hv : SeesB w v L) (hl : L.length ≤ 140737488355328) :
    Calls Tryd.prog 83 #[v, .bool whole] w fun e w' => e = .returned (.tuple #[.int .i64 ((lens L whole).1 : Int), .int .i64 ((lens L whole).2.1 : Int), .int .i64 (lens L whole).2.2]) ∧ Below w.heap.size w w' := by
  obtain ⟨ao, n, cap, rfl, HN, hn1, hn2⟩ := hv.shape
  have hnl : n ≤ 140737488355328 := by have := HN.out; omega
  unfold maxLen at hn2
  obtain ⟨R, hR⟩ : ∃ R, R = lens L whole := ⟨_, rfl⟩
  have HR := hid hR
  rw [← hR]
  unfold lens at HR
  rw [← HN.out] at HR
  clear hR hl
  by_cases h1 : n < 20
  · have HE : Hid (R = (0, 0, 30)) := by unfold Hid; rw [HR.out, if_pos h1]
    go_enter Tryd.func83, Tryd.ntmps83
    go_wp2_with fail
    go_ret3
    exact ⟨ret_three (by rw [HE.out]; rfl) (by rw [HE.out]; rfl) (by rw [HE.out]), Below.refl _ _⟩
  · obtain ⟨g, off, rfl, hg, hc⟩ := hv.atB 0 (by omega)
    rw [Nat.add_zero] at hc
    have hx := byt_lt hv.bytes 0
    have hy := w16_lt hv.bytes 2
    have HC := hid (two_x (.slice (some ⟨g, off, none⟩) n cap) 2 2 L w hv rfl (by have := HN.out; omega) (by omega))
    rw [if_neg h1] at HR
    generalize w16 L 2 = l at *
    generalize byt L 0 = x at *
    clear hv
    have hz1 : x % 16 < 16 := Nat.mod_lt _ (by decide)
    have ez : (x : Int) % 16 = ((x % 16 : Nat) : Int) := by simp
    generalize x % 16 = z at *
    by_cases h2 : x / 16 = 4
    · rw [if_neg (by omega)] at HR
      have hq : ((x : Int) / 16 != 4) = false := by simp; omega
      clear h2
      by_cases h3 : z * 4 < 20
      · have HE : Hid (R = (0, 0, 32)) := by unfold Hid; rw [HR.out, if_pos h3]
        clear HR
        go_enter Tryd.func83, Tryd.ntmps83
        go_wp2_with fail
        go_ret3
        exact ⟨ret_three (by rw [HE.out]; rfl) (by rw [HE.out]; rfl) (by rw [HE.out]), Below.refl _ _⟩
      · rw [if_neg h3] at HR
        by_cases h4 : n < z * 4
        · have HE : Hid (R = (0, 0, 30)) := by unfold Hid; rw [HR.out, if_pos h4]
          clear HR
          go_enter Tryd.func83, Tryd.ntmps83
          go_wp2_with fail
          go_ret3
          exact ⟨ret_three (by rw [HE.out]; rfl) (by rw [HE.out]; rfl) (by rw [HE.out]), Below.refl _ _⟩
        · rw [if_neg h4] at HR
          by_cases h5 : l < z * 4
          · have HE : Hid (R = (0, 0, 32)) := by unfold Hid; rw [HR.out, if_pos h5]
            clear HR
            go_enter Tryd.func83, Tryd.ntmps83
            go_wp2_with fail
            refine HC.out.mono ?_
            rintro _ _ ⟨rfl, rfl⟩
            go_wp2_with fail
            go_ret3
            exact ⟨ret_three (by rw [HE.out]; rfl) (by rw [HE.out]; rfl) (by rw [HE.out]), below_drew (Below.refl _ _)⟩
          · rw [if_neg h5] at HR
            cases whole with
            | false =>
              have HE : Hid (R = (z * 4, l, 0)) := by unfold Hid; rw [HR.out, if_neg (by simp)]
              clear HR
              go_enter Tryd.func83, Tryd.ntmps83
              go_wp2_with fail
              refine HC.out.mono ?_
              rintro _ _ ⟨rfl, rfl⟩
              go_wp2_with fail
              go_ret3
              exact ⟨ret_three (by rw [HE.out]; simp <;> omega) (by rw [HE.out]) (by rw [HE.out]), below_drew (Below.refl _ _)⟩
            | true =>
              by_cases h6 : n < l
              · have HE : Hid (R = (0, 0, 30)) := by unfold Hid; rw [HR.out, if_pos ⟨rfl, h6⟩]
                clear HR
                go_enter Tryd.func83, Tryd.ntmps83
                go_wp2_with fail
                refine HC.out.mono ?_
                rintro _ _ ⟨rfl, rfl⟩
                go_wp2_with fail
                go_ret3
                exact ⟨ret_three (by rw [HE.out]; rfl) (by rw [HE.out]; rfl) (by rw [HE.out]), below_drew (Below.refl _ _)⟩
              · have HE : Hid (R = (z * 4, l, 0)) := by unfold Hid; rw [HR.out, if_neg (by omega)]
                clear HR
                go_enter Tryd.func83, Tryd.ntmps83
                go_wp2_with fail
                refine HC.out.mono ?_
                rintro _ _ ⟨rfl, rfl⟩
                go_wp2_with fail
                go_ret3
                exact ⟨ret_three (by rw [HE.out]; simp <;> omega) (by rw [HE.out]) (by rw [HE.out]), below_drew (Below.refl _ _)⟩
    · have HE : Hid (R = (0, 0, 31)) := by unfold Hid; rw [HR.out, if_pos h2]
      have hq : ((x : Int) / 16 != 4) = true := by simp; omega
      clear h2 HR
      go_enter Tryd.func83, Tryd.ntmps83
      go_wp2_with fail
      go_ret3
      exact ⟨ret_three (by rw [HE.out]; rfl) (by rw [HE.out]; rfl) (by rw [HE.out]), Below.refl _ _⟩

end Go.Proofs.YtcboenmmkaochabDoor.N

namespace Go.Proofs.YtcboenmmkaochabDoor.N
open Go.ChangeShapes Go.WideShapes Go.ChangeAt Go.RowKit
set_option maxHeartbeats 400000
set_option maxRecDepth 100000

/-- The first error of a header, its body's length told. -/
def hdE (H : List Nat) (nb : Nat) : Int :=
  if M.csum H ≠ 0 then 33
  else if 128 ≤ byt H 6 then 32
  else if M.area (H.drop 20) = false then 34
  else if M.pieceOk ((w16 H 6 % 8192 * 8 : Nat) : Int) nb (decide (byt H 6 / 32 % 2 = 1)) = false then 36
  else 0

theorem bit15 (H : List Nat) (hb : ∀ x ∈ H, x < 256) : (bits .and .u16 ((w16 H 6 : Nat) : Int) 32768 != 0) = decide (128 ≤ byt H 6) := by
  have h := and_u16_bit (w16 H 6) 15 (w16_lt hb 6) (by decide)
  rw [show ((2 ^ 15 : Nat) : Int) = 32768 from rfl] at h
  rw [h]
  have h1 := byt_lt hb 6
  have h2 := byt_lt hb 7
  unfold w16
  by_cases g : 128 ≤ byt H 6
  · rw [decide_eq_true g]; simp; omega
  · rw [decide_eq_false g]; simp; omega

theorem bit13 (H : List Nat) (hb : ∀ x ∈ H, x < 256) : (bits .and .u16 ((w16 H 6 : Nat) : Int) 8192 != 0) = decide (byt H 6 / 32 % 2 = 1) := by
  have h := and_u16_bit (w16 H 6) 13 (w16_lt hb 6) (by decide)
  rw [show ((2 ^ 13 : Nat) : Int) = 8192 from rfl] at h
  rw [h]
  have h1 := byt_lt hb 6
  have h2 := byt_lt hb 7
  unfold w16
  by_cases g : byt H 6 / 32 % 2 = 1
  · rw [decide_eq_true g]; simp; omega
  · rw [decide_eq_false g]; simp; omega

theorem bit14 (H : List Nat) (hb : ∀ x ∈ H, x < 256) : (bits .and .u16 ((w16 H 6 : Nat) : Int) 16384 != 0) = decide (byt H 6 / 64 % 2 = 1) := by
  have h := and_u16_bit (w16 H 6) 14 (w16_lt hb 6) (by decide)
  rw [show ((2 ^ 14 : Nat) : Int) = 16384 from rfl] at h
  rw [h]
  have h1 := byt_lt hb 6
  have h2 := byt_lt hb 7
  unfold w16
  by_cases g : byt H 6 / 64 % 2 = 1
  · rw [decide_eq_true g]; simp; omega
  · rw [decide_eq_false g]; simp; omega

set_option maxHeartbeats 2000000 in
theorem hdE_code (v : Value) (H : List Nat) (i : Int) (nb : Nat) (w : World) (hv : SeesB w v H) (h20 : 20 ≤ H.length) (h60 : H.length ≤ 60) (hi : i = (nb : Int)) (hnb : nb ≤ 65535) :
    Calls Tryd.prog 80 #[v, .int .i64 i] w fun e w' => e = .returned (.int .i64 (hdE H nb)) ∧ Below w.heap.size w w' := by
  subst hi
  obtain ⟨ao, n, cap, rfl, HN, hn1, hn2⟩ := hv.shape
  have hn20 : 20 ≤ n := by have := HN.out; omega
  have hn60 : n ≤ 60 := by have := HN.out; omega
  unfold maxLen at hn2
  obtain ⟨R, hR⟩ : ∃ R, R = hdE H nb := ⟨_, rfl⟩
  have HR := hid hR
  rw [← hR]
  unfold hdE at HR
  clear hR
  have h15 := bit15 H hv.bytes
  have h13 := bit13 H hv.bytes
  have hf := w16_lt hv.bytes 6
  obtain ⟨al, HSL, hlow⟩ := hv.low 6 6 rfl (by omega)
  obtain ⟨am, HSM, hlow2⟩ := hv.low 20 20 rfl (by omega)
  have HC := read16_x _ (H.drop 6) w HSL.out (by rw [List.length_drop]; omega)
  rw [w16_drop] at HC
  have HC := hid HC
  have HS := sum_code _ _ _ (seesBB_one (w := w.drew) rfl _ _ (sees_drew hv) 26) (by simp; omega)
  rw [show [H].flatten = H by simp] at HS
  have HS := hid HS
  have HA := hid (fun u (hu : Below w.heap.size w u) => area_code _ (H.drop 20) u (HSM.out.below hu))
  have HO := hid (fun u => offset_any (w16 H 6) u hf)
  have HP := hid (fun u => piece_code ((w16 H 6 % 8192 * 8 : Nat) : Int) nb (decide (byt H 6 / 32 % 2 = 1)) u (by omega) (by omega))
  have hcs := M.csum_lt H
  rw [show (6 : Nat) + 0 = 6 from rfl] at HC
  generalize M.csum H = s at *
  generalize M.area (H.drop 20) = a at *
  generalize M.pieceOk ((w16 H 6 % 8192 * 8 : Nat) : Int) nb (decide (byt H 6 / 32 % 2 = 1)) = p at *
  generalize decide (byt H 6 / 32 % 2 = 1) = b13 at *
  by_cases hg : 128 ≤ byt H 6
  all_goals (first | rw [decide_eq_true hg] at h15 | rw [decide_eq_false hg] at h15)
  all_goals generalize byt H 6 = x6 at *
  all_goals generalize w16 H 6 % 8192 * 8 = o8 at *
  all_goals generalize w16 H 6 = f at *
  all_goals (have hw1 : Below w.heap.size w (w.drew.alloc (.cells #[.slice ao n cap] 26)) := (below_drew (Below.refl _ _)).alloc (Nat.le_refl _) _)
  all_goals clear hv HSL HSM
  all_goals (by_cases hs : s = 0)
  · have HE : Hid (R = 32) := by unfold Hid; rw [HR.out, if_neg (by omega), if_pos hg]
    have hq : ((s : Int) != 0) = false := by simp [hs]
    clear hs HR hg
    go_enter Tryd.func80, Tryd.ntmps80
    go_wp2_with fail
    refine HC.out.mono ?_
    rintro _ _ ⟨rfl, rfl⟩
    go_wp2_with fail
    refine HS.out.mono ?_
    rintro _ w2 ⟨rfl, hb2⟩
    go_wp2_with fail
    go_ret
    exact ⟨ret_int (by rw [HE.out]), hw1.trans (hb2.mono hw1.size)⟩
  · have HE : Hid (R = 33) := by unfold Hid; rw [HR.out, if_pos (by omega)]
    have hq : ((s : Int) != 0) = true := by simp; omega
    clear hs HR hg
    go_enter Tryd.func80, Tryd.ntmps80
    go_wp2_with fail
    refine HC.out.mono ?_
    rintro _ _ ⟨rfl, rfl⟩
    go_wp2_with fail
    refine HS.out.mono ?_
    rintro _ w2 ⟨rfl, hb2⟩
    go_wp2_with fail
    go_ret
    exact ⟨ret_int (by rw [HE.out]), hw1.trans (hb2.mono hw1.size)⟩
  · rw [if_neg (by omega), if_neg hg] at HR
    have hq : ((s : Int) != 0) = false := by simp [hs]
    clear hs hg
    cases a with
    | false =>
      have HE : Hid (R = 34) := by unfold Hid; rw [HR.out, if_pos rfl]
      clear HR
      go_enter Tryd.func80, Tryd.ntmps80
      go_wp2_with fail
      refine HC.out.mono ?_
      rintro _ _ ⟨rfl, rfl⟩
      go_wp2_with fail
      refine HS.out.mono ?_
      rintro _ w2 ⟨rfl, hb2⟩
      have hb3 := hw1.trans (hb2.mono hw1.size)
      clear hb2
      go_wp2_with fail
      refine (HA.out _ hb3).mono ?_
      rintro _ _ ⟨rfl, rfl⟩
      go_wp2_with fail
      go_ret
      exact ⟨ret_int (by rw [HE.out]), hb3⟩
    | true =>
      rw [if_neg (by simp)] at HR
      cases p with
      | false =>
        have HE : Hid (R = 36) := by unfold Hid; rw [HR.out, if_pos rfl]
        clear HR
        go_enter Tryd.func80, Tryd.ntmps80
        go_wp2_with fail
        refine HC.out.mono ?_
        rintro _ _ ⟨rfl, rfl⟩
        go_wp2_with fail
        refine HS.out.mono ?_
        rintro _ w2 ⟨rfl, hb2⟩
        have hb3 := hw1.trans (hb2.mono hw1.size)
        clear hb2
        go_wp2_with fail
        refine (HA.out _ hb3).mono ?_
        rintro _ _ ⟨rfl, rfl⟩
        go_wp2_with fail
        refine (HO.out _).mono ?_
        rintro _ _ ⟨rfl, rfl⟩
        go_wp2_with fail
        refine (HP.out _).mono ?_
        rintro _ _ ⟨rfl, rfl⟩
        go_wp2_with fail
        go_ret
        exact ⟨ret_int (by rw [HE.out]), hb3⟩
      | true =>
        have HE : Hid (R = 0) := by unfold Hid; rw [HR.out, if_neg (by simp)]
        clear HR
        go_enter Tryd.func80, Tryd.ntmps80
        go_wp2_with fail
        refine HC.out.mono ?_
        rintro _ _ ⟨rfl, rfl⟩
        go_wp2_with fail
        refine HS.out.mono ?_
        rintro _ w2 ⟨rfl, hb2⟩
        have hb3 := hw1.trans (hb2.mono hw1.size)
        clear hb2
        go_wp2_with fail
        refine (HA.out _ hb3).mono ?_
        rintro _ _ ⟨rfl, rfl⟩
        go_wp2_with fail
        refine (HO.out _).mono ?_
        rintro _ _ ⟨rfl, rfl⟩
        go_wp2_with fail
        refine (HP.out _).mono ?_
        rintro _ _ ⟨rfl, rfl⟩
        go_wp2_with fail
        go_ret
        exact ⟨ret_int (by rw [HE.out]), hb3⟩
  · have HE : Hid (R = 33) := by unfold Hid; rw [HR.out, if_pos (by omega)]
    have hq : ((s : Int) != 0) = true := by simp; omega
    clear hs HR hg
    go_enter Tryd.func80, Tryd.ntmps80
    go_wp2_with fail
    refine HC.out.mono ?_
    rintro _ _ ⟨rfl, rfl⟩
    go_wp2_with fail
    refine HS.out.mono ?_
    rintro _ w2 ⟨rfl, hb2⟩
    go_wp2_with fail
    go_ret
    exact ⟨ret_int (by rw [HE.out]), hw1.trans (hb2.mono hw1.size)⟩
end Go.Proofs.YtcboenmmkaochabDoor.N

namespace Go.Proofs.YtcboenmmkaochabDoor.N
open Go.ChangeShapes Go.WideShapes Go.ChangeAt Go.RowKit
set_option maxHeartbeats 400000
set_option maxRecDepth 100000

def exam (L : List Nat) (whole : Bool) : Nat × Nat × Int :=
  if (lens L whole).2.2 ≠ 0 then (0, 0, (lens L whole).2.2)
  else if hdE (L.take (lens L whole).1) ((lens L whole).2.1 - (lens L whole).1) ≠ 0 then (0, 0, hdE (L.take (lens L whole).1) ((lens L whole).2.1 - (lens L whole).1))
  else lens L whole

theorem lens_ok {L : List Nat} {whole : Bool} (h : (lens L whole).2.2 = 0) : 20 ≤ (lens L whole).1 ∧ (lens L whole).1 ≤ 60 ∧ (lens L whole).1 ≤ L.length ∧ (lens L whole).1 ≤ (lens L whole).2.1 ∧ (whole = true → (lens L whole).2.1 ≤ L.length) ∧ (lens L whole).1 = byt L 0 % 16 * 4 ∧ (lens L whole).2.1 = w16 L 2 := by
  by_cases h1 : L.length < 20
  · unfold lens at h; rw [if_pos h1] at h; cases h
  · by_cases h2 : byt L 0 / 16 ≠ 4
    · unfold lens at h; rw [if_neg h1, if_pos h2] at h; cases h
    · by_cases h3 : byt L 0 % 16 * 4 < 20
      · unfold lens at h; rw [if_neg h1, if_neg h2, if_pos h3] at h; cases h
      · by_cases h4 : L.length < byt L 0 % 16 * 4
        · unfold lens at h; rw [if_neg h1, if_neg h2, if_neg h3, if_pos h4] at h; cases h
        · by_cases h5 : w16 L 2 < byt L 0 % 16 * 4
          · unfold lens at h; rw [if_neg h1, if_neg h2, if_neg h3, if_neg h4, if_pos h5] at h; cases h
          · by_cases h6 : whole = true ∧ L.length < w16 L 2
            · unfold lens at h; rw [if_neg h1, if_neg h2, if_neg h3, if_neg h4, if_neg h5, if_pos h6] at h; cases h
            · have e : lens L whole = (byt L 0 % 16 * 4, w16 L 2, 0) := by
                unfold lens; rw [if_neg h1, if_neg h2, if_neg h3, if_neg h4, if_neg h5, if_neg h6]
              rw [e]
              simp only
              refine ⟨by omega, by omega, by omega, by omega, fun hw => ?_, trivial, trivial⟩
              rcases Nat.lt_or_ge L.length (w16 L 2) with h7 | h7
              · exact absurd ⟨hw, h7⟩ h6
              · exact h7

theorem exam_ok {L : List Nat} {whole : Bool} (h : (exam L whole).2.2 = 0) : (lens L whole).2.2 = 0 ∧ hdE (L.take (lens L whole).1) ((lens L whole).2.1 - (lens L whole).1) = 0 ∧ exam L whole = lens L whole := by
  by_cases h1 : (lens L whole).2.2 = 0
  · by_cases h2 : hdE (L.take (lens L whole).1) ((lens L whole).2.1 - (lens L whole).1) = 0
    · refine ⟨h1, h2, ?_⟩
      unfold exam; rw [if_neg (by simp [h1]), if_neg (by simp [h2])]
    · exfalso; unfold exam at h; rw [if_neg (by simp [h1]), if_pos h2] at h; exact h2 h
  · exfalso; unfold exam at h; rw [if_pos h1] at h; exact h1 h

set_option maxHeartbeats 300000 in
theorem exam_code (v : Value) (L : List Nat) (whole : Bool) (w : World) (hv : SeesB w v L) (hl : L.length ≤ 140737488355328) :
    Calls Tryd.prog 67 #[v, .bool whole] w fun e w' => e = .returned (.tuple #[.int .i64 ((exam L whole).1 : Int), .int .i64 ((exam L whole).2.1 : Int), .int .i64 (exam L whole).2.2]) ∧ Below w.heap.size w w' := by
  have HL := hid (lens_code v L whole w hv hl)
  obtain ⟨ao, n, cap, rfl, HN, hn1, hn2⟩ := hv.shape
  unfold maxLen at hn2
  obtain ⟨R, hR⟩ : ∃ R, R = exam L whole := ⟨_, rfl⟩
  have HR := hid hR
  rw [← hR]
  unfold exam at HR
  clear hR
  by_cases h1 : (lens L whole).2.2 = 0
  · obtain ⟨a1, a2, a3, a4, a5, a6, a7⟩ := lens_ok h1
    clear a5 a6
    have hl16 := w16_lt hv.bytes 2
    rw [← a7] at hl16
    rw [if_neg (by simp [h1])] at HR
    rw [h1] at HL
    obtain ⟨ah, HSH, hhigh⟩ := hv.high (lens L whole).1 ((lens L whole).1 : Int) rfl (by have := HN.out; omega)
    have HC := hid (fun u (hu : Below w.heap.size w u) (i : Int) (hi : i = (((lens L whole).2.1 - (lens L whole).1 : Nat) : Int)) => hdE_code _ (L.take (lens L whole).1) i ((lens L whole).2.1 - (lens L whole).1) u (HSH.out.below hu) (by rw [List.length_take]; omega) (by rw [List.length_take]; omega) hi (by omega))
    have HRL : Hid (∀ h l : Nat, lens L whole = (h, l, 0) → lens L whole = (h, l, 0)) := fun _ _ h => h
    have HLE : Hid (lens L whole = ((lens L whole).1, (lens L whole).2.1, 0)) := by
      unfold Hid
      apply Prod.ext
      · rfl
      · apply Prod.ext
        · rfl
        · exact h1
    generalize hdE (L.take (lens L whole).1) ((lens L whole).2.1 - (lens L whole).1) = e at *
    generalize lens L whole = t at *
    obtain ⟨h, l, z⟩ := t
    simp only at *
    subst h1
    clear hv HSH HRL HLE a7
    by_cases he : e = 0
    · have HE : Hid (R = (h, l, 0)) := by unfold Hid; rw [HR.out, if_neg (by simp [he])]
      have hq : (e != 0) = false := by simp [he]
      clear he HR
      go_enter Tryd.func67, Tryd.ntmps67
      go_wp2_with fail
      refine HL.out.mono ?_
      rintro _ w2 ⟨rfl, hb2⟩
      go_wp2_with fail
      refine (HC.out _ hb2 _ (by omega)).mono ?_
      rintro _ w3 ⟨rfl, hb3⟩
      go_wp2_with fail
      go_ret3
      exact ⟨ret_three (by rw [HE.out]) (by rw [HE.out]) (by rw [HE.out]), hb2.trans (hb3.mono hb2.size)⟩
    · have HE : Hid (R = (0, 0, e)) := by unfold Hid; rw [HR.out, if_pos he]
      have hq : (e != 0) = true := by simp [he]
      clear he HR
      go_enter Tryd.func67, Tryd.ntmps67
      go_wp2_with fail
      refine HL.out.mono ?_
      rintro _ w2 ⟨rfl, hb2⟩
      go_wp2_with fail
      refine (HC.out _ hb2 _ (by omega)).mono ?_
      rintro _ w3 ⟨rfl, hb3⟩
      go_wp2_with fail
      go_ret3
      exact ⟨ret_three (by rw [HE.out]; rfl) (by rw [HE.out]; rfl) (by rw [HE.out]), hb2.trans (hb3.mono hb2.size)⟩
  · rw [if_pos h1] at HR
    generalize lens L whole = t at *
    obtain ⟨h, l, z⟩ := t
    simp only at *
    have HE := HR
    have hq : (z != 0) = true := by simp [h1]
    clear h1 HR hv
    go_enter Tryd.func67, Tryd.ntmps67
    go_wp2_with fail
    refine HL.out.mono ?_
    rintro _ w2 ⟨rfl, hb2⟩
    go_wp2_with fail
    go_ret3
    exact ⟨ret_three (by rw [HE.out]; rfl) (by rw [HE.out]; rfl) (by rw [HE.out]), hb2⟩

/-- A cut 'x[:m:m]'. -/
theorem SeesB.high3 {w : World} {ao : Option Addr} {n cap : Nat} {L : List Nat} (h : SeesB w (.slice ao n cap) L) (m : Nat) (i : Int) (hi : i = m) (hm : m ≤ n) (hs : ao ≠ none) :
    ∃ ao', Hid (SeesB w (.slice ao' m m) (L.take m)) ∧ Hid (ao' = ao) ∧ ∀ u : World, (Instr.sliceAt 26 (.slice ao n cap) none (some (.int .i64 i)) (some (.int .i64 i))).run Tryd.prog u = .ok (.slice ao' m m) u := by
  subst hi
  obtain ⟨ao1, cap1, hv, h1, h2, h3⟩ := h
  simp at hv
  obtain ⟨rfl, hlen, rfl⟩ := hv
  refine ⟨ao, ?_, rfl, fun u => ?_⟩
  · refine ⟨ao, m, by rw [List.length_take]; congr 1; omega, ⟨by rw [List.length_take]; omega, fun h => absurd h hs⟩, by omega, fun j hj => ?_⟩
    rw [List.length_take] at hj
    obtain ⟨g, off, ha, hg, hc, hb⟩ := h3 j (by omega)
    exact ⟨g, off, ha, hg, by rw [List.getElem_take]; exact hc, by rw [List.getElem_take]; exact hb⟩
  · have hu : Tryd.prog.underlying 26 = some (.slice (Tryd.prog.elem 26)) := by kernel_rfl
    have hsz : (sizeOf (Tryd.prog.elem 26)).run Tryd.prog u = .ok 1 u := by kernel_rfl
    rw [run_sliceAt_slice (h := hu), run_slice_hm (ht := hu) (h0 := by omega) (h2 := by omega) (h3 := by omega), hsz]
    simp [Result.andThen, sliced]
    intro _
    cases ao <;> simp [Addr.add]

/-- A cut 'x[m:n:n]' up to a list's whole room. -/
theorem SeesB.low3 {w : World} {g n : Nat} {L : List Nat} (h : SeesB w (.slice (some ⟨g, 0, none⟩) n n) L) (m : Nat) (i k : Int) (hi : i = m) (hk : k = n) (hm : m ≤ n) :
    ∃ ao', Hid (SeesB w (.slice (some ao') (n - m) (n - m)) (L.drop m)) ∧ Hid (ao'.block = g) ∧ ∀ u : World, (Instr.sliceAt 26 (.slice (some ⟨g, 0, none⟩) n n) (some (.int .i64 i)) (some (.int .i64 k)) (some (.int .i64 k))).run Tryd.prog u = .ok (.slice (some ao') (n - m) (n - m)) u := by
  subst hi hk
  have hb := h.back m hm
  refine ⟨if n = m then ⟨g, 0, none⟩ else ⟨g, 0 + m, none⟩, ?_, by unfold Hid; split <;> rfl, fun u => ?_⟩
  · have e : (if n = m then some (⟨g, 0, none⟩ : Addr) else some ⟨g, 0 + m, none⟩) = some (if n = m then ⟨g, 0, none⟩ else ⟨g, 0 + m, none⟩) := by split <;> rfl
    rw [e] at hb
    exact hb
  · have hu : Tryd.prog.underlying 26 = some (.slice (Tryd.prog.elem 26)) := by kernel_rfl
    have hsz : (sizeOf (Tryd.prog.elem 26)).run Tryd.prog u = .ok 1 u := by kernel_rfl
    rw [run_sliceAt_slice (h := hu), run_slice_lhm (ht := hu) (h0 := by omega) (h1 := by omega) (h2 := by omega) (h3 := by omega), hsz]
    have ea : (⟨g, 0, none⟩ : Addr).add m = ⟨g, 0 + m, none⟩ := Addr.add_mid g 0 m
    simp [Result.andThen, sliced]
    by_cases e : n = m
    · simp [e]
    · simp [e, ea]
end Go.Proofs.YtcboenmmkaochabDoor.N

namespace Go.Proofs.YtcboenmmkaochabDoor.N
open Go.ChangeShapes Go.WideShapes Go.ChangeAt Go.RowKit
set_option maxHeartbeats 400000
set_option maxRecDepth 100000

/-- The header that bytes tell. -/
def rdH (L : List Nat) (h : Nat) : Hd := ⟨byt L 1, w16 L 4, decide (byt L 6 / 64 % 2 = 1), decide (byt L 6 / 32 % 2 = 1), ((w16 L 6 % 8192 * 8 : Nat) : Int), byt L 8, byt L 9, w32 L 12, w32 L 16, (L.take h).drop 20⟩

theorem make_bytes (k : Nat) (hk : k ≤ 1099511627776) (u : World) : (Instr.makeSlice 26 (.int .i64 (k : Int)) (.int .i64 (k : Int))).run Tryd.prog u = .ok (.slice (some ⟨u.heap.size, 0, none⟩) k k) (u.alloc (.cells (madeCells #[.int .u8 0] k) 5)) := by
  obtain ⟨i0, hi0, hz0, hz1, hz2⟩ := info_parts Tryd.info5
  have := run_make (P := Tryd.prog) u 26 5 i0 (.int .u8 0) Tryd.underlying26 hi0 hz0 .i64 .i64 (k : Int) (k : Int) (by omega) (by omega) (by rw [hz2]; simp; omega) (by omega)
  rw [hz1] at this
  simpa [Value.cells] using this

theorem sees_blk {u : World} {g k : Nat} {X : List Nat} {t : TypeId} (hb : u.heap[g]? = some (.cells (bs X).toArray t)) (hk : X.length = k) (hkm : k ≤ 1099511627776) (hx : ∀ x ∈ X, x < 256) : SeesB u (.slice (some ⟨g, 0, none⟩) k k) X := by
  subst hk
  refine ⟨some ⟨g, 0, none⟩, X.length, rfl, ⟨Nat.le_refl _, fun h => by cases h⟩, by unfold maxLen; omega, fun j hj => ⟨g, 0, rfl, (Array.getElem?_eq_some_iff.1 hb).1, ?_, hx _ (List.getElem_mem hj)⟩⟩
  rw [Nat.zero_add, cell_of_row u _ _ _ _ _ hb]
  simp [bs, hj]

theorem size5 : (Tryd.prog.info? 5).map (·.size) = some 1 := by kernel_rfl

theorem keep_drew {B : Nat} {w0 u : World} {p q r : Addr} {a b c : Value} (h : Below B w0 u ∧ u.cell? p = some a ∧ u.cell? q = some b ∧ u.cell? r = some c) : Below B w0 u.drew ∧ u.drew.cell? p = some a ∧ u.drew.cell? q = some b ∧ u.drew.cell? r = some c :=
  ⟨below_drew h.1, by simpa using h.2.1, by simpa using h.2.2.1, by simpa using h.2.2.2⟩

theorem keep_drewN {B m : Nat} {w0 u : World} {p q r : Addr} {a b c : Value} (h : Below B w0 u ∧ u.cell? p = some a ∧ u.cell? q = some b ∧ u.cell? r = some c) : Below B w0 (u.drewN m) ∧ (u.drewN m).cell? p = some a ∧ (u.drewN m).cell? q = some b ∧ (u.drewN m).cell? r = some c :=
  ⟨below_drewN h.1 m, h.2.1, h.2.2.1, h.2.2.2⟩

theorem keep_alloc {B : Nat} {w0 u : World} {p q r : Addr} {a b c : Value} (h : Below B w0 u ∧ u.cell? p = some a ∧ u.cell? q = some b ∧ u.cell? r = some c) (o : Obj) (hB : B = w0.heap.size) : Below B w0 (u.alloc o) ∧ (u.alloc o).cell? p = some a ∧ (u.alloc o).cell? q = some b ∧ (u.alloc o).cell? r = some c :=
  ⟨h.1.alloc (by subst hB; exact h.1.size) _, (World.cell?_alloc_lt _ _ _ (World.block_lt_of_cell? u _ h.2.1)).trans h.2.1, (World.cell?_alloc_lt _ _ _ (World.block_lt_of_cell? u _ h.2.2.1)).trans h.2.2.1, (World.cell?_alloc_lt _ _ _ (World.block_lt_of_cell? u _ h.2.2.2)).trans h.2.2.2⟩

theorem SeesB.src {w : World} {ao : Option Addr} {n cap : Nat} {L : List Nat} (h : SeesB w (.slice ao n cap) L) (hpos : 0 < (bs L).length) : ∃ ad, ao = some ad ∧ ∀ j v, (bs L)[j]? = some v → w.cell? (ad.add j) = some v := by
  have hL : 0 < L.length := by simpa [bs] using hpos
  have hn : n = L.length := by obtain ⟨_, _, hv, _⟩ := h; simp at hv; exact hv.2.1
  obtain ⟨g, off, p, ha, _⟩ := h.at 0 (by omega)
  refine ⟨_, ha, fun j v hv => ?_⟩
  have hj : j < L.length := by have := (List.getElem?_eq_some_iff.1 hv).1; simpa [bs] using this
  obtain ⟨g', off', p', ha', _, hc, _, HP⟩ := h.at j (by omega)
  rw [ha] at ha'
  simp at ha'
  obtain ⟨rfl, rfl⟩ := ha'
  rw [Addr.add_mid, hc]
  have e : (bs L)[j]? = some (.int .u8 (p' : Int)) := by unfold bs; rw [List.getElem?_map, HP.out]; rfl
  rw [← e, hv]

theorem splice_whole {cur cs : List Value} (h : cs.length = cur.length) : splice cur 0 cs = cs := by
  unfold splice; simp; omega

theorem keep_of {w0 u : World} {p q r : Addr} {a b c : Value} (h1 : w0.cell? p = some a) (h2 : w0.cell? q = some b) (h3 : w0.cell? r = some c) (h : Below w0.heap.size w0 u) : Below w0.heap.size w0 u ∧ u.cell? p = some a ∧ u.cell? q = some b ∧ u.cell? r = some c :=
  ⟨h, (h.cell (World.block_lt_of_cell? w0 _ h1)).trans h1, (h.cell (World.block_lt_of_cell? w0 _ h2)).trans h2, (h.cell (World.block_lt_of_cell? w0 _ h3)).trans h3⟩

theorem size27 : (Tryd.prog.info? 33).map (·.size) = some 10 := by kernel_rfl

def Z27 : Array Value := #[.int .u8 0, .int .u16 0, .bool false, .bool false, .int .i64 0, .int .u8 0, .int .u8 0, .int .u32 0, .int .u32 0, .slice none 0 0]

theorem there_blk {u : World} {n k : Nat} {C : Array Value} {t : TypeId} (hb : u.heap[n]? = some (.cells C t (0, 0))) (hk : k = C.size) : u.there n 0 k := fun i hi => by
  subst hk
  refine ⟨?_, by rw [Nat.zero_add]; exact frozen_of_row _ _ _ _ _ hb⟩
  rw [Nat.zero_add, cell_of_row _ _ _ _ _ _ hb, Array.getElem?_eq_getElem hi]; rfl

theorem there_new (u : World) (n : Nat) (hn : u.heap.size = n) : (u.alloc (.cells Z27 33)).there n 0 10 := by
  subst hn
  exact there_blk (C := Z27) (heap_alloc_new u _) rfl

end Go.Proofs.YtcboenmmkaochabDoor.N

namespace Go.Proofs.YtcboenmmkaochabDoor.N
open Go.ChangeShapes Go.WideShapes Go.ChangeAt Go.RowKit
set_option maxHeartbeats 400000
set_option maxRecDepth 100000

theorem SeesB.lowS {w : World} {ao : Option Addr} {n cap : Nat} {L : List Nat} (h : SeesB w (.slice ao n cap) L) (m : Nat) (hm : m ≤ n) :
    SeesB w (.slice (if cap = m then ao else ao.map (·.add m)) (n - m) (cap - m)) (L.drop m) := by
  have hlen : n = L.length := by obtain ⟨_, _, hv, _⟩ := h; simp at hv; exact hv.2.1
  cases ao with
  | none =>
    have hn : n = 0 := by
      rcases Nat.eq_zero_or_pos n with h0 | h0
      · exact h0
      · obtain ⟨_, _, _, hc, _⟩ := h.at 0 h0; cases hc
    obtain ⟨_, _, hv, h1, h3, _⟩ := h
    simp at hv
    obtain ⟨rfl, _, rfl⟩ := hv
    have hL : L.drop m = [] := List.drop_eq_nil_of_le (by omega)
    rw [hL]
    exact ⟨_, cap - m, by rw [show n - m = 0 by omega]; rfl, ⟨by simp, fun h => by have := h1.2 rfl; omega⟩, by omega, fun j hj => absurd hj (by simp)⟩
  | some a =>
    rcases Nat.eq_zero_or_pos n with h0 | h0
    · obtain ⟨_, _, hv, h1, h3, _⟩ := h
      simp at hv
      obtain ⟨rfl, _, rfl⟩ := hv
      have hL : L.drop m = [] := List.drop_eq_nil_of_le (by omega)
      rw [hL]
      exact ⟨_, cap - m, by rw [show n - m = 0 by omega]; rfl, ⟨by simp, fun h => by split at h <;> cases h⟩, by omega, fun j hj => absurd hj (by simp)⟩
    · obtain ⟨g, off, _, hc, _⟩ := h.at 0 h0
      simp at hc
      subst hc
      have := h.back m hm
      have ea : (⟨g, off, none⟩ : Addr).add m = ⟨g, off + m, none⟩ := by
        rcases Nat.eq_zero_or_pos m with rfl | h0
        · simp [Addr.add]
        · simp [Addr.add]; omega
      rw [Option.map_some, ea]
      exact this

/-- A cut 'x[a:b]': its value is kept a letter. -/
theorem SeesB.mid {w : World} {ao : Option Addr} {n cap : Nat} {L : List Nat} (h : SeesB w (.slice ao n cap) L) (a b : Nat) (i k : Int) (hi : i = a) (hk : k = b) (hab : a ≤ b) (hb : b ≤ n) :
    ∃ ao', Hid (SeesB w (.slice ao' (b - a) (cap - a)) ((L.take b).drop a)) ∧ ∀ u : World, (Instr.sliceAt 26 (.slice ao n cap) (some (.int .i64 i)) (some (.int .i64 k)) none).run Tryd.prog u = .ok (.slice ao' (b - a) (cap - a)) u := by
  subst hi hk
  have hT : SeesB w (.slice ao b cap) (L.take b) := by
    obtain ⟨ao1, cap1, hv, h1, h2, h3⟩ := h
    simp at hv
    obtain ⟨rfl, hlen, rfl⟩ := hv
    refine ⟨ao, cap, by rw [List.length_take]; congr 1; omega, ⟨by rw [List.length_take]; omega, h1.2⟩, h2, fun j hj => ?_⟩
    rw [List.length_take] at hj
    obtain ⟨g, off, ha, hg, hc, hb⟩ := h3 j (by omega)
    exact ⟨g, off, ha, hg, by rw [List.getElem_take]; exact hc, by rw [List.getElem_take]; exact hb⟩
  have hcap : n ≤ cap := by obtain ⟨_, _, hv, h1, _⟩ := h; simp at hv; obtain ⟨rfl, rfl, rfl⟩ := hv; exact h1.1
  refine ⟨_, hT.lowS a hab, fun u => ?_⟩
  have hu : Tryd.prog.underlying 26 = some (.slice (Tryd.prog.elem 26)) := by kernel_rfl
  have hsz : (sizeOf (Tryd.prog.elem 26)).run Tryd.prog u = .ok 1 u := by kernel_rfl
  rw [run_sliceAt_slice (h := hu), run_slice_lh (ht := hu) (h0 := by omega) (h1 := by omega) (h2 := by omega), hsz]
  simp [Result.andThen, sliced]

theorem size29' : (Tryd.prog.info? 35).map (·.size) = some 11 := by kernel_rfl
def Z29 : Array Value := #[.int .u8 0, .int .u16 0, .bool false, .bool false, .int .i64 0, .int .u8 0, .int .u8 0, .int .u32 0, .int .u32 0, .slice none 0 0, .slice none 0 0]

theorem byt_take {L : List Nat} {h i : Nat} (hi : i < h) : byt (L.take h) i = byt L i := by
  unfold byt; rw [List.getD_eq_getElem?_getD, List.getD_eq_getElem?_getD, List.getElem?_take_of_lt hi]

/-- What read's ends use: the zero packet's two blocks. -/
structure Ends (w : World) (zz : Array Value) (u : World) : Prop where
  ld : (Instr.loadAt 35 (.pointer (some ⟨w.heap.size + 1, 0, none⟩))).run Tryd.prog u = .ok (.agg zz) u
  th : u.there w.heap.size 0 zz.size
  lv : (loadVar 35 ⟨w.heap.size, 0, none⟩).run Tryd.prog (u.setCells w.heap.size 0 zz.toList) = .ok (.agg zz) (u.setCells w.heap.size 0 zz.toList)
  bf : Below w.heap.size w (u.setCells w.heap.size 0 zz.toList)

theorem below_sets {B b : Nat} {a : World} (hb : B ≤ b) : ∀ (vs : List Value) (o : Nat) (w : World), Below B a w → Below B a (w.setCells b o vs)
  | [], _, _, h => h
  | v :: vs, o, w, h => by
    rw [World.setCells]
    exact below_sets hb vs (o + 1) _ (h.setCell (p := ⟨b, o, none⟩) hb v)

theorem ends_any {w u : World} (hb : Below (w.heap.size + 2) ((w.alloc (.cells Z29 35)).alloc (.cells Z29 35)) u) : Ends w Z29 u := by
  have b0 : u.heap[w.heap.size]? = some (.cells Z29 35) := by
    have h1 : Below (w.heap.size + 1) (w.alloc (.cells Z29 35)) ((w.alloc (.cells Z29 35)).alloc (.cells Z29 35)) := (Below.refl _ _).alloc (by simp) _
    rw [hb.block w.heap.size (by omega), h1.block w.heap.size (by omega)]
    exact heap_alloc_new w _
  have b1 : u.heap[w.heap.size + 1]? = some (.cells Z29 35) := by
    rw [hb.block (w.heap.size + 1) (by omega)]
    have := heap_alloc_new (w.alloc (.cells Z29 35)) (.cells Z29 35)
    rw [World.size_alloc] at this
    exact this
  have hth : u.there w.heap.size 0 Z29.size := there_blk b0 rfl
  obtain ⟨fs, hu29⟩ := und29
  refine ⟨?_, hth, ?_, ?_⟩
  · refine run_loadAt_mid u (w.heap.size + 1) 0 35 Z29.toList (.struct fs) (fun j v hv => ?_) hu29 rfl (by rw [size29']; rfl)
    have hj : j < 11 := (List.getElem?_eq_some_iff.1 hv).1
    rw [Nat.zero_add, cell_of_row _ _ _ _ _ _ b1, ← hv, Array.getElem?_toList]
  · have hrg := World.rangeAt_setCells_same u w.heap.size 0 Z29.toList (by rw [Array.length_toList]; exact hth)
    exact run_loadVar_mid _ w.heap.size 0 35 Z29.toList (.struct fs) hrg hu29 rfl (by rw [size29']; rfl)
  · refine below_sets (Nat.le_refl _) _ _ _ ?_
    have h1 : Below w.heap.size w ((w.alloc (.cells Z29 35)).alloc (.cells Z29 35)) := ((Below.refl _ _).alloc (Nat.le_refl _) _).alloc (by simp) _
    exact h1.trans (hb.mono (by omega))
end Go.Proofs.YtcboenmmkaochabDoor.N

namespace Go.Proofs.YtcboenmmkaochabDoor.N
open Go.ChangeShapes Go.WideShapes Go.ChangeAt Go.RowKit
set_option maxHeartbeats 400000
set_option maxRecDepth 100000

theorem But.of_below {g : Nat} {w w' : World} (hb : Below w.heap.size w w') : But g w w' := ⟨hb.os, hb.tape, hb.output, hb.size, fun i hi _ => hb.block i hi⟩
theorem Blk.below {g : Nat} {w w' : World} {X : List Nat} (h : Blk w g X) (hb : Below w.heap.size w w') : Blk w' g X := (hb.block g h.lt).trans h

/-- A cut of a block of bytes. -/
theorem Blk.sees {g : Nat} {w : World} {X : List Nat} (h : Blk w g X) (hx : ∀ x ∈ X, x < 256) (o k c : Nat) (hk : o + k ≤ X.length) (hc : k ≤ c) (hcm : c ≤ maxLen) : SeesB w (.slice (some ⟨g, o, none⟩) k c) ((X.drop o).take k) := by
  have hl : ((X.drop o).take k).length = k := by rw [List.length_take, List.length_drop]; omega
  refine ⟨some ⟨g, o, none⟩, c, by rw [hl], ⟨by rw [hl]; exact hc, fun h => by cases h⟩, hcm, fun j hj => ?_⟩
  rw [hl] at hj
  have e : ((X.drop o).take k)[j]'(by rw [hl]; exact hj) = byt X (o + j) := by
    rw [List.getElem_take, List.getElem_drop]
    unfold byt
    rw [List.getD_eq_getElem?_getD, List.getElem?_eq_getElem (by omega)]
    rfl
  refine ⟨g, o, rfl, h.lt, ?_, ?_⟩
  · rw [h.cell (o + j) (by omega), e]
  · rw [e]; exact byt_lt hx _

theorem csum_gap (A B : List Nat) (hA : A.length % 2 = 0) : M.csum (A ++ 0 :: 0 :: B) = M.csum (A ++ B) := by
  unfold M.csum
  rw [M.tot_append, M.tot_append]
  have : M.par false A.length = false := by unfold M.par; rw [if_pos hA]
  rw [this]
  simp [M.tot]

set_option maxHeartbeats 2000000 in
/-- The sum is written into a header. -/
theorem seal_any (g size cap : Nat) (X : List Nat) (w : World) (hB : Blk w g X) (hx : ∀ x ∈ X, x < 256) (hs : 20 ≤ size) (hsz : size ≤ X.length) (hc : size ≤ cap) (hcap : cap ≤ 1099511627776) :
    Calls Tryd.prog 66 #[.slice (some ⟨g, 0, none⟩) size cap] w fun e w' => e = .returned (.tuple #[]) ∧ Blk w' g ((X.set 10 (M.csum (X.take 10 ++ (X.take size).drop 12) / 256)).set 11 (M.csum (X.take 10 ++ (X.take size).drop 12) % 256)) ∧ But g w w' := by
  have s1 : SeesB w.drew (.slice (some ⟨g, 0, none⟩) 10 cap) (X.take 10) := by
    have := (show Blk w.drew g X from hB).sees hx 0 10 cap (by omega) (by omega) (by unfold maxLen; omega)
    simpa using this
  have s2 : SeesB w.drew (.slice (some ⟨g, 12, none⟩) (size - 12) (cap - 12)) ((X.take size).drop 12) := by
    have := (show Blk w.drew g X from hB).sees hx 12 (size - 12) (cap - 12) (by omega) (by omega) (by unfold maxLen; omega)
    rwa [List.drop_take]
  obtain ⟨wA, hwA⟩ : ∃ wA, wA = w.drew.alloc (.cells #[.slice (some ⟨g, 0, none⟩) 10 cap, .slice (some ⟨g, 12, none⟩) (size - 12) (cap - 12)] 26) := ⟨_, rfl⟩
  have hbA : Below w.heap.size w wA := by rw [hwA]; exact (below_drew (Below.refl w.heap.size w)).alloc (Nat.le_refl _) _
  have HSM := sum_code _ _ _ (seesBB_two (w := w.drew) rfl _ _ _ _ s1 s2 26) (by simp; omega)
  rw [show [X.take 10, (X.take size).drop 12].flatten = X.take 10 ++ (X.take size).drop 12 by simp] at HSM
  have hlt := M.csum_lt (X.take 10 ++ (X.take size).drop 12)
  generalize M.csum (X.take 10 ++ (X.take size).drop 12) = s at *
  have HC : Hid (∀ u, Below w.heap.size w u → Calls Tryd.prog 76 #[.slice (some ⟨g, 10, none⟩) (size - 10) (cap - 10), .int .u16 (s : Int)] u fun e w' => e = .returned (.tuple #[]) ∧ Blk w' g ((X.set 10 (s / 256)).set (10 + 1) (s % 256)) ∧ But g u w') := fun u hu => write16_any g 10 (size - 10) (cap - 10) s X u (hB.below hu) (by omega) (by omega) hlt
  have HSM : Hid (Calls Tryd.prog 33 #[.slice (some ⟨w.heap.size, 0, none⟩) 2 2] (w.drew.alloc (.cells #[.slice (some ⟨g, 0, none⟩) 10 cap, .slice (some ⟨g, 12, none⟩) (size - 12) (cap - 12)] 26)) fun e w' => e = .returned (.int .u16 (s : Int)) ∧ Below w.heap.size w w') := by
    refine HSM.mono ?_
    rintro e w' ⟨rfl, hb⟩
    rw [← hwA] at hb
    exact ⟨rfl, hbA.trans (hb.mono hbA.size)⟩
  have k10 : ∀ u : World, (Instr.sliceAt 26 (.slice (some ⟨g, 0, none⟩) size cap) (some (.int .i64 10)) none none).run Tryd.prog u = .ok (.slice (some ⟨g, 10, none⟩) (size - 10) (cap - 10)) u := fun u => by
    have := cut_at g 0 size cap 10 10 rfl (by omega) (by omega) u
    rwa [Nat.zero_add] at this
  have k12 : ∀ u : World, (Instr.sliceAt 26 (.slice (some ⟨g, 0, none⟩) size cap) (some (.int .i64 12)) none none).run Tryd.prog u = .ok (.slice (some ⟨g, 12, none⟩) (size - 12) (cap - 12)) u := fun u => by
    have := cut_at g 0 size cap 12 12 rfl (by omega) (by omega) u
    rwa [Nat.zero_add] at this
  have hz : ∀ u : World, (Instr.sliceAt 26 (.slice (some ⟨g, 0, none⟩) size cap) none (some (.int .i64 10)) none).run Tryd.prog u = .ok (.slice (some ⟨g, 0, none⟩) 10 cap) u := fun u => by
    have hu : Tryd.prog.underlying 26 = some (.slice (Tryd.prog.elem 26)) := by kernel_rfl
    have hsz : (sizeOf (Tryd.prog.elem 26)).run Tryd.prog u = .ok 1 u := by kernel_rfl
    rw [run_sliceAt_slice (h := hu), run_slice_h (ht := hu) (h0 := by omega) (h2 := by omega), hsz]
    simp [Result.andThen, sliced, Addr.add]
  clear s1 s2 hB hwA hbA
  generalize size - 10 = z10 at *
  generalize size - 12 = z12 at *
  generalize cap - 10 = c10 at *
  generalize cap - 12 = c12 at *
  go_enter Tryd.func66, Tryd.ntmps66
  go_wp2_with fail
  go_region_with (first | (go_at_call 33; refine HSM.out.mono ?_; rintro _ w2 ⟨rfl, hb2⟩) | (go_at_call 76; refine (HC.out _ hb2).mono ?_; rintro _ w3 ⟨rfl, hB3, hu3⟩) | fail)
  all_goals (
    go_wp2_with fail
    exact bodyPost_end (results_none Tryd.results66 _ _ _) rfl ⟨rfl, hB3, (But.of_below hb2).trans hu3⟩)
end Go.Proofs.YtcboenmmkaochabDoor.N
