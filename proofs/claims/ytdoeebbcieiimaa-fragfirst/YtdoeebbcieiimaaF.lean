import Derived.Test.YtdoeebbcieiimaaE
import Derived.Test.YtdoeebbcieiimaaMath2
namespace Go.Proofs.Ytdoeebbcieiimaa
open Go.ChangeShapes Go.WideShapes Go.ChangeAt Go.RowKit
set_option maxHeartbeats 400000
set_option maxRecDepth 100000

theorem drop_at {L : List Nat} {i x : Nat} (h : L[i]? = some x) : L.drop i = x :: L.drop (i + 1) := by
  obtain ⟨hi, rfl⟩ := List.getElem?_eq_some_iff.1 h
  exact List.drop_eq_getElem_cons hi

set_option maxHeartbeats 4000000 in
theorem behind_any (v : Value) (i : Nat) (L : List Nat) (w : World) (hv : SeesB w v L) (hi : i < L.length) (hl : L.length ≤ 1099511627776) :
    Calls Try.prog 78 #[v, .int .i64 i] w fun e w' => e = .returned (.int .i64 (M.behI L i)) ∧ w' = w := by
  obtain ⟨ao, n, cap, rfl, HN, hn1, hn2⟩ := hv.shape
  have hin : i < n := by have := HN.out; omega
  have hnl : n ≤ 1099511627776 := by have := HN.out; omega
  unfold maxLen at hn2
  obtain ⟨g, off, x, rfl, hg, hc, hx, HX⟩ := hv.at i hin
  have HD := hid (drop_at HX.out)
  have HV := hid hv
  clear hv hi hl
  obtain ⟨R, hR⟩ : ∃ R, R = M.behI L i := ⟨_, rfl⟩
  have HR := hid hR
  rw [← hR]
  clear hR
  by_cases h1 : x = 1
  · have HE : Hid (R = (i : Int) + 1) := by
      unfold Hid; rw [HR.out]
      have h2 : M.nxt (L.drop i) = some 1 := by rw [HD.out, h1]; exact M.nxt_one _
      exact M.behI_some h2
    have hq : ((x : Int) == 1) = true := by simp [h1]
    clear h1 HR HD HX
    go_enter Try.func78, Try.ntmps78
    go_wp2_with fail
    go_ret
    exact ⟨ret_int (by rw [HE.out]), rfl⟩
  · have hq1 : ((x : Int) == 1) = false := by simp; omega
    by_cases h0 : x = 0
    · have hq0 : ((x : Int) == 0) = true := by simp [h0]
      have HXZ := hid h0
      clear h0 h1
      go_enter Try.func78, Try.ntmps78
      go_wp2_with fail
      go_loop [5] (fun j => ∃ k : Nat, j = .int .i64 k ∧ i ≤ k ∧ k ≤ n ∧ Hid (∀ m, i ≤ m → m < k → L[m]? = some 0)) (fun j => n - (intOf j).toNat)
      case atStart => exact ⟨i, rfl, by omega, by omega, fun m h1 h2 => absurd h1 (by omega)⟩
      case round =>
        obtain ⟨k, rfl, hk1, hk2, HZ⟩ := hrel
        by_cases hlt : k < n
        · obtain ⟨g', off', y, he, hg', hcy, hy, HY⟩ := HV.out.at k hlt
          simp at he
          obtain ⟨rfl, rfl⟩ := he
          by_cases hy0 : y = 0
          · have hq2 : ((y : Int) != 0) = false := by simp [hy0]
            have HZ2 : Hid (∀ m, i ≤ m → m < k + 1 → L[m]? = some 0) := fun m h1 h2 => by
              by_cases h3 : m < k
              · exact HZ.out m h1 h3
              · rw [show m = k by omega, HY.out, hy0]
            clear hy0
            go_wp2_with fail
            go_round
            case rel => exact ⟨k + 1, by go_num, by omega, by omega, HZ2⟩
            case measure => simp [intOf]; omega
          · have hq2 : ((y : Int) != 0) = true := by simp; omega
            have HE : Hid (R = -1) := by
              unfold Hid; rw [HR.out]
              refine M.behI_none ?_
              have hd : L.drop i = 0 :: L.drop (i + 1) := by rw [HD.out, HXZ.out]
              rw [hd]
              refine M.nxt_zero_no ?_
              rw [← hd, List.all_eq_false]
              refine ⟨y, List.mem_iff_getElem?.2 ⟨k - i, ?_⟩, by simpa using hy0⟩
              rw [List.getElem?_drop, show i + (k - i) = k by omega]; exact HY.out
            clear hy0
            go_wp2_with fail
            go_ret
            exact ⟨ret_int (by rw [HE.out]), rfl⟩
        · have HE : Hid (R = (n : Int)) := by
            unfold Hid; rw [HR.out]
            have h2 : M.nxt (L.drop i) = some (L.drop i).length := by
              have hd : L.drop i = 0 :: L.drop (i + 1) := by rw [HD.out, HXZ.out]
              rw [hd]
              refine M.nxt_zero_ok ?_
              rw [← hd, List.all_eq_true]
              intro z hz
              obtain ⟨m, hm⟩ := List.mem_iff_getElem?.1 hz
              rw [List.getElem?_drop] at hm
              have h3 : i + m < n := by have := (List.getElem?_eq_some_iff.1 hm).1; have := HN.out; omega
              have h4 := HZ.out (i + m) (by omega) (by omega)
              rw [h4] at hm; simp at hm; simp [← hm]
            rw [M.behI_some h2, List.length_drop]; have := HN.out; omega
          go_wp2_with fail
          go_ret
          exact ⟨ret_int (by rw [HE.out]), rfl⟩
    · have hq0 : ((x : Int) == 0) = false := by simp; omega
      by_cases hlast : n ≤ i + 1
      · have HE : Hid (R = -1) := by
          unfold Hid; rw [HR.out]
          refine M.behI_none ?_
          rw [HD.out, List.drop_eq_nil_of_le (by have := HN.out; omega)]
          exact M.nxt_last h0 h1
        clear h0 h1 HR HD HX
        go_enter Try.func78, Try.ntmps78
        go_wp2_with fail
        go_ret
        exact ⟨ret_int (by rw [HE.out]), rfl⟩
      · obtain ⟨g', off', y, he, hg', hcy, hy, HY⟩ := HV.out.at (i + 1) (by omega)
        simp at he
        obtain ⟨rfl, rfl⟩ := he
        have hcy' := hcy
        rw [← Nat.add_assoc] at hcy'
        have HD2 := hid (drop_at HY.out)
        have HLL : Hid ((L.drop (i + 1 + 1)).length + 2 = n - i) := by unfold Hid; rw [List.length_drop]; have := HN.out; omega
        by_cases hy2 : y < 2
        · have HE : Hid (R = -1) := by
            unfold Hid; rw [HR.out]
            refine M.behI_none ?_
            rw [HD.out, HD2.out]
            exact M.nxt_bad h0 h1 (.inl hy2)
          clear h0 h1 HR HD HX
          go_enter Try.func78, Try.ntmps78
          go_wp2_with fail
          go_ret
          exact ⟨ret_int (by rw [HE.out]), rfl⟩
        · by_cases hy3 : n < i + y
          · have HE : Hid (R = -1) := by
              unfold Hid; rw [HR.out]
              refine M.behI_none ?_
              rw [HD.out, HD2.out]
              exact M.nxt_bad h0 h1 (.inr (by have := HLL.out; omega))
            clear h0 h1 HR HD HX
            go_enter Try.func78, Try.ntmps78
            go_wp2_with fail
            go_ret
            exact ⟨ret_int (by rw [HE.out]), rfl⟩
          · have HE : Hid (R = (i : Int) + (y : Int)) := by
              unfold Hid; rw [HR.out]
              have h2 : M.nxt (L.drop i) = some y := by
                rw [HD.out, HD2.out]
                exact M.nxt_good h0 h1 (by have := HLL.out; omega)
              exact M.behI_some h2
            clear h0 h1 HR HD HX
            go_enter Try.func78, Try.ntmps78
            go_wp2_with fail
            go_ret
            exact ⟨ret_int (by rw [HE.out]), rfl⟩

def msr (n : Nat) (i : Int) : Nat := if i < 0 then 0 else n + 1 - i.toNat
theorem msr_neg {n : Nat} : msr n (-1) = 0 := rfl
theorem msr_pos {n : Nat} {i : Int} (h : 0 ≤ i) : msr n i = n + 1 - i.toNat := by unfold msr; rw [if_neg (by omega)]

theorem area_ref (v : Value) (L : List Nat) (w : World) (hv : SeesB w v L) :
    Calls Try.prog 77 #[v] w fun e w' => e = .returned (.bool (M.area L)) ∧ w' = w := by
  obtain ⟨ao, n, cap, rfl, HN, hn1, hn2⟩ := hv.shape
  unfold maxLen at hn2
  have HV := hid hv
  clear hv
  obtain ⟨R, hR⟩ : ∃ R, R = M.area L := ⟨_, rfl⟩
  have HR := hid hR
  rw [← hR]
  clear hR
  by_cases h40 : 40 < n
  · have HE : Hid (R = false) := by
      unfold Hid; rw [HR.out]; unfold M.area; have := HN.out; rw [decide_eq_false (by omega)]; rfl
    go_enter Try.func77, Try.ntmps77
    go_wp2_with fail
    go_ret
    exact ⟨ret_bool (by rw [HE.out]), rfl⟩
  · by_cases h4 : n % 4 = 0
    · have hq : ((n : Int) % 4 != 0) = false := by simp; omega
      have HA : Hid (R = M.okO L) := by
        unfold Hid; rw [HR.out]; unfold M.area; have := HN.out; rw [decide_eq_true (by omega), decide_eq_true (by omega)]; rfl
      clear h4 HR
      go_enter Try.func77, Try.ntmps77
      go_wp2_with fail
      go_loop [3] (fun j => (∃ k : Nat, j = .int .i64 k ∧ k ≤ n ∧ Hid (R = M.okO (L.drop k))) ∨ (j = .int .i64 (-1) ∧ Hid (R = false))) (fun j => msr n (intOf j))
      case atStart => exact .inl ⟨0, rfl, by omega, HA⟩
      case round =>
        rcases hrel with ⟨k, rfl, hk, HK⟩ | ⟨rfl, HF⟩
        · by_cases hlt : k < n
          · have HC := hid (behind_any _ k L w HV.out (by have := HN.out; omega) (by have := HN.out; omega))
            have hne : L.drop k ≠ [] := by intro h; have h2 := congrArg List.length h; rw [List.length_drop] at h2; simp at h2; have := HN.out; omega
            cases hnx : M.nxt (L.drop k) with
            | none =>
              rw [M.behI_none hnx] at HC
              have HF : Hid (R = false) := by unfold Hid; rw [HK.out]; exact M.okO_none hne hnx
              clear hnx hne
              go_wp2_with fail
              refine HC.out.mono ?_
              rintro _ _ ⟨rfl, rfl⟩
              go_wp2_with fail
              go_round
              case rel => exact .inr ⟨rfl, HF⟩
              case measure => (simp [intOf]; rw [msr_neg, msr_pos (by omega)]; omega)
            | some m =>
              rw [M.behI_some hnx] at HC
              have hm0 := M.nxt_pos hnx hne
              have hm1 : k + m ≤ n := by have h1 := M.nxt_le hnx; rw [List.length_drop] at h1; have := HN.out; omega
              have HF : Hid (R = M.okO (L.drop (k + m))) := by unfold Hid; rw [HK.out, M.okO_some hne hnx, List.drop_drop]
              clear hnx hne
              go_wp2_with fail
              refine HC.out.mono ?_
              rintro _ _ ⟨rfl, rfl⟩
              go_wp2_with fail
              go_round
              case rel => exact .inl ⟨k + m, by go_num, hm1, HF⟩
              case measure => (simp [intOf]; rw [msr_pos (by omega), msr_pos (by omega)]; omega)
          · have HE : Hid (R = true) := by
              unfold Hid; rw [HK.out, List.drop_eq_nil_of_le (by have := HN.out; omega)]; exact M.okO_nil
            go_wp2_with fail
            go_ret
            exact ⟨ret_bool (by rw [HE.out]), rfl⟩
        · go_wp2_with fail
          go_ret
          exact ⟨ret_bool (by rw [HF.out]), rfl⟩
    · have hq : ((n : Int) % 4 != 0) = true := by simp; omega
      have HE : Hid (R = false) := by
        unfold Hid; rw [HR.out]; unfold M.area; have := HN.out; rw [decide_eq_false (p := L.length % 4 = 0) (by omega)]; simp
      clear h4 HR
      go_enter Try.func77, Try.ntmps77
      go_wp2_with fail
      go_ret
      exact ⟨ret_bool (by rw [HE.out]), rfl⟩

theorem piece_ref (off : Int) (n : Nat) (more : Bool) (w : World) (ho : -9223372036854775808 ≤ off ∧ off ≤ 9223372036854775807) (hn : n ≤ 4611686018427387904) :
    Calls Try.prog 95 #[.int .i64 off, .int .i64 n, .bool more] w fun e w' => e = .returned (.bool (M.pieceOk off n more)) ∧ w' = w := by
  obtain ⟨R, hR⟩ : ∃ R, R = M.pieceOk off n more := ⟨_, rfl⟩
  have HR := hid hR
  rw [← hR]
  clear hR
  obtain ⟨ho1, ho2⟩ := ho
  by_cases h1 : off < 0
  · have HE : Hid (R = false) := by
      unfold Hid; rw [HR.out]; unfold M.pieceOk; rw [decide_eq_false (p := 0 ≤ off) (by omega)]; rfl
    go_enter Try.func95, Try.ntmps95
    go_wp2_with fail
    go_ret
    exact ⟨ret_bool (by rw [HE.out]), rfl⟩
  · by_cases h2 : 65528 < off
    · have HE : Hid (R = false) := by
        unfold Hid; rw [HR.out]; unfold M.pieceOk; rw [decide_eq_false (p := off ≤ 65528) (by omega)]; simp
      go_enter Try.func95, Try.ntmps95
      go_wp2_with fail
      go_ret
      exact ⟨ret_bool (by rw [HE.out]), rfl⟩
    · by_cases h3 : off % 8 = 0
      · have hq : (off % 8 != 0) = false := by simp [h3]
        by_cases h4 : 65535 < off + n
        · have HE : Hid (R = false) := by
            unfold Hid; rw [HR.out]; unfold M.pieceOk; rw [decide_eq_false (p := off + n ≤ 65535) (by omega)]; simp
          clear h3
          go_enter Try.func95, Try.ntmps95
          go_wp2_with fail
          go_ret
          exact ⟨ret_bool (by rw [HE.out]), rfl⟩
        · have HE : Hid (R = (!more || (decide (0 < n) && decide (n % 8 = 0)))) := by
            unfold Hid; rw [HR.out]; unfold M.pieceOk; rw [decide_eq_true (p := 0 ≤ off) (by omega), decide_eq_true (p := off ≤ 65528) (by omega), decide_eq_true h3, decide_eq_true (p := off + n ≤ 65535) (by omega)]; simp
          clear h3
          cases more with
          | false =>
            go_enter Try.func95, Try.ntmps95
            go_wp2_with fail
            go_ret
            exact ⟨ret_bool (by rw [HE.out]; rfl), rfl⟩
          | true =>
            by_cases h5 : 0 < n
            · by_cases h6 : n % 8 = 0
              · have hq2 : ((n : Int) % 8 == 0) = true := by simp; omega
                have HE2 : Hid (R = true) := by unfold Hid; rw [HE.out]; simp [h5, h6]
                clear h6
                go_enter Try.func95, Try.ntmps95
                go_wp2_with fail
                go_ret
                exact ⟨ret_bool (by rw [HE2.out]), rfl⟩
              · have hq2 : ((n : Int) % 8 == 0) = false := by simp; omega
                have HE2 : Hid (R = false) := by unfold Hid; rw [HE.out]; simp [h6]
                clear h6
                go_enter Try.func95, Try.ntmps95
                go_wp2_with fail
                go_ret
                exact ⟨ret_bool (by rw [HE2.out]), rfl⟩
            · obtain rfl : n = 0 := by omega
              have HE2 : Hid (R = false) := by unfold Hid; rw [HE.out]; simp
              go_enter Try.func95, Try.ntmps95
              go_wp2_with fail
              go_ret
              exact ⟨ret_bool (by rw [HE2.out]), rfl⟩
      · have hq : (off % 8 != 0) = true := by simp; omega
        have HE : Hid (R = false) := by
          unfold Hid; rw [HR.out]; unfold M.pieceOk; rw [decide_eq_false h3]; simp
        clear h3
        go_enter Try.func95, Try.ntmps95
        go_wp2_with fail
        go_ret
        exact ⟨ret_bool (by rw [HE.out]), rfl⟩
end Go.Proofs.Ytdoeebbcieiimaa
