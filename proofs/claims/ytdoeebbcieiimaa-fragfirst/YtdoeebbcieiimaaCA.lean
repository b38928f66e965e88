import Derived.Test.YtdoeebbcieiimaaMathC
import Derived.Test.YtdoeebbcieiimaaQ
import Derived.Test.YtdoeebbcieiimaaF
namespace Go.Proofs.Ytdoeebbcieiimaa
open Go.ChangeShapes Go.WideShapes Go.ChangeAt Go.RowKit
set_option maxHeartbeats 400000
set_option maxRecDepth 100000

theorem bs_len (M : List Nat) : (bs M).length = M.length := by simp [bs]

/-- The loop that fills up to a whole word, and what the reference answers. -/
theorem area_len' {o : List Nat} (h : M.area o = true) : o.length ≤ 40 ∧ M.okO o = true := by
  unfold M.area at h
  simp at h
  exact ⟨h.1.1, h.2⟩

set_option maxHeartbeats 2000000 in
theorem copied_ref (v : Value) (L : List Nat) (w : World) (hv : SeesB w v L) :
    Calls Try.prog 48 #[v] w fun e w' => ∃ v', e = .returned (.tuple #[v', .int .i64 (M.copied L).2]) ∧ OwnB w' w.heap.size v' (M.copied L).1 ∧ Below w.heap.size w w' := by
  have HAR := hid (area_ref v L w hv)
  have HV := hid hv
  obtain ⟨ao, n, cap, rfl, HN, hn1, hn2⟩ := hv.shape
  unfold maxLen at hn2
  obtain ⟨C, hC⟩ : ∃ C, C = M.copied L := ⟨_, rfl⟩
  have HC : Hid (C = if M.area L then (M.pad (M.cop L), 0) else ([], 34)) := hC
  rw [← hC]
  cases hA : M.area L with
  | false =>
    rw [hA] at HAR
    have HE : Hid (C = ([], 34)) := by unfold Hid; rw [HC.out, hA]; rfl
    clear hC hv hA HC
    go_enter Try.func48, Try.ntmps48
    go_wp2_with fail
    refine HAR.out.mono ?_
    rintro _ _ ⟨rfl, e⟩
    obtain rfl := e.symm
    go_wp2_with fail
    refine bodyPost_ret (results_tmp2 Try.results48 _ _ _) rfl ?_
    exact ⟨.slice none 0 0, by rw [HE.out]; rfl, by rw [HE.out]; exact ownB_nil _ _, Below.refl _ _⟩
  | true =>
    rw [hA] at HAR
    obtain ⟨h40, hok⟩ := area_len' hA
    have HE : Hid (C = (M.pad (M.cop L), 0)) := by unfold Hid; rw [HC.out, hA]; rfl
    have HOK := hid hok
    have hn40 : n ≤ 40 := by have := HN.out; omega
    clear hC hv hA HC hok h40
    go_enter Try.func48, Try.ntmps48
    go_wp2_with fail
    refine HAR.out.mono ?_
    rintro _ _ ⟨rfl, e⟩
    obtain rfl := e.symm
    go_wp2_with fail
    go_loopw [4, 5, 6, 7] (fun c i _ _ wr => ∃ (k : Nat) (cl : List Nat), i = .int .i64 k ∧ k ≤ n ∧ Hid (OwnB wr w.heap.size c cl) ∧ Hid (cl.length ≤ k ∧ (∀ x ∈ cl, x < 256) ∧ M.cop L = cl ++ M.cop (L.drop k) ∧ M.okO (L.drop k) = true) ∧ Below w.heap.size w wr) (fun _ i _ _ _ => n - (intOf i).toNat)
    case atStart => exact ⟨0, [], rfl, by omega, ownB_nil _ _, ⟨by simp, by simp, by simp, HOK.out⟩, Below.refl _ _⟩
    case round =>
      obtain ⟨k, cl, rfl, hk, HO, HI, hb⟩ := hrel
      by_cases hlt : k < n
      case neg =>
        have HD : Hid (M.pad cl = M.pad (M.cop L) ∧ cl.length ≤ 44 ∧ ∀ x ∈ cl, x < 256) := by
          have h1 := HI.out.2.2.1
          rw [List.drop_eq_nil_of_le (by have := HN.out; omega), M.cop_nil, List.append_nil] at h1
          exact ⟨by rw [h1], by have := HI.out.1; omega, HI.out.2.1⟩
        have HB := hid hb
        clear HI hb
        go_wp2_with fail
        go_loopw [4] (fun c wr => ∃ cl : List Nat, Hid (OwnB wr w.heap.size c cl) ∧ Hid (M.pad cl = M.pad (M.cop L) ∧ cl.length ≤ 44 ∧ ∀ x ∈ cl, x < 256) ∧ Below w.heap.size w wr) (fun c _ => (4 - lenOf c % 4) % 4)
        case atStart => exact ⟨cl, HO, HD, HB.out⟩
        case round =>
          clear HO HD HB
          obtain ⟨cl, HO, HD, hb⟩ := hrel
          have hs := HO.out.sees HD.out.2.2
          obtain ⟨ac, nc, cc, rfl, HNC, _, _⟩ := hs.shape
          have hnc : nc ≤ 44 := by have := HNC.out; have := HD.out.2.1; omega
          clear hs
          by_cases h4 : nc % 4 = 0
          · have hq : ((nc : Int) % 4 != 0) = false := by simp; omega
            have HF : Hid (cl = M.pad (M.cop L)) := by
              unfold Hid; rw [← HD.out.1, M.pad_done (by have := HNC.out; omega)]
            rw [HF.out] at HO
            clear h4
            go_wp2_with fail
            refine bodyPost_ret (results_tmp2 Try.results48 _ _ _) rfl ?_
            exact ⟨_, by rw [HE.out]; rfl, by rw [HE.out]; exact HO.out, hb⟩
          · have hq : ((nc : Int) % 4 != 0) = true := by simp; omega
            have HF : Hid (M.pad (cl ++ [0]) = M.pad (M.cop L) ∧ (cl ++ [0]).length ≤ 44 ∧ ∀ x ∈ cl ++ [0], x < 256) := by
              refine ⟨by rw [← M.pad_step (by have := HNC.out; omega)]; exact HD.out.1, ?_, fun x hx => ?_⟩
              · rw [List.length_append, List.length_singleton]
                have := HNC.out; have := HD.out.2.1; omega
              · rcases List.mem_append.1 hx with hx | hx
                · exact HD.out.2.2 x hx
                · simp at hx; omega
            have HM4 : Hid (nc % 4 ≠ 0) := h4
            clear h4
            go_wp2_with (at_builtin; refine wpList_append_bytes rfl _ _ rfl w.heap.size _ _ rfl (HO.out.alloc _) _ [0] rfl (sees_one rfl 0 (by omega) _) ?c1 ?c2 ?_)
            case c1 => have := HD.out.2.1; simp only [List.length_cons, List.length_nil]; omega
            case c2 => have := hb.size; simp; omega
            intro v' w6 ho hb6
            have HO6 := hid ho
            have hb7 := (hb.alloc hb.size _).trans hb6
            have hs6 := ho.sees HF.out.2.2
            obtain ⟨a6, n6, c6, rfl, HN6, _, _⟩ := hs6.shape
            clear ho hb6 hs6
            go_wp2_with fail
            go_roundw
            case rel => exact ⟨cl ++ [0], HO6, HF, hb7⟩
            case measure =>
              have h1 := HN6.out
              rw [List.length_append, List.length_singleton] at h1
              have h2 := HNC.out
              have h3 := HM4.out
              simp only [lenOf]
              omega
      obtain ⟨hcl, hb256, hcop, hokk⟩ := HI.out
      have hne : L.drop k ≠ [] := by intro h; have h2 := congrArg List.length h; rw [List.length_drop] at h2; simp at h2; have := HN.out; omega
      have HC := behind_any _ k L wr (HV.out.below hb) (by have := HN.out; omega) (by have := HN.out; omega)
      cases hnx : M.nxt (L.drop k) with
      | none => rw [M.okO_none hne hnx] at hokk; cases hokk
      | some m =>
        rw [M.behI_some hnx] at HC
        have HC := hid HC
        have hm0 := M.nxt_pos hnx hne
        have hm1 : k + m ≤ n := by have h1 := M.nxt_le hnx; rw [List.length_drop] at h1; have := HN.out; omega
        obtain ⟨g, off, x, rfl, hg, hcx, hx, HX⟩ := (HV.out.below hb).at k hlt
        have hhd : (L.drop k).headD 0 = x := by
          have := drop_at HX.out
          rw [this]; rfl
        have HCP : Hid (M.cop (L.drop k) = (if 128 ≤ x then (L.drop k).take m else []) ++ M.cop (L.drop (k + m)) ∧ M.okO (L.drop (k + m)) = true) := by
          refine ⟨?_, ?_⟩
          · rw [M.cop_some hne hnx, hhd, List.drop_drop]
          · rw [← hokk, M.okO_some hne hnx, List.drop_drop]
        have HBX : Hid (∀ y ∈ L, y < 256) := HV.out.bytes
        clear hhd hnx hne hcop hokk hcl hb256
        by_cases h128 : 128 ≤ x
        · have HI2 : Hid (M.cop L = (cl ++ (L.drop k).take m) ++ M.cop (L.drop (k + m))) := by
            unfold Hid; rw [HI.out.2.2.1, HCP.out.1, if_pos h128, List.append_assoc]
          have HB := hid hb
          have h128b : decide ((128 : Int) ≤ (x : Int)) = true := by simp; omega
          clear hb
          go_wp2_with fail
          refine HC.out.mono ?_
          rintro _ _ ⟨rfl, e⟩
          obtain rfl := e.symm
          go_wp2_with fail
          go_loopw [4, 7] (fun c i wx => ∃ q : Nat, i = .int .i64 q ∧ k ≤ q ∧ q ≤ k + m ∧ Hid (OwnB wx w.heap.size c (cl ++ (L.drop k).take (q - k))) ∧ Below w.heap.size w wx) (fun _ i _ => k + m - (intOf i).toNat)
          case atStart => exact ⟨k, rfl, by omega, by omega, by rw [Nat.sub_self, List.take_zero, List.append_nil]; exact HO, HB.out⟩
          case round =>
            clear HO HB hcx
            obtain ⟨q, rfl, hq1, hq2, HO, hbq⟩ := hrel
            by_cases hqm : q < k + m
            · obtain ⟨g', off', y, he, hg', hcy, hy, HY⟩ := (HV.out.below hbq).at q (by omega)
              simp at he
              obtain ⟨rfl, rfl⟩ := he
              have HF : Hid (cl ++ ((L.drop k).take (q - k) ++ [y]) = cl ++ (L.drop k).take (q + 1 - k)) := by
                unfold Hid
                rw [show q + 1 - k = q - k + 1 by omega, take_snoc (L := L.drop k) (by rw [List.getElem?_drop, show k + (q - k) = q by omega]; exact HY.out)]
              have HCL : Hid ((cl ++ (L.drop k).take (q - k)).length + 1 ≤ 140737488355328) := by
                unfold Hid; rw [List.length_append, List.length_take]; have := HI.out.1; omega
              go_wp2_with (at_builtin; refine wpList_append_bytes rfl _ _ rfl w.heap.size _ _ rfl (HO.out.alloc _) _ [y] rfl (sees_one rfl y hy _) ?c1 ?c2 ?_)
              case c1 => have := HCL.out; simp only [List.length_cons, List.length_nil]; omega
              case c2 => have := hbq.size; simp; omega
              intro v' w6 ho hb6
              rw [HF.out] at ho
              have HO6 := hid ho
              have hb7 := (hbq.alloc hbq.size _).trans hb6
              clear ho hb6 hcy
              go_wp2_with fail
              go_roundw
              case rel => exact ⟨q + 1, by go_num, by omega, by omega, HO6, hb7⟩
              case measure => simp [intOf]; omega
            · obtain rfl : q = k + m := by omega
              rw [show k + m - k = m by omega] at HO
              have HI3 : Hid ((cl ++ (L.drop k).take m).length ≤ k + m ∧ (∀ x ∈ cl ++ (L.drop k).take m, x < 256) ∧ M.cop L = (cl ++ (L.drop k).take m) ++ M.cop (L.drop (k + m)) ∧ M.okO (L.drop (k + m)) = true) := by
                refine ⟨?_, fun x hx => ?_, HI2.out, HCP.out.2⟩
                · rw [List.length_append, List.length_take]; have := HI.out.1; omega
                · rcases List.mem_append.1 hx with hx | hx
                  · exact HI.out.2.1 x hx
                  · exact HBX.out x (List.mem_of_mem_drop (List.mem_of_mem_take hx))
              go_wp2_with fail
              go_roundw
              case rel => exact ⟨k + m, _, by go_num, hm1, HO, HI3, hbq⟩
              case measure => simp [intOf]; omega
        · have HI3 : Hid (cl.length ≤ k + m ∧ (∀ x ∈ cl, x < 256) ∧ M.cop L = cl ++ M.cop (L.drop (k + m)) ∧ M.okO (L.drop (k + m)) = true) := by
            refine ⟨by have := HI.out.1; omega, HI.out.2.1, ?_, HCP.out.2⟩
            rw [HI.out.2.2.1, HCP.out.1, if_neg h128, List.nil_append]
          go_wp2_with fail
          refine HC.out.mono ?_
          rintro _ _ ⟨rfl, e⟩
          obtain rfl := e.symm
          go_wp2_with fail
          go_roundw
          case rel => exact ⟨k + m, cl, by go_num, hm1, HO, HI3, hb⟩
          case measure => simp [intOf]; omega
end Go.Proofs.Ytdoeebbcieiimaa
