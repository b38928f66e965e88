import Derived.Test.YtdoeebbcieiimaaCA
import Derived.Test.YtdoeebbcieiimaaL
namespace Go.Proofs.Ytdoeebbcieiimaa
open Go.ChangeShapes Go.WideShapes Go.ChangeAt Go.RowKit
set_option maxHeartbeats 400000
set_option maxRecDepth 100000

theorem and_u8_high (x : Nat) (hx : x < 256) : (bits .and .u8 (x : Int) 128 != 0) = decide (128 ≤ x) := by
  have h := u8_and_nat x 128 hx (by omega)
  rw [show ((128 : Nat) : Int) = 128 from rfl] at h
  have e : x &&& 128 = 128 * (x / 128 % 2) := by
    have := and_bit x 7
    simpa using this
  rw [h, e, Bool.eq_iff_iff]
  simp
  omega

/-- The captured variable at block b holds a list of its own, c. -/
def Cap (w : World) (b : Nat) (c : List Nat) : Prop :=
  ∃ ao n cap, w.heap[b]? = some (.cells #[.slice ao n cap] 22 (0, 0)) ∧ OwnB w (b + 1) (.slice ao n cap) c

theorem Cap.lt {w : World} {b : Nat} {c : List Nat} (h : Cap w b c) : b < w.heap.size := by
  obtain ⟨_, _, _, h, _⟩ := h
  exact (Array.getElem?_eq_some_iff.1 h).1

theorem OwnB.set {w : World} {b k : Nat} {v x : Value} {c : List Nat} (h : OwnB w (b + 1) v c) : OwnB (w.setCell ⟨b, k, none⟩ x) (b + 1) v c := by
  refine World.ownsRow.kept (row := some b) h ⟨rfl, rfl, rfl, by simp [World.setCell], fun i _ hi => ?_⟩ ?_
  · have hne : b ≠ i := fun e => hi (by rw [e])
    simp [World.setCell, Array.getElem?_modify, hne]
  · rcases h.2 with ⟨rfl, _⟩ | ⟨g, cap, cur, rfl, hbg, _⟩
    · exact .inl rfl
    · exact .inr (by show some g ≠ some b; intro e; cases e; omega)

theorem OwnB.low {w : World} {b b' : Nat} {v : Value} {c : List Nat} (h : OwnB w b v c) (hb : b' ≤ b) : OwnB w b' v c := by
  refine ⟨h.1, ?_⟩
  rcases h.2 with hn | ⟨g, cap, cur, rfl, hbg, rest⟩
  · exact .inl hn
  · exact .inr ⟨g, cap, cur, rfl, Nat.le_trans hb hbg, rest⟩

theorem row_set {w : World} {b : Nat} {v x : Value} {t : TypeId} (h : w.heap[b]? = some (.cells #[v] t (0, 0))) : (w.setCell ⟨b, 0, none⟩ x).heap[b]? = some (.cells #[x] t (0, 0)) := by
  simp [World.setCell, Array.getElem?_modify, h]

set_option maxHeartbeats 1000000 in
theorem closure_any (b : Nat) (v : Value) (L c : List Nat) (w : World) (hv : SeesB w v L) (hne : L ≠ []) (hc : Cap w b c) (hcl : c.length + L.length ≤ 1000) (hb256 : ∀ x ∈ c, x < 256) :
    Calls Try.prog 85 #[v, .pointer (some ⟨b, 0, none⟩)] w fun e w' => e = .returned (.tuple #[]) ∧ Hid (Cap w' b (c ++ if 128 ≤ L.headD 0 then L else [])) ∧ Below b w w' := by
  obtain ⟨ao, n, cap, rfl, HN, hn1, hn2⟩ := hv.shape
  have hn0 : 0 < n := by have := HN.out; have := List.length_pos_iff.2 hne; omega
  obtain ⟨g, off, x, rfl, hg, hcx, hx, HX⟩ := hv.at 0 hn0
  rw [Nat.add_zero] at hcx
  have hhd : L.headD 0 = x := by
    have := HX.out
    cases L with
    | nil => exact absurd rfl hne
    | cons y t => simpa using this
  rw [hhd]
  have hand := and_u8_high x hx
  obtain ⟨a1, n1, c1, hrow, hown⟩ := hc
  have k0 : w.cell? ⟨b, 0, none⟩ = some (.slice a1 n1 c1) := by rw [cell_of_row _ _ _ _ _ _ hrow]; rfl
  have hlt : b < w.heap.size := (Array.getElem?_eq_some_iff.1 hrow).1
  have HV := hid hv
  have HOWN := hid hown
  have HROW := hid hrow
  by_cases h128 : 128 ≤ x
  · have hq : (bits .and .u8 (x : Int) 128 != 0) = true := by rw [hand]; simp [h128]
    rw [if_pos h128]
    clear hand hhd hne hv hown hrow h128 HX
    go_enter Try.func85, Try.ntmps85
    go_wp2_with (at_builtin; refine wpList_append_bytes rfl _ _ rfl (b + 1) _ _ rfl HOWN.out _ L rfl HV.out ?c1 ?c2 ?_)
    case c1 => omega
    case c2 => omega
    intro v' w2 ho hb2
    have hrow2 := (hb2.block b (by omega)).trans HROW.out
    have k2 : w2.cell? ⟨b, 0, none⟩ = some (.slice a1 n1 c1) := by rw [cell_of_row _ _ _ _ _ _ hrow2]; rfl
    have f2 : w2.frozen? ⟨b, 0, none⟩ = false := frozen_of_row _ _ _ _ _ hrow2
    have hs := ho.sees (fun y hy => by
      rcases List.mem_append.1 hy with hy | hy
      · exact hb256 y hy
      · exact HV.out.bytes y hy)
    obtain ⟨a2, n2, c2, rfl, _, _, _⟩ := hs.shape
    have HR : Hid (Cap (w2.setCell ⟨b, 0, none⟩ (.slice a2 n2 c2)) b (c ++ L) ∧ Below b w (w2.setCell ⟨b, 0, none⟩ (.slice a2 n2 c2))) :=
      ⟨⟨a2, n2, c2, row_set hrow2, ho.set⟩, (hb2.mono (Nat.le_succ b)).setCell (p := ⟨b, 0, none⟩) (Nat.le_refl _) _⟩
    clear ho hb2 hrow2 hs
    go_wp2_with fail
    exact bodyPost_end (results_none Try.results85 _ _ _) rfl ⟨rfl, HR.out.1, HR.out.2⟩
  · have hq : (bits .and .u8 (x : Int) 128 != 0) = false := by rw [hand]; simp [h128]
    rw [if_neg h128, List.append_nil]
    have HR : Hid (Cap w b c) := ⟨a1, n1, c1, hrow, hown⟩
    clear hand hhd hne hv hown hrow h128 HX
    go_enter Try.func85, Try.ntmps85
    go_wp2_with fail
    exact bodyPost_end (results_none Try.results85 _ _ _) rfl ⟨rfl, HR, Below.refl _ _⟩

set_option maxHeartbeats 1000000 in
theorem walkC_any (v : Value) (L : List Nat) (w0 w : World) (hv : SeesB w0 v L) (hw : Below w0.heap.size w0 w) (hcap : Cap w w0.heap.size []) :
    Calls Try.prog 55 #[v, .func (.func 85) #[] #[.pointer (some ⟨w0.heap.size, 0, none⟩)]] w fun e w' => e = .returned (.bool (M.area L)) ∧ Below w0.heap.size w0 w' ∧ (M.area L = true → Hid (Cap w' w0.heap.size (M.cop L))) := by
  obtain ⟨ao, n, cap, rfl, HN, hn1, hn2⟩ := hv.shape
  unfold maxLen at hn2
  have HV := hid hv
  have HW := hid hw
  have HCAP := hid hcap
  clear hv hw hcap
  obtain ⟨R, hR⟩ : ∃ R, R = M.area L := ⟨_, rfl⟩
  have HR := hid hR
  rw [← hR]
  clear hR
  by_cases h40 : 40 < n
  · have HE : Hid (R = false) := by
      unfold Hid; rw [HR.out]; unfold M.area; have := HN.out; rw [decide_eq_false (by omega)]; rfl
    go_enter Try.func55, Try.ntmps55
    go_wp2_with fail
    go_ret
    exact ⟨ret_bool (by rw [HE.out]), HW.out, fun h => by rw [HE.out] at h; cases h⟩
  · by_cases h4 : n % 4 = 0
    · have hq : ((n : Int) % 4 != 0) = false := by simp; omega
      have HA : Hid (R = M.okO L) := by
        unfold Hid; rw [HR.out]; unfold M.area; have := HN.out; rw [decide_eq_true (by omega), decide_eq_true (by omega)]; rfl
      have HN40 : Hid (L.length ≤ 40) := by have := HN.out; unfold Hid; omega
      clear h4 HR
      go_enter Try.func55, Try.ntmps55
      go_wp2_with fail
      go_loopw [0, 5] (fun p _ wv => ∃ (r c : List Nat) (wr : World), wr = wv ∧ Hid (SeesB w0 p r) ∧ Hid (R = M.okO r) ∧ Hid (c.length + r.length ≤ 40 ∧ ∀ x ∈ c, x < 256) ∧ Hid (M.cop L = c ++ M.cop r) ∧ Hid (Cap wr w0.heap.size c) ∧ Below w0.heap.size w0 wr) (fun p _ _ => lenOf p)
      case atStart => exact ⟨L, [], w, rfl, HV, HA, ⟨by have := HN40.out; simpa using this, by simp⟩, by simp [Hid], HCAP, HW.out⟩
      case round =>
        clear HV HN HA HN40 h40 HW HCAP
        obtain ⟨r, c, wr, rfl, HV, HA, H40, HCP, HCAP, hb⟩ := hrel
        obtain ⟨ar, nr, capr, rfl, HNR, hr1, hr2⟩ := HV.out.shape
        unfold maxLen at hr2
        have HB := hid hb
        by_cases h0 : 0 < nr
        · obtain ⟨g, off, x, rfl, hg, hc0, hx, HX⟩ := HV.out.at 0 h0
          rw [Nat.add_zero] at hc0
          have hc : wr.cell? ⟨g, off, none⟩ = some (.int .u8 (x : Int)) := (hb.cell (p := ⟨g, off, none⟩) hg).trans hc0
          have hne : r ≠ [] := by intro e; have := HNR.out; rw [e] at this; simp at this; omega
          have hhd : r.head? = some x := by rw [List.head?_eq_getElem?]; exact HX.out
          by_cases hx0 : x = 0
          · have hq2 : ((x : Int) != 0) = false := by simp [hx0]
            have HE : Hid (R = r.all (· == 0) ∧ M.cop L = c) := by
              cases r with
              | nil => exact absurd rfl hne
              | cons y t =>
                simp at hhd
                refine ⟨?_, ?_⟩
                · rw [HA.out, hhd, hx0]; exact okO_zero
                · rw [HCP.out, hhd, hx0, M.cop_zero, List.append_nil]
            have HAZ := hid (allZero_any _ r wr (HV.out.below hb))
            clear hx0 hne hhd hb
            go_wp2_with fail
            refine HAZ.out.mono ?_
            rintro _ _ ⟨rfl, e⟩
            obtain rfl := e.symm
            go_wp2_with fail
            go_ret
            exact ⟨ret_bool (by rw [HE.out.1]), HB.out, fun _ => by rw [HE.out.2]; exact HCAP⟩
          · have hq2 : ((x : Int) != 0) = true := by simp; omega
            have hstep := okO_step hne (by rw [hhd]; simp; exact hx0)
            have HC := hid (optionSize_any _ r wr (HV.out.below hb) hne (by have := H40.out.1; omega))
            have hole : M.opt r ≤ nr := by have := M.opt_le r; have := HNR.out; omega
            have hnx : M.opt r ≠ 0 → M.nxt r = some (M.opt r) := fun h => by
              unfold M.nxt; rw [if_neg (by rw [hhd]; simp; exact hx0), if_neg h]
            obtain ⟨z, hz⟩ : ∃ z, z = M.opt r := ⟨_, rfl⟩
            rw [← hz] at hstep HC hole hnx
            by_cases hz0 : z = 0
            · have HE : Hid (R = false) := by unfold Hid; rw [HA.out, hstep, if_pos hz0]
              have hq3 : ((z : Int) == 0) = true := by simp [hz0]
              clear hz hz0 hstep hx0 hne hhd hnx hb
              go_wp2_with fail
              refine HC.out.mono ?_
              rintro _ _ ⟨rfl, e⟩
              obtain rfl := e.symm
              go_wp2_with fail
              go_ret
              exact ⟨ret_bool (by rw [HE.out]), HB.out, fun h => by rw [HE.out] at h; cases h⟩
            · have HE : Hid (R = M.okO (r.drop z)) := by unfold Hid; rw [HA.out, hstep, if_neg hz0]
              have hq3 : ((z : Int) == 0) = false := by simp; omega
              have HZ := hid (show 0 < z by omega)
              obtain ⟨ah, HSH, hhigh⟩ := HV.out.high z (z : Int) rfl hole
              obtain ⟨al, HSL, hlow⟩ := HV.out.low z (z : Int) rfl hole
              have hrz : z ≤ r.length := by have := HNR.out; omega
              have hhead : (r.take z).headD 0 = r.headD 0 := by
                cases r with
                | nil => exact absurd rfl hne
                | cons y t =>
                  obtain ⟨z', rfl⟩ : ∃ z', z = z' + 1 := ⟨z - 1, by omega⟩
                  rfl
              have HCL := hid (closure_any w0.heap.size _ (r.take z) c wr (HSH.out.below hb) (by
                intro e; have h := congrArg List.length e; rw [List.length_take, Nat.min_eq_left hrz, List.length_nil] at h; omega) HCAP.out (by rw [List.length_take]; have := H40.out.1; omega) H40.out.2)
              rw [hhead] at HCL
              have HCP2 : Hid (M.cop L = (c ++ if 128 ≤ r.headD 0 then r.take z else []) ++ M.cop (r.drop z)) := by
                unfold Hid; rw [HCP.out, M.cop_some hne (hnx hz0), List.append_assoc]
              have HD40 : Hid ((c ++ if 128 ≤ r.headD 0 then r.take z else []).length + (r.drop z).length ≤ 40 ∧ ∀ x ∈ (c ++ if 128 ≤ r.headD 0 then r.take z else []), x < 256) := by
                refine ⟨?_, fun x hx => ?_⟩
                · rw [List.length_append, List.length_drop]
                  have := H40.out.1
                  split
                  · rw [List.length_take]; omega
                  · simp; omega
                · rcases List.mem_append.1 hx with hx | hx
                  · exact H40.out.2 x hx
                  · split at hx
                    · exact HV.out.bytes x (List.mem_of_mem_take hx)
                    · cases hx
              generalize (c ++ if 128 ≤ r.headD 0 then r.take z else []) = c2 at *
              clear hz hz0 hstep hx0 hne hhd hnx hhead hrz hb
              go_wp2_with fail
              refine HC.out.mono ?_
              rintro _ _ ⟨rfl, e⟩
              obtain rfl := e.symm
              go_wp2_with fail
              refine HCL.out.mono ?_
              rintro _ w2 ⟨rfl, HCAP2, hb2⟩
              have hb3 := HB.out.trans hb2
              clear hb2
              go_wp2_with fail
              go_roundw
              case rel => exact ⟨r.drop z, c2, w2, rfl, HSL, HE, HD40, HCP2, HCAP2, hb3⟩
              case measure => (have := HZ.out; simp [lenOf]; omega)
        · have HE : Hid (R = r.all (· == 0) ∧ M.cop L = c) := by
            have h1 : r = [] := List.eq_nil_of_length_eq_zero (by have := HNR.out; omega)
            refine ⟨?_, ?_⟩
            · rw [HA.out, h1, M.okO_nil]; rfl
            · rw [HCP.out, h1, M.cop_nil, List.append_nil]
          have HAZ := hid (allZero_any _ r wr (HV.out.below hb))
          go_wp2_with fail
          refine HAZ.out.mono ?_
          rintro _ _ ⟨rfl, e⟩
          obtain rfl := e.symm
          go_wp2_with fail
          go_ret
          exact ⟨ret_bool (by rw [HE.out.1]), HB.out, fun _ => by rw [HE.out.2]; exact HCAP⟩
    · have hq : ((n : Int) % 4 != 0) = true := by simp; omega
      have HE : Hid (R = false) := by
        unfold Hid; rw [HR.out]; unfold M.area; have := HN.out; rw [decide_eq_false (p := L.length % 4 = 0) (by omega)]; simp
      clear h4 HR
      go_enter Try.func55, Try.ntmps55
      go_wp2_with fail
      go_ret
      exact ⟨ret_bool (by rw [HE.out]), HW.out, fun h => by rw [HE.out] at h; cases h⟩

set_option maxHeartbeats 1000000 in
/-- The program's Copied. -/
theorem copied_code (v : Value) (L : List Nat) (w : World) (hv : SeesB w v L) :
    Calls Try.prog 54 #[v] w fun e w' => ∃ v', e = .returned (.tuple #[v', .int .i64 (M.copied L).2]) ∧ OwnB w' w.heap.size v' (M.copied L).1 ∧ Below w.heap.size w w' := by
  obtain ⟨w1, hw1⟩ : ∃ w1, w1 = w.alloc (.cells #[.slice none 0 0] 22) := ⟨_, rfl⟩
  have hb1 : Below w.heap.size w w1 := by rw [hw1]; exact (Below.refl _ _).alloc (Nat.le_refl _) _
  have hcap : Cap w1 w.heap.size [] := ⟨none, 0, 0, by rw [hw1]; exact heap_alloc_new w _, ownB_nil _ _⟩
  have HWK := hid (walkC_any v L w w1 hv hb1 hcap)
  obtain ⟨ao, n, cap, rfl, HN, hn1, hn2⟩ := hv.shape
  have HBY : Hid (∀ x ∈ L, x < 256) := hv.bytes
  obtain ⟨C, hC⟩ : ∃ C, C = M.copied L := ⟨_, rfl⟩
  have HC : Hid (C = if M.area L then (M.pad (M.cop L), 0) else ([], 34)) := hC
  rw [← hC]
  have HW1 := hid hw1
  have HCB : Hid (M.area L = true → (M.cop L).length ≤ 40 ∧ ∀ x ∈ M.cop L, x < 256) := fun h => by
    have h1 := M.cop_le _ L (Nat.le_refl _)
    have h2 := (area_len' h).1
    exact ⟨by omega, fun x hx => HBY.out x (M.cop_mem _ L (Nat.le_refl _) x hx)⟩
  clear hw1 hb1 hcap hv hC
  cases hA : M.area L with
  | false =>
    have HE : Hid (C = ([], 34)) := by unfold Hid; rw [HC.out, hA]; rfl
    rw [hA] at HWK
    clear HC hA HCB
    go_enter Try.func54, Try.ntmps54
    go_wp2_with fail
    rw [← HW1.out]
    refine HWK.out.mono ?_
    rintro _ w2 ⟨rfl, hb2, _⟩
    go_wp2_with fail
    refine bodyPost_ret (results_tmp2 Try.results54 _ _ _) rfl ?_
    exact ⟨.slice none 0 0, by rw [HE.out]; rfl, by rw [HE.out]; exact ownB_nil _ _, hb2⟩
  | true =>
    have HE : Hid (C = (M.pad (M.cop L), 0)) := by unfold Hid; rw [HC.out, hA]; rfl
    rw [hA] at HWK
    obtain ⟨hcl, hcb⟩ := HCB.out hA
    have HCX : Hid (∀ x ∈ M.cop L, x < 256) := hcb
    clear HC hA HCB hcb
    go_enter Try.func54, Try.ntmps54
    go_wp2_with fail
    rw [← HW1.out]
    refine HWK.out.mono ?_
    rintro _ w2 ⟨rfl, hb2, hcap2⟩
    have HCAP := hcap2 trivial
    have HB2 := hid hb2
    clear hcap2 hb2
    go_wp2_with fail
    go_loopw [] (fun wv => ∃ (cl : List Nat) (wr : World), wr = wv ∧ Hid (Cap wr w.heap.size cl) ∧ Hid (M.pad cl = M.pad (M.cop L) ∧ cl.length ≤ 44 ∧ ∀ x ∈ cl, x < 256) ∧ Below w.heap.size w wr) (fun wv => (4 - lenOf ((wv.cell? ⟨w.heap.size, 0, none⟩).getD undef) % 4) % 4)
    case atStart => exact ⟨M.cop L, w2, rfl, HCAP, ⟨rfl, by omega, HCX.out⟩, HB2.out⟩
    case round =>
      clear HCAP HB2
      obtain ⟨cl, wr, rfl, HCAP, HD, hb⟩ := hrel
      obtain ⟨ac, nc, cc, hrow, hown⟩ := HCAP.out
      have k0 : wr.cell? ⟨w.heap.size, 0, none⟩ = some (.slice ac nc cc) := by rw [cell_of_row _ _ _ _ _ _ hrow]; rfl
      have hnl : nc = cl.length := by
        have := (hown.sees HD.out.2.2)
        obtain ⟨_, _, hv, _⟩ := this
        simp at hv; exact hv.2.1
      have HNC : Hid (nc = cl.length) := hnl
      have hnc : nc ≤ 44 := by have := HD.out.2.1; omega
      have HOWN := hid hown
      have HROW := hid hrow
      have hlt : w.heap.size < wr.heap.size := (Array.getElem?_eq_some_iff.1 hrow).1
      clear hnl hrow hown
      by_cases h4 : nc % 4 = 0
      · have hq : ((nc : Int) % 4 != 0) = false := by simp; omega
        have HF : Hid (cl = M.pad (M.cop L)) := by
          unfold Hid; rw [← HD.out.1, M.pad_done (by have := HNC.out; omega)]
        have HOL : Hid (OwnB wr w.heap.size (.slice ac nc cc) (M.pad (M.cop L))) := by
          have := HOWN.out.low (Nat.le_succ _)
          rw [HF.out] at this
          exact this
        clear h4
        go_wp2_with fail
        refine bodyPost_ret (results_tmp2 Try.results54 _ _ _) rfl ?_
        exact ⟨_, by rw [HE.out]; rfl, by rw [HE.out]; exact HOL.out, hb⟩
      · have hq : ((nc : Int) % 4 != 0) = true := by simp; omega
        have HF : Hid (M.pad (cl ++ [0]) = M.pad (M.cop L) ∧ (cl ++ [0]).length ≤ 44 ∧ ∀ x ∈ cl ++ [0], x < 256) := by
          refine ⟨by rw [← M.pad_step (by have := HNC.out; omega)]; exact HD.out.1, ?_, fun x hx => ?_⟩
          · rw [List.length_append, List.length_singleton]
            have := HNC.out; have := HD.out.2.1; omega
          · rcases List.mem_append.1 hx with hx | hx
            · exact HD.out.2.2 x hx
            · simp at hx; omega
        have HM4 : Hid (nc % 4 ≠ 0) := h4
        clear h4
        go_wp2_with (at_builtin; refine wpList_append_bytes rfl _ _ rfl (w.heap.size + 1) _ _ rfl (HOWN.out.alloc _) _ [0] rfl (sees_one rfl 0 (by omega) _) ?c1 ?c2 ?_)
        case c1 => have := HD.out.2.1; simp only [List.length_cons, List.length_nil]; omega
        case c2 => simp; omega
        intro v' w6 ho hb6
        have hs6 := ho.sees HF.out.2.2
        obtain ⟨a6, n6, c6, rfl, HN6, _, _⟩ := hs6.shape
        have hbA : Below (w.heap.size + 1) wr (wr.alloc (.cells #[.int .u8 0] 5)) := (Below.refl _ _).alloc (by omega) _
        have hb16 : Below (w.heap.size + 1) wr w6 := hbA.trans hb6
        have hrow6 := (hb16.block w.heap.size (by omega)).trans HROW.out
        have k6 : w6.cell? ⟨w.heap.size, 0, none⟩ = some (.slice ac nc cc) := by rw [cell_of_row _ _ _ _ _ _ hrow6]; rfl
        have f6 : w6.frozen? ⟨w.heap.size, 0, none⟩ = false := frozen_of_row _ _ _ _ _ hrow6
        have HR : Hid (Cap (w6.setCell ⟨w.heap.size, 0, none⟩ (.slice a6 n6 c6)) w.heap.size (cl ++ [0]) ∧ Below w.heap.size w (w6.setCell ⟨w.heap.size, 0, none⟩ (.slice a6 n6 c6)) ∧ (w6.setCell ⟨w.heap.size, 0, none⟩ (.slice a6 n6 c6)).cell? ⟨w.heap.size, 0, none⟩ = some (.slice a6 n6 c6)) := by
          refine ⟨⟨a6, n6, c6, row_set hrow6, ho.set⟩, ?_, ?_⟩
          · exact (hb.trans (hb16.mono (Nat.le_succ _))).setCell (p := ⟨w.heap.size, 0, none⟩) (Nat.le_refl _) _
          · rw [cell_of_row _ _ _ _ _ _ (row_set hrow6)]; rfl
        have K0 := hid k0
        clear ho hb6 hs6 hbA hb16 hrow6 k0
        go_wp2_with fail
        generalize w6.setCell ⟨w.heap.size, 0, none⟩ (.slice a6 n6 c6) = w7 at HR ⊢
        go_roundw
        case rel => exact ⟨cl ++ [0], w7, rfl, HR.out.1, HF, HR.out.2.1⟩
        case measure =>
          have h1 := HN6.out
          rw [List.length_append, List.length_singleton] at h1
          have h2 := HNC.out
          have h3 := HM4.out
          rw [HR.out.2.2, K0.out]
          simp only [lenOf, Option.getD_some]
          omega
end Go.Proofs.Ytdoeebbcieiimaa
