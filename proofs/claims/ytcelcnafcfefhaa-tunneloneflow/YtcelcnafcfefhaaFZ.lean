import Derived.Test.YtcelcnafcfefhaaNMath2
import Derived.Test.YtcelcnafcfefhaaNQ
import Derived.Test.YtcelcnafcfefhaaNF
import Derived.Test.YtcelcnafcfefhaaNL
import Derived.Test.YtcelcnafcfefhaaNH
import Derived.Test.YtcelcnafcfefhaaEZ
import Derived.Laws.Tables
import Derived.Great.BuildSlice
import Derived.Deep.CutRange
namespace Go.Proofs.Ytcelcnafcfefhaa.N.M

/-- The options of the rest of an area that are carried on. -/
def cop (r : List Nat) : List Nat :=
  if _hr : r = [] then []
  else match _h : nxt r with
    | none => []
    | some k => (if 128 ≤ r.headD 0 then r.take k else []) ++ cop (r.drop k)
termination_by r.length
decreasing_by
  have h1 := nxt_pos _h _hr
  have h2 := List.length_pos_iff.2 _hr
  rw [List.length_drop]; omega

theorem cop_nil : cop [] = [] := by rw [cop]; simp

theorem cop_none {r : List Nat} (h : nxt r = none) : cop r = [] := by
  by_cases hr : r = []
  · rw [hr, cop_nil]
  · rw [cop, dif_neg hr]
    split
    · rfl
    · rename_i k hk; rw [h] at hk; cases hk

theorem cop_some {r : List Nat} {k : Nat} (hr : r ≠ []) (h : nxt r = some k) : cop r = (if 128 ≤ r.headD 0 then r.take k else []) ++ cop (r.drop k) := by
  rw [cop, dif_neg hr]
  split
  · rename_i hk; rw [h] at hk; cases hk
  · rename_i k' hk; rw [h] at hk; cases hk; rfl

theorem cop_zero (t : List Nat) : cop (0 :: t) = [] := by
  cases h : nxt (0 :: t) with
  | none => exact cop_none h
  | some k =>
    rw [cop_some (by simp) h]
    have hk : k = (0 :: t).length := by
      unfold nxt at h
      rw [if_pos (by simp)] at h
      split at h
      · simpa using h.symm
      · cases h
    rw [hk, List.drop_length, cop_nil]
    simp

/-- Zeros behind it, up to a whole word. -/
def pad (c : List Nat) : List Nat := c ++ List.replicate ((4 - c.length % 4) % 4) 0

theorem pad_done {c : List Nat} (h : c.length % 4 = 0) : pad c = c := by unfold pad; rw [h]; simp
theorem pad_step {c : List Nat} (h : c.length % 4 ≠ 0) : pad c = pad (c ++ [0]) := by
  unfold pad
  rw [List.append_assoc, List.length_append, List.length_singleton]
  congr 1
  have h4 : c.length % 4 < 4 := Nat.mod_lt _ (by omega)
  rw [show (4 - c.length % 4) % 4 = (4 - (c.length + 1) % 4) % 4 + 1 by omega, List.replicate_succ]
  rfl

/-- What Copied answers. -/
def copied (o : List Nat) : List Nat × Int := if area o then (pad (cop o), 0) else ([], 34)

theorem cop_le : ∀ (n : Nat) (r : List Nat), r.length ≤ n → (cop r).length ≤ r.length
  | 0, r, h => by
    obtain rfl : r = [] := List.eq_nil_of_length_eq_zero (by omega)
    rw [cop_nil]; simp
  | n + 1, r, h => by
    by_cases hr : r = []
    · rw [hr, cop_nil]; simp
    · cases hn : nxt r with
      | none => rw [cop_none hn]; simp
      | some k =>
        rw [cop_some hr hn, List.length_append]
        have h1 := nxt_pos hn hr
        have h2 := nxt_le hn
        have h3 := cop_le n (r.drop k) (by rw [List.length_drop]; omega)
        rw [List.length_drop] at h3
        split
        · rw [List.length_take]; omega
        · simp; omega

theorem cop_mem : ∀ (n : Nat) (r : List Nat), r.length ≤ n → ∀ x ∈ cop r, x ∈ r
  | 0, r, h, x, hx => by
    obtain rfl : r = [] := List.eq_nil_of_length_eq_zero (by omega)
    rw [cop_nil] at hx; cases hx
  | n + 1, r, h, x, hx => by
    by_cases hr : r = []
    · rw [hr, cop_nil] at hx; cases hx
    · cases hn : nxt r with
      | none => rw [cop_none hn] at hx; cases hx
      | some k =>
        rw [cop_some hr hn] at hx
        have h1 := nxt_pos hn hr
        have h2 := nxt_le hn
        rcases List.mem_append.1 hx with hx | hx
        · split at hx
          · exact List.mem_of_mem_take hx
          · cases hx
        · exact List.mem_of_mem_drop (cop_mem n (r.drop k) (by rw [List.length_drop]; omega) x hx)
end Go.Proofs.Ytcelcnafcfefhaa.N.M

namespace Go.Proofs.Ytcelcnafcfefhaa.N.M

/-- An option that is carried on. -/
def IsOpt (o : List Nat) : Prop := ∃ x y t, o = x :: y :: t ∧ 128 ≤ x ∧ t.length + 2 = y

/-- Such options, one behind the other. -/
def Chain (c : List Nat) : Prop := ∃ l : List (List Nat), (∀ o ∈ l, IsOpt o) ∧ c = l.flatten

theorem chain_nil : Chain [] := ⟨[], by simp, rfl⟩

theorem Chain.cons {o c : List Nat} (ho : IsOpt o) (hc : Chain c) : Chain (o ++ c) := by
  obtain ⟨l, h, rfl⟩ := hc
  refine ⟨o :: l, fun p hp => ?_, by simp⟩
  rcases List.mem_cons.1 hp with rfl | hp
  · exact ho
  · exact h p hp

theorem Chain.cases {c : List Nat} (hc : Chain c) : c = [] ∨ ∃ x y t d, c = x :: y :: (t ++ d) ∧ 128 ≤ x ∧ t.length + 2 = y ∧ Chain d := by
  obtain ⟨l, h, rfl⟩ := hc
  cases l with
  | nil => exact .inl rfl
  | cons o l =>
    obtain ⟨x, y, t, rfl, h1, h2⟩ := h o List.mem_cons_self
    exact .inr ⟨x, y, t, l.flatten, by simp, h1, h2, l, fun p hp => h p (List.mem_cons_of_mem _ hp), rfl⟩

theorem cop_chain : ∀ (n : Nat) (r : List Nat), r.length ≤ n → okO r = true → Chain (cop r)
  | 0, r, h, _ => by
    obtain rfl : r = [] := List.eq_nil_of_length_eq_zero (by omega)
    rw [cop_nil]; exact chain_nil
  | n + 1, r, h, hok => by
    by_cases hr : r = []
    · rw [hr, cop_nil]; exact chain_nil
    · cases hn : nxt r with
      | none => rw [cop_none hn]; exact chain_nil
      | some k =>
        have h1 := nxt_pos hn hr
        have h2 := nxt_le hn
        have hc := cop_chain n (r.drop k) (by rw [List.length_drop]; omega) (by rw [← okO_some hr hn]; exact hok)
        rw [cop_some hr hn]
        by_cases h128 : 128 ≤ r.headD 0
        · rw [if_pos h128]
          refine Chain.cons ?_ hc
          match r, hr, hn, h128 with
          | [x], _, hn, h128 =>
            have hx : 128 ≤ x := h128
            rw [nxt_last (by omega) (by omega)] at hn
            cases hn
          | x :: y :: t, _, hn, h128 =>
            have hx : 128 ≤ x := h128
            by_cases hb : y < 2 ∨ t.length + 2 < y
            · rw [nxt_bad (by omega) (by omega) hb] at hn; cases hn
            · rw [nxt_good (by omega) (by omega) hb] at hn
              have hk : k = y := by simpa using hn.symm
              subst hk
              obtain ⟨z, rfl⟩ : ∃ z, k = z + 2 := ⟨k - 2, by omega⟩
              exact ⟨x, z + 2, t.take z, rfl, hx, by rw [List.length_take]; omega⟩
        · rw [if_neg h128, List.nil_append]; exact hc

theorem chain_zeros (z : Nat) : ∀ (n : Nat) (c : List Nat), c.length ≤ n → Chain c → okO (c ++ List.replicate z 0) = true ∧ cop (c ++ List.replicate z 0) = c := by
  intro n
  induction n with
  | zero =>
    intro c hl _
    obtain rfl : c = [] := List.eq_nil_of_length_eq_zero (by omega)
    rw [List.nil_append]
    cases z with
    | zero => exact ⟨okO_nil, cop_nil⟩
    | succ z =>
      rw [List.replicate_succ]
      have hn := nxt_zero_ok (t := List.replicate z 0) (by simp)
      exact ⟨by rw [okO_some (by simp) hn, List.drop_length, okO_nil], cop_zero _⟩
  | succ n ih =>
    intro c hl hc
    rcases hc.cases with rfl | ⟨x, y, t, d, rfl, hx, hy, hd⟩
    · exact ih [] (by simp) hc
    · obtain ⟨e1, e2⟩ := ih d (by simp at hl; omega) hd
      have e : x :: y :: (t ++ d) ++ List.replicate z 0 = x :: y :: (t ++ (d ++ List.replicate z 0)) := by simp
      have hn : nxt (x :: y :: (t ++ (d ++ List.replicate z 0))) = some y := nxt_good (by omega) (by omega) (by rw [List.length_append]; omega)
      have hdr : (x :: y :: (t ++ (d ++ List.replicate z 0))).drop y = d ++ List.replicate z 0 := by
        rw [← hy]; exact List.drop_left' rfl
      have htk : (x :: y :: (t ++ (d ++ List.replicate z 0))).take y = x :: y :: t := by
        have h1 : (x :: y :: (t ++ (d ++ List.replicate z 0))).take (t.length + 2) = x :: y :: t := by
          show x :: y :: (t ++ (d ++ List.replicate z 0)).take t.length = _
          rw [List.take_left' rfl]
        rw [hy] at h1
        exact h1
      rw [e]
      refine ⟨by rw [okO_some (by simp) hn, hdr, e1], ?_⟩
      rw [cop_some (by simp) hn, hdr, htk, e2, if_pos (by exact hx)]
      simp

/-- What is carried on: an area, no longer, and it is carried on whole. -/
theorem copied_once {o : List Nat} (ho : area o = true) : ∃ c z, pad (cop o) = c ++ List.replicate z 0 ∧ Chain c ∧ z ≤ 3 ∧ (c.length + z) % 4 = 0 ∧ c.length + z ≤ o.length ∧ area (pad (cop o)) = true ∧ pad (cop (pad (cop o))) = pad (cop o) := by
  have ho' := ho
  unfold area at ho'
  simp only [Bool.and_eq_true, decide_eq_true_eq] at ho'
  obtain ⟨⟨h1, h2⟩, h3⟩ := ho'
  have hc := cop_chain _ o (Nat.le_refl _) h3
  have hl := cop_le _ o (Nat.le_refl _)
  have hp : pad (cop o) = cop o ++ List.replicate ((4 - (cop o).length % 4) % 4) 0 := rfl
  obtain ⟨e1, e2⟩ := chain_zeros ((4 - (cop o).length % 4) % 4) _ (cop o) (Nat.le_refl _) hc
  refine ⟨cop o, (4 - (cop o).length % 4) % 4, hp, hc, by omega, by omega, by omega, ?_, ?_⟩
  · unfold area
    simp only [Bool.and_eq_true, decide_eq_true_eq]
    rw [hp]
    refine ⟨⟨?_, ?_⟩, e1⟩
    · rw [List.length_append, List.length_replicate]; omega
    · rw [List.length_append, List.length_replicate]; omega
  · rw [hp, e2, hp]
end Go.Proofs.Ytcelcnafcfefhaa.N.M

namespace Go.Proofs.Ytcelcnafcfefhaa.N
open Go.ChangeShapes Go.WideShapes Go.ChangeAt Go.RowKit
set_option maxHeartbeats 400000
set_option maxRecDepth 100000


/-- The loop that fills up to a whole word, and what the reference answers. -/
theorem area_len' {o : List Nat} (h : M.area o = true) : o.length ≤ 40 ∧ M.okO o = true := by
  unfold M.area at h
  simp at h
  exact ⟨h.1.1, h.2⟩

end Go.Proofs.Ytcelcnafcfefhaa.N

namespace Go.Proofs.Ytcelcnafcfefhaa.N
open Go.ChangeShapes Go.WideShapes Go.ChangeAt Go.RowKit
set_option maxHeartbeats 400000
set_option maxRecDepth 100000

theorem and_u8_high (x : Nat) (hx : x < 256) : (bits .and .u8 (x : Int) 128 != 0) = decide (128 ≤ x) := by
  have h := u8_and_nat x 128 hx (by omega)
  rw [show ((128 : Nat) : Int) = 128 from rfl] at h
  have e : x &&& 128 = 128 * (x / 128 % 2) := by
    have := and_bit x 7
    simpa using this
  rw [h, e, Bool.eq_iff_iff]
  simp
  omega

/-- The captured variable at block b holds a list of its own, c. -/
def Cap (w : World) (b : Nat) (c : List Nat) : Prop :=
  ∃ ao n cap, w.heap[b]? = some (.cells #[.slice ao n cap] 25 (0, 0)) ∧ OwnB w (b + 1) (.slice ao n cap) c

theorem Cap.lt {w : World} {b : Nat} {c : List Nat} (h : Cap w b c) : b < w.heap.size := by
  obtain ⟨_, _, _, h, _⟩ := h
  exact (Array.getElem?_eq_some_iff.1 h).1

theorem OwnB.set {w : World} {b k : Nat} {v x : Value} {c : List Nat} (h : OwnB w (b + 1) v c) : OwnB (w.setCell ⟨b, k, none⟩ x) (b + 1) v c := by
  refine World.ownsRow.kept (row := some b) h ⟨rfl, rfl, rfl, by simp [World.setCell], fun i _ hi => ?_⟩ ?_
  · have hne : b ≠ i := fun e => hi (by rw [e])
    simp [World.setCell, Array.getElem?_modify, hne]
  · rcases h.2 with ⟨rfl, _⟩ | ⟨g, cap, cur, rfl, hbg, _⟩
    · exact .inl rfl
    · exact .inr (by show some g ≠ some b; intro e; cases e; omega)

theorem OwnB.low {w : World} {b b' : Nat} {v : Value} {c : List Nat} (h : OwnB w b v c) (hb : b' ≤ b) : OwnB w b' v c := by
  refine ⟨h.1, ?_⟩
  rcases h.2 with hn | ⟨g, cap, cur, rfl, hbg, rest⟩
  · exact .inl hn
  · exact .inr ⟨g, cap, cur, rfl, Nat.le_trans hb hbg, rest⟩

theorem row_set {w : World} {b : Nat} {v x : Value} {t : TypeId} (h : w.heap[b]? = some (.cells #[v] t (0, 0))) : (w.setCell ⟨b, 0, none⟩ x).heap[b]? = some (.cells #[x] t (0, 0)) := by
  simp [World.setCell, Array.getElem?_modify, h]

set_option maxHeartbeats 1000000 in
theorem closure_any (b : Nat) (v : Value) (L c : List Nat) (w : World) (hv : SeesB w v L) (hne : L ≠ []) (hc : Cap w b c) (hcl : c.length + L.length ≤ 1000) (hb256 : ∀ x ∈ c, x < 256) :
    Calls Try.prog 83 #[v, .pointer (some ⟨b, 0, none⟩)] w fun e w' => e = .returned (.tuple #[]) ∧ Hid (Cap w' b (c ++ if 128 ≤ L.headD 0 then L else [])) ∧ Below b w w' := by
  obtain ⟨ao, n, cap, rfl, HN, hn1, hn2⟩ := hv.shape
  have hn0 : 0 < n := by have := HN.out; have := List.length_pos_iff.2 hne; omega
  obtain ⟨g, off, x, rfl, hg, hcx, hx, HX⟩ := hv.at 0 hn0
  rw [Nat.add_zero] at hcx
  have hhd : L.headD 0 = x := by
    have := HX.out
    cases L with
    | nil => exact absurd rfl hne
    | cons y t => simpa using this
  rw [hhd]
  have hand := and_u8_high x hx
  obtain ⟨a1, n1, c1, hrow, hown⟩ := hc
  have k0 : w.cell? ⟨b, 0, none⟩ = some (.slice a1 n1 c1) := by rw [cell_of_row _ _ _ _ _ _ hrow]; rfl
  have hlt : b < w.heap.size := (Array.getElem?_eq_some_iff.1 hrow).1
  have HV := hid hv
  have HOWN := hid hown
  have HROW := hid hrow
  by_cases h128 : 128 ≤ x
  · have hq : (bits .and .u8 (x : Int) 128 != 0) = true := by rw [hand]; simp [h128]
    rw [if_pos h128]
    clear hand hhd hne hv hown hrow h128 HX
    go_enter Try.func83, Try.ntmps83
    go_wp2_with (at_builtin; refine wpList_append_bytes rfl _ _ rfl (b + 1) _ _ rfl HOWN.out _ L rfl HV.out ?c1 ?c2 ?_)
    case c1 => omega
    case c2 => omega
    intro v' w2 ho hb2
    have hrow2 := (hb2.block b (by omega)).trans HROW.out
    have k2 : w2.cell? ⟨b, 0, none⟩ = some (.slice a1 n1 c1) := by rw [cell_of_row _ _ _ _ _ _ hrow2]; rfl
    have f2 : w2.frozen? ⟨b, 0, none⟩ = false := frozen_of_row _ _ _ _ _ hrow2
    have hs := ho.sees (fun y hy => by
      rcases List.mem_append.1 hy with hy | hy
      · exact hb256 y hy
      · exact HV.out.bytes y hy)
    obtain ⟨a2, n2, c2, rfl, _, _, _⟩ := hs.shape
    have HR : Hid (Cap (w2.setCell ⟨b, 0, none⟩ (.slice a2 n2 c2)) b (c ++ L) ∧ Below b w (w2.setCell ⟨b, 0, none⟩ (.slice a2 n2 c2))) :=
      ⟨⟨a2, n2, c2, row_set hrow2, ho.set⟩, (hb2.mono (Nat.le_succ b)).setCell (p := ⟨b, 0, none⟩) (Nat.le_refl _) _⟩
    clear ho hb2 hrow2 hs
    go_wp2_with fail
    exact bodyPost_end (results_none Try.results83 _ _ _) rfl ⟨rfl, HR.out.1, HR.out.2⟩
  · have hq : (bits .and .u8 (x : Int) 128 != 0) = false := by rw [hand]; simp [h128]
    rw [if_neg h128, List.append_nil]
    have HR : Hid (Cap w b c) := ⟨a1, n1, c1, hrow, hown⟩
    clear hand hhd hne hv hown hrow h128 HX
    go_enter Try.func83, Try.ntmps83
    go_wp2_with fail
    exact bodyPost_end (results_none Try.results83 _ _ _) rfl ⟨rfl, HR, Below.refl _ _⟩

set_option maxHeartbeats 1000000 in
theorem walkC_any (v : Value) (L : List Nat) (w0 w : World) (hv : SeesB w0 v L) (hw : Below w0.heap.size w0 w) (hcap : Cap w w0.heap.size []) :
    Calls Try.prog 62 #[v, .func (.func 83) #[] #[.pointer (some ⟨w0.heap.size, 0, none⟩)]] w fun e w' => e = .returned (.bool (M.area L)) ∧ Below w0.heap.size w0 w' ∧ (M.area L = true → Hid (Cap w' w0.heap.size (M.cop L))) := by
  obtain ⟨ao, n, cap, rfl, HN, hn1, hn2⟩ := hv.shape
  unfold maxLen at hn2
  have HV := hid hv
  have HW := hid hw
  have HCAP := hid hcap
  clear hv hw hcap
  obtain ⟨R, hR⟩ : ∃ R, R = M.area L := ⟨_, rfl⟩
  have HR := hid hR
  rw [← hR]
  clear hR
  by_cases h40 : 40 < n
  · have HE : Hid (R = false) := by
      unfold Hid; rw [HR.out]; unfold M.area; have := HN.out; rw [decide_eq_false (by omega)]; rfl
    go_enter Try.func62, Try.ntmps62
    go_wp2_with fail
    go_ret
    exact ⟨ret_bool (by rw [HE.out]), HW.out, fun h => by rw [HE.out] at h; cases h⟩
  · by_cases h4 : n % 4 = 0
    · have hq : ((n : Int) % 4 != 0) = false := by simp; omega
      have HA : Hid (R = M.okO L) := by
        unfold Hid; rw [HR.out]; unfold M.area; have := HN.out; rw [decide_eq_true (by omega), decide_eq_true (by omega)]; rfl
      have HN40 : Hid (L.length ≤ 40) := by have := HN.out; unfold Hid; omega
      clear h4 HR
      go_enter Try.func62, Try.ntmps62
      go_wp2_with fail
      go_loopw [0, 5] (fun p _ wv => ∃ (r c : List Nat) (wr : World), wr = wv ∧ Hid (SeesB w0 p r) ∧ Hid (R = M.okO r) ∧ Hid (c.length + r.length ≤ 40 ∧ ∀ x ∈ c, x < 256) ∧ Hid (M.cop L = c ++ M.cop r) ∧ Hid (Cap wr w0.heap.size c) ∧ Below w0.heap.size w0 wr) (fun p _ _ => lenOf p)
      case atStart => exact ⟨L, [], w, rfl, HV, HA, ⟨by have := HN40.out; simpa using this, by simp⟩, by simp [Hid], HCAP, HW.out⟩
      case round =>
        clear HV HN HA HN40 h40 HW HCAP
        obtain ⟨r, c, wr, rfl, HV, HA, H40, HCP, HCAP, hb⟩ := hrel
        obtain ⟨ar, nr, capr, rfl, HNR, hr1, hr2⟩ := HV.out.shape
        unfold maxLen at hr2
        have HB := hid hb
        by_cases h0 : 0 < nr
        · obtain ⟨g, off, x, rfl, hg, hc0, hx, HX⟩ := HV.out.at 0 h0
          rw [Nat.add_zero] at hc0
          have hc : wr.cell? ⟨g, off, none⟩ = some (.int .u8 (x : Int)) := (hb.cell (p := ⟨g, off, none⟩) hg).trans hc0
          have hne : r ≠ [] := by intro e; have := HNR.out; rw [e] at this; simp at this; omega
          have hhd : r.head? = some x := by rw [List.head?_eq_getElem?]; exact HX.out
          by_cases hx0 : x = 0
          · have hq2 : ((x : Int) != 0) = false := by simp [hx0]
            have HE : Hid (R = r.all (· == 0) ∧ M.cop L = c) := by
              cases r with
              | nil => exact absurd rfl hne
              | cons y t =>
                simp at hhd
                refine ⟨?_, ?_⟩
                · rw [HA.out, hhd, hx0]; exact okO_zero
                · rw [HCP.out, hhd, hx0, M.cop_zero, List.append_nil]
            have HAZ := hid (allZero_any _ r wr (HV.out.below hb))
            clear hx0 hne hhd hb
            go_wp2_with fail
            refine HAZ.out.mono ?_
            rintro _ _ ⟨rfl, e⟩
            obtain rfl := e.symm
            go_wp2_with fail
            go_ret
            exact ⟨ret_bool (by rw [HE.out.1]), HB.out, fun _ => by rw [HE.out.2]; exact HCAP⟩
          · have hq2 : ((x : Int) != 0) = true := by simp; omega
            have hstep := okO_step hne (by rw [hhd]; simp; exact hx0)
            have HC := hid (optionSize_any _ r wr (HV.out.below hb) hne (by have := H40.out.1; omega))
            have hole : M.opt r ≤ nr := by have := M.opt_le r; have := HNR.out; omega
            have hnx : M.opt r ≠ 0 → M.nxt r = some (M.opt r) := fun h => by
              unfold M.nxt; rw [if_neg (by rw [hhd]; simp; exact hx0), if_neg h]
            obtain ⟨z, hz⟩ : ∃ z, z = M.opt r := ⟨_, rfl⟩
            rw [← hz] at hstep HC hole hnx
            by_cases hz0 : z = 0
            · have HE : Hid (R = false) := by unfold Hid; rw [HA.out, hstep, if_pos hz0]
              have hq3 : ((z : Int) == 0) = true := by simp [hz0]
              clear hz hz0 hstep hx0 hne hhd hnx hb
              go_wp2_with fail
              refine HC.out.mono ?_
              rintro _ _ ⟨rfl, e⟩
              obtain rfl := e.symm
              go_wp2_with fail
              go_ret
              exact ⟨ret_bool (by rw [HE.out]), HB.out, fun h => by rw [HE.out] at h; cases h⟩
            · have HE : Hid (R = M.okO (r.drop z)) := by unfold Hid; rw [HA.out, hstep, if_neg hz0]
              have hq3 : ((z : Int) == 0) = false := by simp; omega
              have HZ := hid (show 0 < z by omega)
              obtain ⟨ah, HSH, hhigh⟩ := HV.out.high z (z : Int) rfl hole
              obtain ⟨al, HSL, hlow⟩ := HV.out.low z (z : Int) rfl hole
              have hrz : z ≤ r.length := by have := HNR.out; omega
              have hhead : (r.take z).headD 0 = r.headD 0 := by
                cases r with
                | nil => exact absurd rfl hne
                | cons y t =>
                  obtain ⟨z', rfl⟩ : ∃ z', z = z' + 1 := ⟨z - 1, by omega⟩
                  rfl
              have HCL := hid (closure_any w0.heap.size _ (r.take z) c wr (HSH.out.below hb) (by
                intro e; have h := congrArg List.length e; rw [List.length_take, Nat.min_eq_left hrz, List.length_nil] at h; omega) HCAP.out (by rw [List.length_take]; have := H40.out.1; omega) H40.out.2)
              rw [hhead] at HCL
              have HCP2 : Hid (M.cop L = (c ++ if 128 ≤ r.headD 0 then r.take z else []) ++ M.cop (r.drop z)) := by
                unfold Hid; rw [HCP.out, M.cop_some hne (hnx hz0), List.append_assoc]
              have HD40 : Hid ((c ++ if 128 ≤ r.headD 0 then r.take z else []).length + (r.drop z).length ≤ 40 ∧ ∀ x ∈ (c ++ if 128 ≤ r.headD 0 then r.take z else []), x < 256) := by
                refine ⟨?_, fun x hx => ?_⟩
                · rw [List.length_append, List.length_drop]
                  have := H40.out.1
                  split
                  · rw [List.length_take]; omega
                  · simp; omega
                · rcases List.mem_append.1 hx with hx | hx
                  · exact H40.out.2 x hx
                  · split at hx
                    · exact HV.out.bytes x (List.mem_of_mem_take hx)
                    · cases hx
              generalize (c ++ if 128 ≤ r.headD 0 then r.take z else []) = c2 at *
              clear hz hz0 hstep hx0 hne hhd hnx hhead hrz hb
              go_wp2_with fail
              refine HC.out.mono ?_
              rintro _ _ ⟨rfl, e⟩
              obtain rfl := e.symm
              go_wp2_with fail
              refine HCL.out.mono ?_
              rintro _ w2 ⟨rfl, HCAP2, hb2⟩
              have hb3 := HB.out.trans hb2
              clear hb2
              go_wp2_with fail
              go_roundw
              case rel => exact ⟨r.drop z, c2, w2, rfl, HSL, HE, HD40, HCP2, HCAP2, hb3⟩
              case measure => (have := HZ.out; simp [lenOf]; omega)
        · have HE : Hid (R = r.all (· == 0) ∧ M.cop L = c) := by
            have h1 : r = [] := List.eq_nil_of_length_eq_zero (by have := HNR.out; omega)
            refine ⟨?_, ?_⟩
            · rw [HA.out, h1, M.okO_nil]; rfl
            · rw [HCP.out, h1, M.cop_nil, List.append_nil]
          have HAZ := hid (allZero_any _ r wr (HV.out.below hb))
          go_wp2_with fail
          refine HAZ.out.mono ?_
          rintro _ _ ⟨rfl, e⟩
          obtain rfl := e.symm
          go_wp2_with fail
          go_ret
          exact ⟨ret_bool (by rw [HE.out.1]), HB.out, fun _ => by rw [HE.out.2]; exact HCAP⟩
    · have hq : ((n : Int) % 4 != 0) = true := by simp; omega
      have HE : Hid (R = false) := by
        unfold Hid; rw [HR.out]; unfold M.area; have := HN.out; rw [decide_eq_false (p := L.length % 4 = 0) (by omega)]; simp
      clear h4 HR
      go_enter Try.func62, Try.ntmps62
      go_wp2_with fail
      go_ret
      exact ⟨ret_bool (by rw [HE.out]), HW.out, fun h => by rw [HE.out] at h; cases h⟩

set_option maxHeartbeats 1000000 in
/-- The program's Copied. -/
theorem copied_code (v : Value) (L : List Nat) (w : World) (hv : SeesB w v L) :
    Calls Try.prog 71 #[v] w fun e w' => ∃ v', e = .returned (.tuple #[v', .int .i64 (M.copied L).2]) ∧ OwnB w' w.heap.size v' (M.copied L).1 ∧ Below w.heap.size w w' := by
  obtain ⟨w1, hw1⟩ : ∃ w1, w1 = w.alloc (.cells #[.slice none 0 0] 25) := ⟨_, rfl⟩
  have hb1 : Below w.heap.size w w1 := by rw [hw1]; exact (Below.refl _ _).alloc (Nat.le_refl _) _
  have hcap : Cap w1 w.heap.size [] := ⟨none, 0, 0, by rw [hw1]; exact heap_alloc_new w _, ownB_nil _ _⟩
  have HWK := hid (walkC_any v L w w1 hv hb1 hcap)
  obtain ⟨ao, n, cap, rfl, HN, hn1, hn2⟩ := hv.shape
  have HBY : Hid (∀ x ∈ L, x < 256) := hv.bytes
  obtain ⟨C, hC⟩ : ∃ C, C = M.copied L := ⟨_, rfl⟩
  have HC : Hid (C = if M.area L then (M.pad (M.cop L), 0) else ([], 34)) := hC
  rw [← hC]
  have HW1 := hid hw1
  have HCB : Hid (M.area L = true → (M.cop L).length ≤ 40 ∧ ∀ x ∈ M.cop L, x < 256) := fun h => by
    have h1 := M.cop_le _ L (Nat.le_refl _)
    have h2 := (area_len' h).1
    exact ⟨by omega, fun x hx => HBY.out x (M.cop_mem _ L (Nat.le_refl _) x hx)⟩
  clear hw1 hb1 hcap hv hC
  cases hA : M.area L with
  | false =>
    have HE : Hid (C = ([], 34)) := by unfold Hid; rw [HC.out, hA]; rfl
    rw [hA] at HWK
    clear HC hA HCB
    go_enter Try.func71, Try.ntmps71
    go_wp2_with fail
    rw [← HW1.out]
    refine HWK.out.mono ?_
    rintro _ w2 ⟨rfl, hb2, _⟩
    go_wp2_with fail
    refine bodyPost_ret (results_tmp2 Try.results71 _ _ _) rfl ?_
    exact ⟨.slice none 0 0, by rw [HE.out]; rfl, by rw [HE.out]; exact ownB_nil _ _, hb2⟩
  | true =>
    have HE : Hid (C = (M.pad (M.cop L), 0)) := by unfold Hid; rw [HC.out, hA]; rfl
    rw [hA] at HWK
    obtain ⟨hcl, hcb⟩ := HCB.out hA
    have HCX : Hid (∀ x ∈ M.cop L, x < 256) := hcb
    clear HC hA HCB hcb
    go_enter Try.func71, Try.ntmps71
    go_wp2_with fail
    rw [← HW1.out]
    refine HWK.out.mono ?_
    rintro _ w2 ⟨rfl, hb2, hcap2⟩
    have HCAP := hcap2 trivial
    have HB2 := hid hb2
    clear hcap2 hb2
    go_wp2_with fail
    go_loopw [] (fun wv => ∃ (cl : List Nat) (wr : World), wr = wv ∧ Hid (Cap wr w.heap.size cl) ∧ Hid (M.pad cl = M.pad (M.cop L) ∧ cl.length ≤ 44 ∧ ∀ x ∈ cl, x < 256) ∧ Below w.heap.size w wr) (fun wv => (4 - lenOf ((wv.cell? ⟨w.heap.size, 0, none⟩).getD undef) % 4) % 4)
    case atStart => exact ⟨M.cop L, w2, rfl, HCAP, ⟨rfl, by omega, HCX.out⟩, HB2.out⟩
    case round =>
      clear HCAP HB2
      obtain ⟨cl, wr, rfl, HCAP, HD, hb⟩ := hrel
      obtain ⟨ac, nc, cc, hrow, hown⟩ := HCAP.out
      have k0 : wr.cell? ⟨w.heap.size, 0, none⟩ = some (.slice ac nc cc) := by rw [cell_of_row _ _ _ _ _ _ hrow]; rfl
      have hnl : nc = cl.length := by
        have := (hown.sees HD.out.2.2)
        obtain ⟨_, _, hv, _⟩ := this
        simp at hv; exact hv.2.1
      have HNC : Hid (nc = cl.length) := hnl
      have hnc : nc ≤ 44 := by have := HD.out.2.1; omega
      have HOWN := hid hown
      have HROW := hid hrow
      have hlt : w.heap.size < wr.heap.size := (Array.getElem?_eq_some_iff.1 hrow).1
      clear hnl hrow hown
      by_cases h4 : nc % 4 = 0
      · have hq : ((nc : Int) % 4 != 0) = false := by simp; omega
        have HF : Hid (cl = M.pad (M.cop L)) := by
          unfold Hid; rw [← HD.out.1, M.pad_done (by have := HNC.out; omega)]
        have HOL : Hid (OwnB wr w.heap.size (.slice ac nc cc) (M.pad (M.cop L))) := by
          have := HOWN.out.low (Nat.le_succ _)
          rw [HF.out] at this
          exact this
        clear h4
        go_wp2_with fail
        refine bodyPost_ret (results_tmp2 Try.results71 _ _ _) rfl ?_
        exact ⟨_, by rw [HE.out]; rfl, by rw [HE.out]; exact HOL.out, hb⟩
      · have hq : ((nc : Int) % 4 != 0) = true := by simp; omega
        have HF : Hid (M.pad (cl ++ [0]) = M.pad (M.cop L) ∧ (cl ++ [0]).length ≤ 44 ∧ ∀ x ∈ cl ++ [0], x < 256) := by
          refine ⟨by rw [← M.pad_step (by have := HNC.out; omega)]; exact HD.out.1, ?_, fun x hx => ?_⟩
          · rw [List.length_append, List.length_singleton]
            have := HNC.out; have := HD.out.2.1; omega
          · rcases List.mem_append.1 hx with hx | hx
            · exact HD.out.2.2 x hx
            · simp at hx; omega
        have HM4 : Hid (nc % 4 ≠ 0) := h4
        clear h4
        go_wp2_with (at_builtin; refine wpList_append_bytes rfl _ _ rfl (w.heap.size + 1) _ _ rfl (HOWN.out.alloc _) _ [0] rfl (sees_one rfl 0 (by omega) _) ?c1 ?c2 ?_)
        case c1 => have := HD.out.2.1; simp only [List.length_cons, List.length_nil]; omega
        case c2 => simp; omega
        intro v' w6 ho hb6
        have hs6 := ho.sees HF.out.2.2
        obtain ⟨a6, n6, c6, rfl, HN6, _, _⟩ := hs6.shape
        have hbA : Below (w.heap.size + 1) wr (wr.alloc (.cells #[.int .u8 0] 5)) := (Below.refl _ _).alloc (by omega) _
        have hb16 : Below (w.heap.size + 1) wr w6 := hbA.trans hb6
        have hrow6 := (hb16.block w.heap.size (by omega)).trans HROW.out
        have k6 : w6.cell? ⟨w.heap.size, 0, none⟩ = some (.slice ac nc cc) := by rw [cell_of_row _ _ _ _ _ _ hrow6]; rfl
        have f6 : w6.frozen? ⟨w.heap.size, 0, none⟩ = false := frozen_of_row _ _ _ _ _ hrow6
        have HR : Hid (Cap (w6.setCell ⟨w.heap.size, 0, none⟩ (.slice a6 n6 c6)) w.heap.size (cl ++ [0]) ∧ Below w.heap.size w (w6.setCell ⟨w.heap.size, 0, none⟩ (.slice a6 n6 c6)) ∧ (w6.setCell ⟨w.heap.size, 0, none⟩ (.slice a6 n6 c6)).cell? ⟨w.heap.size, 0, none⟩ = some (.slice a6 n6 c6)) := by
          refine ⟨⟨a6, n6, c6, row_set hrow6, ho.set⟩, ?_, ?_⟩
          · exact (hb.trans (hb16.mono (Nat.le_succ _))).setCell (p := ⟨w.heap.size, 0, none⟩) (Nat.le_refl _) _
          · rw [cell_of_row _ _ _ _ _ _ (row_set hrow6)]; rfl
        have K0 := hid k0
        clear ho hb6 hs6 hbA hb16 hrow6 k0
        go_wp2_with fail
        generalize w6.setCell ⟨w.heap.size, 0, none⟩ (.slice a6 n6 c6) = w7 at HR ⊢
        go_roundw
        case rel => exact ⟨cl ++ [0], w7, rfl, HR.out.1, HF, HR.out.2.1⟩
        case measure =>
          have h1 := HN6.out
          rw [List.length_append, List.length_singleton] at h1
          have h2 := HNC.out
          have h3 := HM4.out
          rw [HR.out.2.2, K0.out]
          simp only [lenOf, Option.getD_some]
          omega
end Go.Proofs.Ytcelcnafcfefhaa.N

namespace Go.Proofs.Ytcelcnafcfefhaa.N
open Go.ChangeShapes Go.WideShapes Go.ChangeAt Go.RowKit
set_option maxHeartbeats 400000

abbrev Pk := Hd × List Nat

def rmOf (h : Hd) (mtu : Nat) : Nat := (mtu - (20 + h.opts.length)) / 8 * 8
def nextH (h : Hd) (k : Nat) (later : List Nat) : Hd := { h with off := h.off + (k : Int), opts := later }
def frontH (h : Hd) : Hd := { h with mf := true }

def cutL (later : List Nat) (mtu : Nat) : Nat → Hd → List Nat → List Pk
  | 0, h, B => [(h, B)]
  | f + 1, h, B => if 20 + h.opts.length + B.length ≤ mtu then [(h, B)] else (frontH h, B.take (rmOf h mtu)) :: cutL later mtu f (nextH h (rmOf h mtu) later) (B.drop (rmOf h mtu))

theorem cutL_fits {later : List Nat} {mtu f : Nat} {h : Hd} {B : List Nat} (hf : 20 + h.opts.length + B.length ≤ mtu) : cutL later mtu f h B = [(h, B)] := by
  cases f with
  | zero => rfl
  | succ f => rw [cutL, if_pos hf]

theorem rm_pos {h : Hd} {mtu : Nat} (ho : h.opts.length ≤ 40) (hm : 68 ≤ mtu) : 8 ≤ rmOf h mtu := by unfold rmOf; omega

theorem rm_le {h : Hd} {mtu nb : Nat} (hb : ¬ 20 + h.opts.length + nb ≤ mtu) : rmOf h mtu ≤ nb ∧ 20 + h.opts.length + rmOf h mtu ≤ max mtu (20 + h.opts.length) ∧ rmOf h mtu % 8 = 0 := by unfold rmOf; omega

theorem cutL_more {later : List Nat} {mtu f : Nat} {h : Hd} {B : List Nat} (hb : ¬ 20 + h.opts.length + B.length ≤ mtu) (hf : B.length ≤ f) (hm : 68 ≤ mtu) (ho : h.opts.length ≤ 40) :
    cutL later mtu f h B = (frontH h, B.take (rmOf h mtu)) :: cutL later mtu (f - 1) (nextH h (rmOf h mtu) later) (B.drop (rmOf h mtu)) := by
  cases f with
  | zero => omega
  | succ f => rw [cutL, if_neg hb, Nat.add_sub_cancel]

def splitL (h : Hd) (B : List Nat) (mtu : Int) : List Pk × Int :=
  if mtu < 68 then ([], 50) else if refE h B.length ≠ 0 then ([], refE h B.length) else
    if 20 + h.opts.length + B.length ≤ mtu.toNat then ([(h, B)], 0) else if h.df then ([], 51) else (cutL (M.copied h.opts).1 mtu.toNat B.length h B, 0)

theorem later_area {o : List Nat} (ho : M.area o = true) : M.area (M.copied o).1 = true ∧ (M.copied o).1.length ≤ 40 ∧ (M.copied o).2 = 0 := by
  obtain ⟨c, z, h1, h2, h3, h4, h5, h6, _⟩ := M.copied_once ho
  have e : M.copied o = (M.pad (M.cop o), 0) := by unfold M.copied; rw [if_pos ho]
  rw [e]
  exact ⟨h6, (area_len h6).1, rfl⟩

theorem later_bytes {o : List Nat} (ho : ∀ x ∈ o, x < 256) : ∀ x ∈ (M.copied o).1, x < 256 := by
  intro x hx
  unfold M.copied at hx
  split at hx
  · unfold M.pad at hx
    rcases List.mem_append.1 hx with h | h
    · exact ho x (M.cop_mem _ _ (Nat.le_refl _) x h)
    · have := List.eq_of_mem_replicate h; omega
  · cases hx

theorem front_ok {h : Hd} (hok : h.Ok) : (frontH h).Ok := ⟨hok.tos, hok.id, hok.off, hok.ttl, hok.proto, hok.src, hok.dst⟩
theorem next_ok {h : Hd} (hok : h.Ok) {k : Nat} {l : List Nat} (h0 : -9223372036854775808 ≤ h.off) (h1 : h.off + (k : Int) ≤ 9223372036854775807) : (nextH h k l).Ok := ⟨hok.tos, hok.id, ⟨by show _ ≤ h.off + (k : Int); omega, h1⟩, hok.ttl, hok.proto, hok.src, hok.dst⟩
end Go.Proofs.Ytcelcnafcfefhaa.N

namespace Go.Proofs.Ytcelcnafcfefhaa.N
open Go.ChangeShapes Go.WideShapes Go.ChangeAt Go.RowKit
set_option maxHeartbeats 1000000
set_option maxRecDepth 100000

theorem But.setRow (g : Nat) (w : World) (cs : Array Value) : But g w (w.setRow g cs) := ⟨rfl, rfl, rfl, by simp [World.setRow], fun j _ hn => by simp [World.setRow, Array.getElem?_modify, Ne.symm hn]⟩

/-- A struct goes whole into its block. -/
theorem wpList_st {ops : Array Oper} {rest : List Oper} {o : Oper} {a : Act} {w : World} {Q : Exit → Act → World → Prop} (hgd : o.guard = none) (T : TypeId) (x y : Operand) (ho : o.op = .store T x y)
    (g : Nat) (cells : Array Value) (hx : a.eval x = .pointer (some ⟨g, 0, none⟩)) (hy : a.eval y = .agg cells)
    (t : TypeId) (old : Array Value) (hg : w.heap[g]? = some (.cells old t (0, 0))) (hi : (Try.prog.info? T).map (·.size) = some cells.size)
    (hold : old.size = cells.size) (h1 : cells.all (·.oneCell') = true)
    (h : ∀ w', w'.heap[g]? = some (.cells cells t (0, 0)) → But g w w' → wpList Try.prog ops Q rest (a.put o.dst undef) w') : wpList Try.prog ops Q (o :: rest) a w :=
  wpList_store_row hgd T x y ho g cells hx hy t old hg hi hold h1 (h _ (setRow_heap w g _ _ t _ hg) (But.setRow g w cells))

/-- One cell of a struct is written. -/
theorem run_storeVar_cell (w : World) (b o : Nat) (ty : TypeId) (v : Value) (cs : Array Value) (t : TypeId) (hb : w.heap[b]? = some (.cells cs t (0, 0))) (ho : o < cs.size) (hi : (Try.prog.info? ty).map (·.size) = some 1) (h1 : v.oneCell' = true) :
    (storeVar ty ⟨b, o, none⟩ v).run Try.prog w = .ok () (w.setCell ⟨b, o, none⟩ v) := by
  have := run_storeCells_cells (P := Try.prog) b o [v] 0 w (fun j hj => by
      have : j = 0 := by simpa using hj
      subst this
      rw [cell_of_row w _ _ _ _ _ hb]; simp [ho]) (fun j hj => frozen_of_row _ _ _ _ _ hb) (fun x hx => by simp at hx; subst hx; exact h1)
  have hc : v.cells = #[v] := by cases v <;> first | rfl | cases h1
  cases hq : Try.prog.info? ty with
  | none => simp [hq] at hi
  | some i =>
    have hs : i.size = 1 := by simpa [hq] using hi
    simp only [Nat.add_zero] at this
    simp [storeVar, sizeOf, typeInfo, hq, hc, hs, this, World.setCells]

theorem set_row {w : World} {b i : Nat} {cs : Array Value} {v : Value} {t : TypeId} (h : w.heap[b]? = some (.cells cs t (0, 0))) : (w.setCell ⟨b, i, none⟩ v).heap[b]? = some (.cells (cs.setIfInBounds i v) t (0, 0)) := by
  simp [World.setCell, Array.getElem?_modify, h]

theorem wpList_st1 {ops : Array Oper} {rest : List Oper} {o : Oper} {a : Act} {w : World} {Q : Exit → Act → World → Prop} (hgd : o.guard = none) (T : TypeId) (x y : Operand) (ho : o.op = .store T x y)
    (g i : Nat) (v : Value) (hx : a.eval x = .pointer (some ⟨g, i, none⟩)) (hy : a.eval y = v) (h1 : v.oneCell' = true)
    (t : TypeId) (cs cs' : Array Value) (hg : w.heap[g]? = some (.cells cs t (0, 0))) (hi : (Try.prog.info? T).map (·.size) = some 1)
    (hlt : i < cs.size) (hcs : cs.setIfInBounds i v = cs')
    (h : ∀ w', w'.heap[g]? = some (.cells cs' t (0, 0)) → But g w w' → wpList Try.prog ops Q rest (a.put o.dst undef) w') : wpList Try.prog ops Q (o :: rest) a w :=
  wpList_plain hgd fun _ hK => by
    unfold Oper.wp execOp
    simp only [ho, hx, hy, Instr.storeAt, Instr.sureAddr, Sem.run_bind, Sem.run_pure, Result.andThen_ok, run_storeVar_cell w g i T v cs t hg hlt hi h1]
    exact hK _ _ (h _ (by rw [set_row hg, hcs]) (But.set g i w v))

theorem own_blk {w : World} {g n base : Nat} {L : List Nat} (h : w.heap[g]? = some (.cells (bs L).toArray 5 (0, 0))) (hn : n = L.length) (hb : base ≤ g) (hm : n ≤ 1099511627776) : OwnB w base (.slice (some ⟨g, 0, none⟩) n n) L := by
  subst hn
  refine ⟨by simp [bs], .inr ⟨g, L.length, _, rfl, hb, h, Nat.le_refl _, by unfold maxLen; omega, by simp [bs], ?_⟩⟩
  rw [Nat.mul_one, List.take_of_length_le (by simp [bs])]

theorem OwnB.shape {w : World} {base : Nat} {v : Value} {L : List Nat} (h : OwnB w base v L) : ∃ ao cap, v = .slice ao L.length cap := by
  rcases h.2 with ⟨rfl, hn⟩ | ⟨g, cap, cur, rfl, _⟩
  · exact ⟨_, _, by rw [hn]⟩
  · exact ⟨_, _, rfl⟩

/-- freshBytes of the program, copied of the reference: the same bytes, new memory. -/
theorem freshBytes_any (v : Value) (L : List Nat) (w : World) (hv : SeesB w v L) (hl : L.length ≤ 1099511627776) :
    Calls Try.prog 85 #[v] w fun e w' => ∃ v', e = .returned v' ∧ OwnB w' w.heap.size v' L ∧ Below w.heap.size w w' := by
  obtain ⟨ao, n, cap, rfl, HN, hn1, hn2⟩ := hv.shape
  have HV := hid hv
  have hnl : n ≤ 1099511627776 := by have := HN.out; omega
  have hmk := make_bytes n hnl w
  unfold maxLen at hn2
  clear hv hl
  go_enter Try.func85, Try.ntmps85
  go_wp2_with (first | (refine wpList_copy_splice rfl (.tmp 7) (.tmp 8) 25 25 rfl 5 Try.underlying25 size5 _ _ n n n cap rfl rfl w.heap.size 0 (madeCells #[.int .u8 0] n).toList 5 ?c1 (bs L) ?c2 ?c3 ?c4 ?c5 w.heap.size w ?c6 ?c7 ?_) | fail)
  case c1 => rw [Array.toArray_toList]; exact heap_alloc_new w _
  case c2 => show (bs _).length = min n n; rw [Nat.min_self, bs, List.length_map]; exact HN.out.symm
  case c3 => exact fun hp => (HV.out.below ((Below.refl w.heap.size w).alloc (Nat.le_refl _) _)).src hp
  case c4 => rw [bs, List.length_map, ← HN.out, Array.length_toList, size_madeCells]; simp
  case c5 => intro q hq; obtain ⟨y, _, rfl⟩ := List.mem_map.1 hq; rfl
  case c6 => exact (Below.refl _ _).alloc (Nat.le_refl _) _
  case c7 => exact Nat.le_refl _
  intro w3 HG hb3
  rw [splice_whole (by rw [bs, List.length_map, ← HN.out, Array.length_toList, size_madeCells])] at HG
  have HB3 := hid hb3
  clear hmk hb3
  go_wp2_with fail
  go_ret
  exact ⟨_, rfl, own_blk HG.out HN.out (Nat.le_refl _) hnl, HB3.out⟩

end Go.Proofs.Ytcelcnafcfefhaa.N

namespace Go.Proofs.Ytcelcnafcfefhaa.N
open Go.ChangeShapes Go.WideShapes Go.ChangeAt Go.RowKit
set_option maxHeartbeats 1000000
set_option maxRecDepth 100000

theorem size22 : (Try.prog.info? 25).map (·.size) = some 1 := by kernel_rfl
theorem size3 : (Try.prog.info? 3).map (·.size) = some 1 := by kernel_rfl
theorem size4 : (Try.prog.info? 4).map (·.size) = some 1 := by kernel_rfl
theorem sz27 : (Try.prog.info? 50).map (·.size) = some 10 := by kernel_rfl
theorem sz29 : (Try.prog.info? 52).map (·.size) = some 11 := by kernel_rfl

theorem all_hd (h : Hd) (ao : Option Addr) (n c : Nat) : (hdCells h (.slice ao n c)).all (·.oneCell') = true := by simp [hdCells, Value.oneCell']
theorem all_pk (h : Hd) (ao : Option Addr) (n c : Nat) (ab : Option Addr) (m d : Nat) : (pkCells h (.slice ao n c) (.slice ab m d)).all (·.oneCell') = true := by simp [pkCells, Value.oneCell']

/-- A header that is read out of its own block. -/
theorem hd_load {u : World} {n : Nat} {h : Hd} {vo : Value} {t : TypeId} (hb : u.heap[n]? = some (.cells (hdCells h vo) t)) : (Instr.loadAt 50 (.pointer (some ⟨n, 0, none⟩))).run Try.prog u = .ok (.agg (hdCells h vo)) u := by
  obtain ⟨fs, hu⟩ := und27
  refine run_loadAt_mid u n 0 50 (hdCells h vo).toList (.struct fs) (fun j v hv => ?_) hu rfl (by rw [sz27]; rfl)
  have hj : j < 10 := (List.getElem?_eq_some_iff.1 hv).1
  rw [Nat.zero_add, cell_of_row u _ _ _ _ _ hb, ← hv, Array.getElem?_toList]

theorem hd_var {u : World} {n : Nat} {h : Hd} {vo : Value} {t : TypeId} (hb : u.heap[n]? = some (.cells (hdCells h vo) t)) : (loadVar 50 ⟨n, 0, none⟩).run Try.prog u = .ok (.agg (hdCells h vo)) u := by
  obtain ⟨fs, hu⟩ := und27
  refine run_loadVar_mid u n 0 50 (hdCells h vo).toList (.struct fs) (fun j v hv => ?_) hu rfl (by rw [sz27]; rfl)
  rw [Nat.zero_add, cell_of_row u _ _ _ _ _ hb, ← hv, Array.getElem?_toList]

theorem pk_var {u : World} {n : Nat} {h : Hd} {vo vb : Value} {t : TypeId} (hb : u.heap[n]? = some (.cells (pkCells h vo vb) t)) : (loadVar 52 ⟨n, 0, none⟩).run Try.prog u = .ok (.agg (pkCells h vo vb)) u := by
  obtain ⟨fs, hu⟩ := und29
  refine run_loadVar_mid u n 0 52 (pkCells h vo vb).toList (.struct fs) (fun j v hv => ?_) hu rfl (by rw [sz29]; rfl)
  rw [Nat.zero_add, cell_of_row u _ _ _ _ _ hb, ← hv, Array.getElem?_toList]

theorem OwnB.but {w w' : World} {base g : Nat} {v : Value} {L : List Nat} (h : OwnB w base v L) (hb : But g w w') (hg : g < base) : OwnB w' base v L := by
  refine ⟨h.1, ?_⟩
  rcases h.2 with hn | ⟨k, cap, cur, rfl, hk, hgg, rest⟩
  · exact .inl hn
  · exact .inr ⟨k, cap, cur, rfl, hk, (hb.block k (Array.getElem?_eq_some_iff.1 hgg).1 (by omega)).trans hgg, rest⟩

theorem But.keeps {g k : Nat} {w w' : World} {o : Obj} (h : But g w w') (hk : w.heap[k]? = some o) (hne : k ≠ g) : w'.heap[k]? = some o := (h.block k (Array.getElem?_eq_some_iff.1 hk).1 hne).trans hk

theorem below_keeps {B k : Nat} {w w' : World} {o : Obj} (h : Below B w w') (hk : w.heap[k]? = some o) (hlt : k < B) : w'.heap[k]? = some o := (h.block k hlt).trans hk

set_option maxHeartbeats 2000000 in
theorem freshHead_any (h : Hd) (vo : Value) (w : World) (hv : SeesB w vo h.opts) (hl : h.opts.length ≤ 1099511627776) :
    Calls Try.prog 84 #[.agg (hdCells h vo)] w fun e w' => ∃ v', e = .returned (.agg (hdCells h v')) ∧ OwnB w' (w.heap.size + 2) v' h.opts ∧ Below w.heap.size w w' := by
  obtain ⟨w1, hw1⟩ : ∃ w1, w1 = (w.alloc (.cells (hdCells h vo) 50)).alloc (.cells Z27 50) := ⟨_, rfl⟩
  have hs1 : w1.heap.size = w.heap.size + 2 := by rw [hw1]; simp
  have hb1 : Below w.heap.size w w1 := by rw [hw1]; exact ((Below.refl _ _).alloc (Nat.le_refl _) _).alloc (by simp) _
  have hk0 : w1.heap[w.heap.size]? = some (.cells (hdCells h vo) 50) := by
    have h1 : Below (w.heap.size + 1) (w.alloc (.cells (hdCells h vo) 50)) w1 := by rw [hw1]; exact (Below.refl _ _).alloc (by simp) _
    rw [h1.block _ (by omega)]
    exact heap_alloc_new w _
  have hk1 : w1.heap[w.heap.size + 1]? = some (.cells Z27 50) := by
    have := heap_alloc_new (w.alloc (.cells (hdCells h vo) 50)) (.cells Z27 50)
    rw [World.size_alloc] at this
    rw [hw1]; exact this
  have HF := hid (freshBytes_any vo h.opts w1 (hv.below hb1) hl)
  have c9 : w1.cell? ⟨w.heap.size, 9, none⟩ = some vo := by rw [cell_of_row _ _ _ _ _ _ hk0]; rfl
  obtain ⟨ao, n, cap, rfl, HN, hn1, hn2⟩ := hv.shape
  have HW1 := hid hw1
  have HB1 := hid hb1
  have HK0 := hid hk0
  have HK1 := hid hk1
  have HS1 := hid hs1
  clear hw1 hb1 hk0 hk1 hv hl hs1
  obtain ⟨cs, hcs⟩ : ∃ cs, cs = hdCells h (.slice ao n cap) := ⟨_, rfl⟩
  rw [← hcs] at HW1 HK0 ⊢
  have HCS := hid hcs
  clear hcs
  go_enter Try.func84, Try.ntmps84
  go_upto_region 1 with fail
  have e0 : (w.alloc (.cells cs 50)).alloc (.cells Z27 50) = w1 := HW1.out.symm
  unfold Z27 at e0
  rw [e0]
  clear e0
  go_wp2_with fail
  refine HF.out.mono ?_
  rintro _ w2 ⟨v', rfl, ho, hb2⟩
  obtain ⟨a2, c2, rfl⟩ := ho.shape
  have HO := hid ho
  have HB2 := hid hb2
  clear ho hb2 c9
  have hk2 := below_keeps HB2.out HK0.out (by have := HS1.out; omega)
  have HK2 := hid hk2
  rw [HCS.out] at HK2
  go_wp2_with (first | (refine wpList_st1 rfl 25 (.tmp 6) (.tmp 5) rfl w.heap.size 9 (.slice a2 h.opts.length c2) rfl rfl rfl 50 _ (hdCells h (.slice a2 h.opts.length c2)) HK2.out size22 (by show 9 < 10; decide) rfl ?_) | fail)
  intro w3 hk3 hbut3
  have HL3 := hid (hd_load hk3)
  have HK3 := hid hk3
  have HU3 := hid hbut3
  clear hk2 hk3 hbut3
  have HK4 : Hid (w3.heap[w.heap.size + 1]? = some (.cells Z27 50)) := HU3.out.keeps (below_keeps HB2.out HK1.out (by have := HS1.out; omega)) (by omega)
  obtain ⟨cr, hcr⟩ : ∃ cr, cr = hdCells h (.slice a2 h.opts.length c2) := ⟨_, rfl⟩
  have HCR := hid hcr
  have HALL : Hid (cr.all (·.oneCell') = true) := by unfold Hid; rw [hcr]; exact all_hd _ _ _ _
  have HSZ : Hid (cr.size = 10) := by unfold Hid; rw [hcr]; rfl
  rw [← hcr] at HL3
  clear hcr
  go_wp2_with (first | (refine wpList_ld 50 ⟨w.heap.size, 0, none⟩ (.tmp 1) rfl rfl HL3.out rfl ?_) | (refine wpList_st rfl 50 (.tmp 2) (.tmp 7) rfl (w.heap.size + 1) cr rfl rfl 50 Z27 HK4.out (by rw [HSZ.out]; exact sz27) (by rw [HSZ.out]; rfl) HALL.out ?_) | fail)
  intro w5 hk5 hbut5
  rw [HCR.out] at hk5
  have HL5 := hid (hd_var hk5)
  go_wp2_with fail
  refine bodyPost_ret (v := .agg (hdCells h (.slice a2 h.opts.length c2))) (by simp [results, Try.results84, asAddr, HL5.out]) rfl ?_
  refine ⟨_, rfl, ?_, ?_⟩
  · have h1 := HO.out
    rw [HS1.out] at h1
    exact (h1.but HU3.out (by omega)).but hbut5 (by omega)
  · refine hbut5.below (HU3.out.below (HB1.out.trans (HB2.out.mono HB1.out.size)) ?_ (Nat.le_refl _)) ?_ (by omega)
    · have h1 := HB2.out.size; have h2 := HS1.out; omega
    · have h1 := HB2.out.size; have h2 := HS1.out; have h3 := HU3.out.size; omega
end Go.Proofs.Ytcelcnafcfefhaa.N

namespace Go.Proofs.Ytcelcnafcfefhaa.N
open Go.ChangeShapes Go.WideShapes Go.ChangeAt Go.RowKit
set_option maxHeartbeats 1000000
set_option maxRecDepth 100000

/-- A world behind calls that made memory and wrote none of the elder. -/
structure Beh (w : World) where
  wd : World
  ok : Below w.heap.size w wd

instance (w : World) : Nonempty (Beh w) := ⟨⟨w, Below.refl _ _⟩⟩

theorem wp_region_beh {P : Program} {id : Nat} {Q : Exit → Act → World → Prop} {a : Act} {w : World} {l : List Oper} (hm : P.follows .mixedOrders = true) (hB : Region.lexB .any l.toArray = true)
    (h : wpQuiet P l.toArray (fun w' => ∃ u : Beh w, w' = u.wd) (fun a' => ∀ w', (∃ u : Beh w, w' = u.wd) → Q .normal a' w') l a) : (Code.region id l.toArray true).wp P Q a w :=
  wp_region_quiet (C := fun w' => ∃ u : Beh w, w' = u.wd) hm hB ⟨⟨_, below_drewN (Below.refl _ _) 1⟩, rfl⟩ (by simpa using h)

theorem Calls.beh {P : Program} {f : FuncId} {args : Array Value} {w : World} {u : Beh w} {v : Value}
    (h : Calls P f args u.wd fun e w' => e = .returned v ∧ Below u.wd.heap.size u.wd w') : Calls P f args u.wd fun e w'' => e = .returned v ∧ ∃ u' : Beh w, w'' = u'.wd :=
  h.mono fun _ w' ⟨he, hb⟩ => ⟨he, ⟨w', u.ok.trans (hb.mono u.ok.size)⟩, rfl⟩

theorem quiet_ld {P : Program} {C : World → Prop} {a : Act} {o : Oper} {v : Value} {K : Act → Prop} (T : TypeId) (p : Addr) (x : Operand) (ho : o.op = .load T x) (hx : a.eval x = .pointer (some p))
    (hr : ∀ w, C w → (Instr.loadAt T (.pointer (some p))).run P w = .ok v w) (h : K (a.put o.dst v)) : o.quiet P a C K := by
  refine ⟨v, fun w hw => ?_, h⟩
  unfold Oper.quietAt execOp
  simp only [ho, hx, Sem.run_bind, hr w hw, Result.andThen_ok, Sem.run_pure]
  exact ⟨rfl, rfl⟩

theorem wpQuiet_ld {P : Program} {ops : Array Oper} {C : World → Prop} {Q : Act → Prop} {a : Act} {o : Oper} {rest : List Oper} {v : Value} (T : TypeId) (p : Addr) (x : Operand) (ho : o.op = .load T x) (hx : a.eval x = .pointer (some p))
    (hr : ∀ w, C w → (Instr.loadAt T (.pointer (some p))).run P w = .ok v w) (hw : Region.wanted o (yielded ops a.tmps) = true) (h : wpQuiet P ops C Q rest (a.put o.dst v)) : wpQuiet P ops C Q (o :: rest) a :=
  wpQuiet_step fun K hK => by rw [if_pos hw]; exact quiet_ld T p x ho hx hr (hK _ h)

def setAll (cs : Array Value) : Nat → List Value → Array Value
  | _, [] => cs
  | o, v :: vs => setAll (cs.setIfInBounds o v) (o + 1) vs

theorem sets_row {b : Nat} {t : TypeId} : ∀ (vs : List Value) (o : Nat) (w : World) (cs : Array Value), w.heap[b]? = some (.cells cs t (0, 0)) → (w.setCells b o vs).heap[b]? = some (.cells (setAll cs o vs) t (0, 0))
  | [], _, _, _, h => h
  | v :: vs, o, w, cs, h => by
    rw [World.setCells]
    exact sets_row vs (o + 1) _ _ (set_row h)

theorem But.sets (g : Nat) : ∀ (vs : List Value) (o : Nat) (w : World), But g w (w.setCells g o vs)
  | [], _, w => But.refl g w
  | v :: vs, o, w => by
    rw [World.setCells]
    exact (But.set g o w v).trans (But.sets g vs (o + 1) _)

theorem there_le {u : World} {n k : Nat} {C : Array Value} {t : TypeId} (hb : u.heap[n]? = some (.cells C t (0, 0))) (hk : k ≤ C.size) : u.there n 0 k := fun i hi => by
  refine ⟨?_, frozen_of_row _ _ _ _ _ hb⟩
  rw [cell_of_row _ _ _ _ _ _ hb, Array.getElem?_eq_getElem (by omega)]
  rfl

theorem setAll_pk (h0 h' : Hd) (vo vo' vb : Value) : setAll (pkCells h0 vo vb) 0 (hdCells h' vo').toList = pkCells h' vo' vb := by simp [setAll, pkCells, hdCells]

/-- A header goes into a packet's block. -/
theorem wpList_stH {ops : Array Oper} {rest : List Oper} {o : Oper} {a : Act} {w : World} {Q : Exit → Act → World → Prop} (hgd : o.guard = none) (x y : Operand) (ho : o.op = .store 50 x y)
    (g : Nat) (h' : Hd) (ao : Option Addr) (n c : Nat) (hx : a.eval x = .pointer (some ⟨g, 0, none⟩)) (hy : a.eval y = .agg (hdCells h' (.slice ao n c)))
    (t : TypeId) (h0 : Hd) (vo vb : Value) (hg : w.heap[g]? = some (.cells (pkCells h0 vo vb) t (0, 0)))
    (h : ∀ w', w'.heap[g]? = some (.cells (pkCells h' (.slice ao n c) vb) t (0, 0)) → But g w w' → wpList Try.prog ops Q rest (a.put o.dst undef) w') : wpList Try.prog ops Q (o :: rest) a w := by
  have hall := all_hd h' ao n c
  have hsz : (hdCells h' (.slice ao n c)).size = 10 := rfl
  have hset := setAll_pk h0 h' vo (.slice ao n c) vb
  generalize hdCells h' (.slice ao n c) = cr at *
  have hth : w.there g 0 cr.size := there_le hg (by rw [hsz]; exact (by decide : 10 ≤ 11))
  refine wpList_store_mid hgd 50 x y ho g 0 cr hx hy hth (by rw [hsz]; exact sz27) hall (h _ ?_ (But.sets _ _ _ _))
  rw [sets_row _ _ _ _ hg, hset]

theorem headSize_any (h : Hd) (vo : Value) (w : World) (hv : SeesB w vo h.opts) (hl : h.opts.length ≤ 140737488355328) :
    Calls Try.prog 70 #[.agg (hdCells h vo)] w fun e w' => e = .returned (.int .i64 ((20 + h.opts.length : Nat) : Int)) ∧ Below w.heap.size w w' := by
  obtain ⟨w1, hw1⟩ : ∃ w1, w1 = w.alloc (.cells (hdCells h vo) 50) := ⟨_, rfl⟩
  have hb1 : Below w.heap.size w w1 := by rw [hw1]; exact (Below.refl _ _).alloc (Nat.le_refl _) _
  have c9 : w1.cell? ⟨w.heap.size, 9, none⟩ = some vo := by rw [cell_of_row _ _ _ _ _ _ (show w1.heap[w.heap.size]? = some (.cells (hdCells h vo) 50) by rw [hw1]; exact heap_alloc_new w _)]; rfl
  obtain ⟨ao, n, cap, rfl, HN, hn1, hn2⟩ := hv.shape
  have hnl : n ≤ 140737488355328 := by have := HN.out; omega
  have HW1 := hid hw1
  have HB1 := hid hb1
  clear hw1 hb1 hv hl
  generalize hdCells h (.slice ao n cap) = cs at *
  go_enter Try.func70, Try.ntmps70
  go_upto_region 1 with fail
  rw [← HW1.out]
  go_wp2_with fail
  go_ret
  exact ⟨ret_int (by rw [← HN.out]; omega), HB1.out⟩

theorem size_any (h : Hd) (vo vb : Value) (B : List Nat) (w : World) (hv : SeesB w vo h.opts) (hvb : SeesB w vb B) (hl : h.opts.length ≤ 140737488355328) (hlb : B.length ≤ 140737488355328) :
    Calls Try.prog 46 #[.agg (pkCells h vo vb)] w fun e w' => e = .returned (.int .i64 ((20 + h.opts.length + B.length : Nat) : Int)) ∧ Below w.heap.size w w' := by
  obtain ⟨w1, hw1⟩ : ∃ w1, w1 = w.alloc (.cells (pkCells h vo vb) 52) := ⟨_, rfl⟩
  have hb1 : Below w.heap.size w w1 := by rw [hw1]; exact (Below.refl _ _).alloc (Nat.le_refl _) _
  have hs1 : w1.heap.size = w.heap.size + 1 := by rw [hw1]; simp
  have hk : ∀ u : Beh w1, u.wd.heap[w.heap.size]? = some (.cells (pkCells h vo vb) 52) := fun u => below_keeps u.ok (by rw [hw1]; exact heap_alloc_new w _) (by omega)
  have HH : Hid (∀ u : Beh w1, Calls Try.prog 70 #[.agg (hdCells h vo)] u.wd fun e w' => e = .returned (.int .i64 ((20 + h.opts.length : Nat) : Int)) ∧ ∃ u' : Beh w1, w' = u'.wd) := fun u => Calls.beh (headSize_any h vo u.wd (hv.below (hb1.trans (u.ok.mono hb1.size))) (by omega))
  have HQ1 : Hid (∀ x : World, (∃ u : Beh w1, x = u.wd) → (Instr.loadAt 50 (.pointer (some ⟨w.heap.size, 0, none⟩))).run Try.prog x = .ok (.agg (hdCells h vo)) x) := fun x hx => by
    obtain ⟨u, rfl⟩ := hx
    exact pk_loadH (hk u)
  have c10 : ∀ u : Beh w1, u.wd.cell? ⟨w.heap.size, 10, none⟩ = some vb := fun u => pk_at (hk u) 10 (by omega)
  obtain ⟨ab, nb, capb, rfl, HNB, hnb1, hnb2⟩ := hvb.shape
  have HW1 := hid hw1
  have HB1 := hid hb1
  have hnb : nb ≤ 140737488355328 := by have := HNB.out; omega
  rw [← HNB.out]
  clear hw1 hb1 hv hvb hk hs1 hlb
  generalize h.opts.length = no at *
  generalize hdCells h vo = ch at *
  generalize pkCells h vo (.slice ab nb capb) = cs at *
  go_enter Try.func46, Try.ntmps46
  go_upto_region 1 with fail
  rw [← HW1.out]
  refine wp_region_beh (by kernel_rfl) (by kernel_rfl) ?_
  repeat (first
    | (refine wpQuiet_ld 50 ⟨w.heap.size, 0, none⟩ (.tmp 3) (by rfl) (by rfl) HQ1.out (by rfl) ?_; simp only [Act.put, List.setIfInBounds_toArray, List.set_cons_zero, List.set_cons_succ])
    | (go_big_quiet_step (first | (go_at_call 70; exact HH.out _) | fail)))
  refine wpQuiet_nil ?_
  rintro _ ⟨u, rfl⟩
  go_wp2_with fail
  go_ret
  exact ⟨ret_int (by omega), HB1.out.trans (u.ok.mono HB1.out.size)⟩

theorem fault_any (h : Hd) (vo vb : Value) (B : List Nat) (w : World) (hok : h.Ok) (hvo : SeesB w vo h.opts) (hvb : SeesB w vb B) (hlo : h.opts.length ≤ 140737488355328) (hlb : B.length ≤ 140737488355328) :
    Calls Try.prog 45 #[.agg (pkCells h vo vb)] w fun e w' => e = .returned (.int .i64 (refE h B.length)) ∧ Below w.heap.size w w' := by
  obtain ⟨w1, hw1⟩ : ∃ w1, w1 = w.alloc (.cells (pkCells h vo vb) 52) := ⟨_, rfl⟩
  have hb1 : Below w.heap.size w w1 := by rw [hw1]; exact (Below.refl _ _).alloc (Nat.le_refl _) _
  have HL := hid (pk_load (show w1.heap[w.heap.size]? = some (.cells (pkCells h vo vb) 52) by rw [hw1]; exact heap_alloc_new w _))
  have HC := hid (build_code h vo vb B w1 hok (hvo.below hb1) (hvb.below hb1) hlo hlb)
  have HW1 := hid hw1
  have HB1 := hid hb1
  clear hw1 hb1 hvo hvb hlo hlb
  generalize refE h B.length = E at *
  generalize pkCells h vo vb = cs at *
  go_enter Try.func45, Try.ntmps45
  go_upto_region 1 with fail
  rw [← HW1.out]
  go_wp2_with (first | (refine wpList_ld 52 ⟨w.heap.size, 0, none⟩ (.tmp 1) rfl rfl HL.out rfl ?_) | fail)
  refine HC.out.mono ?_
  rintro _ w2 ⟨a2, n2, c2, rfl, _, hb2⟩
  go_wp2_with fail
  go_ret
  exact ⟨rfl, HB1.out.trans (hb2.mono HB1.out.size)⟩

set_option maxHeartbeats 2000000 in
/-- fresh: the packet in new memory. -/
theorem fresh_any (h : Hd) (vo vb : Value) (B : List Nat) (w : World) (hvo : SeesB w vo h.opts) (hvb : SeesB w vb B) (hlo : h.opts.length ≤ 1099511627776) (hlb : B.length ≤ 1099511627776) :
    Calls Try.prog 72 #[.agg (pkCells h vo vb)] w fun e w' => ∃ vo' vb', e = .returned (.agg (pkCells h vo' vb')) ∧ OwnB w' (w.heap.size + 2) vo' h.opts ∧ OwnB w' (w.heap.size + 2) vb' B ∧ Below w.heap.size w w' := by
  obtain ⟨w1, hw1⟩ : ∃ w1, w1 = (w.alloc (.cells (pkCells h vo vb) 52)).alloc (.cells Z29 52) := ⟨_, rfl⟩
  have hs1 : w1.heap.size = w.heap.size + 2 := by rw [hw1]; simp
  have hb1 : Below w.heap.size w w1 := by rw [hw1]; exact ((Below.refl _ _).alloc (Nat.le_refl _) _).alloc (by simp) _
  have hk0 : w1.heap[w.heap.size]? = some (.cells (pkCells h vo vb) 52) := by
    have h1 : Below (w.heap.size + 1) (w.alloc (.cells (pkCells h vo vb) 52)) w1 := by rw [hw1]; exact (Below.refl _ _).alloc (by simp) _
    rw [h1.block _ (by omega)]
    exact heap_alloc_new w _
  have hk1 : w1.heap[w.heap.size + 1]? = some (.cells Z29 52) := by
    have := heap_alloc_new (w.alloc (.cells (pkCells h vo vb) 52)) (.cells Z29 52)
    rw [World.size_alloc] at this
    rw [hw1]; exact this
  have HF := hid (freshHead_any h vo w1 (hvo.below hb1) hlo)
  have HL1 := hid (pk_loadH hk0)
  have HVB := hid hvb
  have HLB := hid hlb
  obtain ⟨ab, nb, capb, rfl, HNB, hnb1, hnb2⟩ := hvb.shape
  have HW1 := hid hw1
  have HB1 := hid hb1
  have HK0 := hid hk0
  have HK1 := hid hk1
  have HS1 := hid hs1
  clear hw1 hb1 hk0 hk1 hvo hvb hlo hs1 hlb
  obtain ⟨cs, hcs⟩ : ∃ cs, cs = pkCells h vo (.slice ab nb capb) := ⟨_, rfl⟩
  rw [← hcs] at HW1
  rw [← hcs]
  obtain ⟨ch, hch⟩ : ∃ ch, ch = hdCells h vo := ⟨_, rfl⟩
  rw [← hch] at HF HL1
  clear hcs hch
  go_enter Try.func72, Try.ntmps72
  go_upto_region 1 with fail
  have e0 : (w.alloc (.cells cs 52)).alloc (.cells Z29 52) = w1 := HW1.out.symm
  unfold Z29 at e0
  rw [e0]
  clear e0
  go_wp2_with (first | (refine wpList_ld 50 ⟨w.heap.size, 0, none⟩ (.tmp 3) rfl rfl HL1.out rfl ?_) | fail)
  refine HF.out.mono ?_
  rintro _ w2 ⟨v', rfl, ho, hb2⟩
  obtain ⟨a2, c2, rfl⟩ := ho.shape
  have HO := hid ho
  have HB2 := hid hb2
  clear ho hb2 HL1 HF
  have HK2 := hid (below_keeps HB2.out HK0.out (by have := HS1.out; omega))
  go_wp2_with (first | (refine wpList_stH rfl (.tmp 6) (.tmp 5) rfl w.heap.size h a2 h.opts.length c2 rfl rfl 52 h vo (.slice ab nb capb) HK2.out ?_) | fail)
  intro w3 hk3 hbut3
  have c10 := pk_at hk3 10 (by omega)
  have HK3 := hid hk3
  have HU3 := hid hbut3
  have hb3 : Below w.heap.size w w3 := by
    refine hbut3.below (HB1.out.trans (HB2.out.mono HB1.out.size)) ?_ (Nat.le_refl _)
    have h1 := HB2.out.size; have h2 := HS1.out; omega
  have HF2 := hid (freshBytes_any _ B w3 (HVB.out.below hb3) HLB.out)
  have HB3 := hid hb3
  clear hk3 hbut3 hb3
  have c10 : w3.cell? ⟨w.heap.size, 10, none⟩ = some (.slice ab nb capb) := c10
  go_wp2_with fail
  refine HF2.out.mono ?_
  rintro _ w4 ⟨v', rfl, ho, hb4⟩
  obtain ⟨a4, c4, rfl⟩ := ho.shape
  have HO4 := hid ho
  have HB4 := hid hb4
  clear ho hb4 c10 HF2
  have hsz3 : w.heap.size + 2 ≤ w3.heap.size := by have h1 := HB2.out.size; have h2 := HS1.out; have h3 := HU3.out.size; omega
  have HSZ3 := hid hsz3
  clear hsz3
  have HK4 := hid (below_keeps HB4.out HK3.out (by have := HSZ3.out; omega))
  go_wp2_with (first | (refine wpList_st1 rfl 25 (.tmp 10) (.tmp 9) rfl w.heap.size 10 (.slice a4 B.length c4) rfl rfl rfl 52 _ (pkCells h (.slice a2 h.opts.length c2) (.slice a4 B.length c4)) HK4.out size22 (by show 10 < 11; decide) rfl ?_) | fail)
  intro w5 hk5 hbut5
  have HL5 := hid (pk_load hk5)
  have HU5 := hid hbut5
  clear hk5 hbut5
  have HK6 : Hid (w5.heap[w.heap.size + 1]? = some (.cells Z29 52)) := HU5.out.keeps (below_keeps HB4.out (HU3.out.keeps (below_keeps HB2.out HK1.out (by have := HS1.out; omega)) (by omega)) (by have := HSZ3.out; omega)) (by omega)
  obtain ⟨cr, hcr⟩ : ∃ cr, cr = pkCells h (.slice a2 h.opts.length c2) (.slice a4 B.length c4) := ⟨_, rfl⟩
  have HCR := hid hcr
  have HALL : Hid (cr.all (·.oneCell') = true) := by unfold Hid; rw [hcr]; exact all_pk _ _ _ _ _ _ _
  have HSZ : Hid (cr.size = 11) := by unfold Hid; rw [hcr]; rfl
  rw [← hcr] at HL5
  clear hcr
  go_wp2_with (first | (refine wpList_ld 52 ⟨w.heap.size, 0, none⟩ (.tmp 1) rfl rfl HL5.out rfl ?_) | (refine wpList_st rfl 52 (.tmp 2) (.tmp 11) rfl (w.heap.size + 1) cr rfl rfl 52 Z29 HK6.out (by rw [HSZ.out]; exact sz29) (by rw [HSZ.out]; rfl) HALL.out ?_) | fail)
  intro w7 hk7 hbut7
  rw [HCR.out] at hk7
  have HL7 := hid (pk_var hk7)
  go_wp2_with fail
  refine bodyPost_ret (v := .agg (pkCells h (.slice a2 h.opts.length c2) (.slice a4 B.length c4))) (by simp [results, Try.results72, asAddr, HL7.out]) rfl ?_
  have hB4 : Below w.heap.size w w4 := HB3.out.trans (HB4.out.mono HB3.out.size)
  have hB5 := HU5.out.below hB4 hB4.size (Nat.le_refl _)
  have hB7 := hbut7.below hB5 hB5.size (by omega)
  refine ⟨_, _, rfl, ?_, ?_, hB7⟩
  · have h1 := HO.out
    rw [HS1.out] at h1
    exact OwnB.but (OwnB.but (OwnB.below (OwnB.but (OwnB.low (b' := w.heap.size + 2) h1 (by omega)) HU3.out (by omega)) HB4.out) HU5.out (by omega)) hbut7 (by omega)
  · exact OwnB.but (OwnB.but (OwnB.low (b' := w.heap.size + 2) HO4.out HSZ3.out) HU5.out (by omega)) hbut7 (by omega)
end Go.Proofs.Ytcelcnafcfefhaa.N

namespace Go.Proofs.Ytcelcnafcfefhaa.N
open Go.ChangeShapes Go.WideShapes Go.ChangeAt Go.RowKit
set_option maxHeartbeats 1000000
set_option maxRecDepth 100000

/-- A packet with its two lists' values. -/
abbrev PkV := Pk × Value × Value
def pvCells (x : PkV) : List Value := (pkCells x.1.1 x.2.1 x.2.2).toList
theorem pv_len (x : PkV) : (pvCells x).length = 11 := rfl

structure PkOk (w : World) (base : Nat) (x : PkV) : Prop where
  opts : OwnB w base x.2.1 x.1.1.opts
  body : OwnB w base x.2.2 x.1.2
  ob : ∀ b ∈ x.1.1.opts, b < 256
  bb : ∀ b ∈ x.1.2, b < 256

/-- v is a list of packets of the call's own, each with lists of its own. -/
def PkRow (w : World) (base : Nat) (v : Value) (ps : List Pk) : Prop :=
  ∃ R : List PkV, R.map (·.1) = ps ∧ w.ownsRow base 52 11 v R.length (R.flatMap pvCells) ∧ ∀ x ∈ R, PkOk w base x

theorem pkRow_nil (w : World) (base : Nat) : PkRow w base (.slice none 0 0) [] := ⟨[], rfl, World.ownsRow_nil _ _ _ _, fun x h => by cases h⟩

theorem row_below {w w' : World} {base e s : Nat} {v : Value} {n : Nat} {xs : List Value} (h : w.ownsRow base e s v n xs) (hb : Below w.heap.size w w') : w'.ownsRow base e s v n xs :=
  World.ownsRow.kept h (below_grown hb none) (by cases hv : v.ownBlock <;> simp)

theorem row_but {w w' : World} {base e s g : Nat} {v : Value} {n : Nat} {xs : List Value} (h : w.ownsRow base e s v n xs) (hb : But g w w') (hg : g < base) : w'.ownsRow base e s v n xs := by
  refine ⟨h.1, ?_⟩
  rcases h.2 with hn | ⟨k, cap, cur, rfl, hk, hgg, rest⟩
  · exact .inl hn
  · exact .inr ⟨k, cap, cur, rfl, hk, (hb.block k (Array.getElem?_eq_some_iff.1 hgg).1 (by omega)).trans hgg, rest⟩

theorem row_low {w : World} {b b' e s : Nat} {v : Value} {n : Nat} {xs : List Value} (h : w.ownsRow b e s v n xs) (hb : b' ≤ b) : w.ownsRow b' e s v n xs := by
  refine ⟨h.1, ?_⟩
  rcases h.2 with hn | ⟨k, cap, cur, rfl, hk, rest⟩
  · exact .inl hn
  · exact .inr ⟨k, cap, cur, rfl, by omega, rest⟩

theorem PkRow.below {w w' : World} {base : Nat} {v : Value} {ps : List Pk} (h : PkRow w base v ps) (hb : Below w.heap.size w w') : PkRow w' base v ps := by
  obtain ⟨R, hR, hrow, hall⟩ := h
  exact ⟨R, hR, row_below hrow hb, fun x hx => ⟨(hall x hx).opts.below hb, (hall x hx).body.below hb, (hall x hx).ob, (hall x hx).bb⟩⟩

theorem PkRow.but {w w' : World} {base g : Nat} {v : Value} {ps : List Pk} (h : PkRow w base v ps) (hb : But g w w') (hg : g < base) : PkRow w' base v ps := by
  obtain ⟨R, hR, hrow, hall⟩ := h
  exact ⟨R, hR, row_but hrow hb hg, fun x hx => ⟨(hall x hx).opts.but hb hg, (hall x hx).body.but hb hg, (hall x hx).ob, (hall x hx).bb⟩⟩

theorem PkRow.low {w : World} {b b' : Nat} {v : Value} {ps : List Pk} (h : PkRow w b v ps) (hb : b' ≤ b) : PkRow w b' v ps := by
  obtain ⟨R, hR, hrow, hall⟩ := h
  exact ⟨R, hR, row_low hrow hb, fun x hx => ⟨(hall x hx).opts.low hb, (hall x hx).body.low hb, (hall x hx).ob, (hall x hx).bb⟩⟩

theorem PkRow.shape {w : World} {base : Nat} {v : Value} {ps : List Pk} (h : PkRow w base v ps) : ∃ ao cap, v = .slice ao ps.length cap ∧ ps.length ≤ cap ∧ cap ≤ maxLen := by
  obtain ⟨R, hR, hrow, hall⟩ := h
  have hl : ps.length = R.length := by rw [← hR, List.length_map]
  rcases hrow.2 with ⟨rfl, hn⟩ | ⟨g, cap, cur, rfl, _, _, h1, h2, _⟩
  · exact ⟨none, 0, by rw [hl, hn], by omega, by unfold maxLen; omega⟩
  · exact ⟨some ⟨g, 0, none⟩, cap, by rw [hl], by omega, h2⟩

theorem flat_at : ∀ (R : List PkV) (i j : Nat) (x : PkV), R[i]? = some x → j < 11 → (R.flatMap pvCells)[i * 11 + j]? = (pvCells x)[j]?
  | [], i, j, x, h, _ => by simp at h
  | y :: R, 0, j, x, h, hj => by
    simp at h; subst h
    rw [List.flatMap_cons, Nat.zero_mul, Nat.zero_add, List.getElem?_append_left (by rw [pv_len]; exact hj)]
  | y :: R, i + 1, j, x, h, hj => by
    rw [List.flatMap_cons, List.getElem?_append_right (by rw [pv_len]; omega), pv_len, show (i + 1) * 11 + j - 11 = i * 11 + j by omega]
    exact flat_at R i j x (by simpa using h) hj

/-- A packet of the list. -/
theorem PkRow.at {w : World} {base n cap : Nat} {ao : Option Addr} {ps : List Pk} (h : PkRow w base (.slice ao n cap) ps) (i : Nat) (hi : i < n) :
    ∃ (g : Nat) (p : Pk) (vo vb : Value), ao = some ⟨g, 0, none⟩ ∧ g < w.heap.size ∧ (∀ u : World, Below w.heap.size w u → (Instr.loadAt 52 (.pointer (some ⟨g, i * 11, none⟩))).run Try.prog u = .ok (.agg (pkCells p.1 vo vb)) u ∧ SeesB u vo p.1.opts ∧ SeesB u vb p.2) ∧ Hid (ps[i]? = some p) := by
  obtain ⟨R, hR, hrow, hall⟩ := h
  rcases hrow.2 with ⟨hv, hn⟩ | ⟨g, cap', cur, hv, hb, hg, h1, h2, h3, h4⟩
  · simp at hv; omega
  · simp at hv
    obtain ⟨rfl, hn, rfl⟩ := hv
    have hi' : i < R.length := by omega
    obtain ⟨x, hx⟩ : ∃ x, R[i]? = some x := ⟨_, List.getElem?_eq_getElem hi'⟩
    have hmem := List.mem_of_getElem? hx
    have hok := hall x hmem
    have hlt := (Array.getElem?_eq_some_iff.1 hg).1
    refine ⟨g, x.1, x.2.1, x.2.2, rfl, hlt, fun u hu => ⟨?_, (hok.opts.sees hok.ob).below hu, (hok.body.sees hok.bb).below hu⟩, by unfold Hid; rw [← hR, List.getElem?_map, hx]; rfl⟩
    have hg' : u.heap[g]? = some (.cells cur 52 (0, 0)) := (hu.block g hlt).trans hg
    obtain ⟨fs, hu29⟩ := und29
    refine run_loadAt_mid u g (i * 11) 52 (pkCells x.1.1 x.2.1 x.2.2).toList (.struct fs) (fun j v hv => ?_) hu29 rfl (by rw [sz29]; rfl)
    have hj : j < 11 := (List.getElem?_eq_some_iff.1 hv).1
    rw [cell_of_row _ _ _ _ _ _ hg']
    have e1 := flat_at R i j x hx hj
    rw [← h4, List.getElem?_take_of_lt (by omega), Array.getElem?_toList] at e1
    rw [e1]; exact hv

theorem info29 : (Try.prog.info? 52).map (fun i => (i.zero, i.size, i.bytes)) = some (some (.agg Z29), 11, 80) := by kernel_rfl

theorem OwnB.grown {w w' : World} {base : Nat} {v u : Value} {L : List Nat} {b e s n : Nat} {xs : List Value} (h : OwnB w base v L) (hg : w.grownBy w' u.ownBlock) (hrow : w.ownsRow b e s u n xs) (he : e ≠ 5) : OwnB w' base v L := by
  refine World.ownsRow.kept h hg ?_
  rcases h.2 with ⟨rfl, _⟩ | ⟨g, cap, cur, rfl, _, hgg, _⟩
  · exact .inl rfl
  · rcases hrow.2 with ⟨rfl, _⟩ | ⟨g', cap', cur', rfl, _, hgg', _⟩
    · right; simp [Value.ownBlock]
    · right
      simp only [Value.ownBlock, ne_eq, Option.some.injEq]
      rintro rfl
      rw [hgg] at hgg'
      simp at hgg'
      exact he hgg'.2.symm

theorem OwnB.one {w : World} {base : Nat} {v : Value} {L : List Nat} (h : OwnB w base v L) : v.oneCell' = true := by
  obtain ⟨ao, cap, rfl⟩ := h.shape
  rfl

theorem wpList_append_pk {w : World} {ops : Array Oper} {rest : List Oper} {o : Oper} {a : Act} {Q : Exit → Act → World → Prop} (hgd : o.guard = none) (s x : Operand)
    (ho : o.op = .call { callee := .builtin .append, args := #[s, x], argTypes := #[55, 55] })
    (base : Nat) (v : Value) (ps : List Pk) (hs : a.eval s = v) (hrow : PkRow w base v ps) (p : Pk) (vo vb : Value) (g : Nat) (hx : a.eval x = .slice (some ⟨g, 0, none⟩) 1 1)
    (hg : w.heap[g]? = some (.cells (pkCells p.1 vo vb) 52)) (hok : PkOk w base (p, vo, vb)) (hlen : ps.length ≤ 1099511627776) (hbase : base ≤ w.heap.size)
    (h : ∀ v' w', PkRow w' base v' (ps ++ [p]) → Below base w w' → wpList Try.prog ops Q rest (a.put o.dst v') w') : wpList Try.prog ops Q (o :: rest) a w := by
  obtain ⟨R, hR, hr, hall⟩ := hrow
  have hl : ps.length = R.length := by rw [← hR, List.length_map]
  obtain ⟨i0, hi0, hz0, hz1, hz2⟩ := info_parts info29
  refine wpList_append_own w hgd s x 55 ho base 52 i0 (.agg Z29) 11 80 Try.underlying55 hi0 hz0 hz1 hz2 rfl (by decide) v R.length _ hs hr ⟨g, 0, none⟩ 1 1 (pvCells (p, vo, vb)) hx rfl ?_ ?_ ?_ (by omega) hbase ?_
  · intro j u hj
    rw [Addr.add_mid, Nat.zero_add, cell_of_row _ _ _ _ _ _ hg, ← Array.getElem?_toList]
    exact hj
  · intro u hu
    obtain ⟨ao, ca, e1⟩ := hok.opts.shape
    obtain ⟨ab, cb, e2⟩ := hok.body.shape
    simp only at e1 e2
    subst e1 e2
    have := all_pk p.1 ao p.1.opts.length ca ab p.2.length cb
    exact (Array.all_eq_true_iff_forall_mem.1 this) u (by simpa [pvCells] using hu)
  · unfold maxLen; omega
  · intro v' w' ho' hgr _
    refine h v' w' ⟨R ++ [(p, vo, vb)], by rw [List.map_append, hR]; rfl, ?_, ?_⟩ ?_
    · rw [List.length_append, List.flatMap_append, show [(p, vo, vb)].flatMap pvCells = pvCells (p, vo, vb) by simp]
      exact ho'
    · intro y hy
      rcases List.mem_append.1 hy with hy | hy
      · exact ⟨(hall y hy).opts.grown hgr hr (by decide), (hall y hy).body.grown hgr hr (by decide), (hall y hy).ob, (hall y hy).bb⟩
      · simp at hy; subst hy
        exact ⟨hok.opts.grown hgr hr (by decide), hok.body.grown hgr hr (by decide), hok.ob, hok.bb⟩
    · exact (Below.refl _ _).grown hgr hbase (fun k hk => (World.ownsRow.lt hr k hk).1)
/-- A list literal of one packet. -/
theorem wpList_bs1 {ops : Array Oper} {rest : List Oper} {o : Oper} {a : Act} {w : World} {Q : Exit → Act → World → Prop} (hg : o.guard = none) (y : Operand) (ho : o.op = .buildSlice 55 1 #[(0, y)])
    (h : Hd) (vo vb : Value) (hy : a.eval y = .agg (pkCells h vo vb))
    (hh : wpList Try.prog ops Q rest (a.put o.dst (.slice (some ⟨w.heap.size, 0, none⟩) 1 1)) (w.alloc (.cells (pkCells h vo vb) 52))) : wpList Try.prog ops Q (o :: rest) a w := by
  obtain ⟨i0, hi0, hz0, hz1, hz2⟩ := info_parts info29
  refine wpList_buildSlice hg 55 52 1 #[(0, y)] ho (pkCells h vo vb) i0 (.agg Z29) Try.underlying55 hi0 hz0 (by rw [hz1]; decide) (by rw [hz1]; decide) ?_ hh
  rw [hz1]
  rw [show Array.map (fun x => (Value.agg Z29).cells[x % (Value.agg Z29).cells.size]!) (Array.range (1 * 11)) = Z29 from by rw [show Array.range (1 * 11) = #[0, 1, 2, 3, 4, 5, 6, 7, 8, 9, 10] from by decide]; simp [Z29, Value.cells]]
  simp only [List.map_toArray, List.map_cons, List.map_nil, hy]
  simp [Instr.fill, pkCells, Value.cells, Z29]
end Go.Proofs.Ytcelcnafcfefhaa.N

namespace Go.Proofs.Ytcelcnafcfefhaa.N
open Go.ChangeShapes Go.WideShapes Go.ChangeAt Go.RowKit
set_option maxHeartbeats 4000000
set_option maxRecDepth 100000

theorem pk_cells {u : World} {n : Nat} {h : Hd} {vo vb : Value} {t : TypeId} (hb : u.heap[n]? = some (.cells (pkCells h vo vb) t)) :
    (u.cell? ⟨n, 0, none⟩ = some (.int .u8 (h.tos : Int)) ∧ u.cell? ⟨n, 1, none⟩ = some (.int .u16 (h.id : Int)) ∧ u.cell? ⟨n, 2, none⟩ = some (.bool h.df) ∧ u.cell? ⟨n, 3, none⟩ = some (.bool h.mf) ∧ u.cell? ⟨n, 4, none⟩ = some (.int .i64 h.off) ∧ u.cell? ⟨n, 5, none⟩ = some (.int .u8 (h.ttl : Int)) ∧ u.cell? ⟨n, 6, none⟩ = some (.int .u8 (h.proto : Int)) ∧ u.cell? ⟨n, 7, none⟩ = some (.int .u32 (h.src : Int)) ∧ u.cell? ⟨n, 8, none⟩ = some (.int .u32 (h.dst : Int)) ∧ u.cell? ⟨n, 9, none⟩ = some vo ∧ u.cell? ⟨n, 10, none⟩ = some vb) :=
  ⟨pk_at hb 0 (by omega), pk_at hb 1 (by omega), pk_at hb 2 (by omega), pk_at hb 3 (by omega), pk_at hb 4 (by omega), pk_at hb 5 (by omega), pk_at hb 6 (by omega), pk_at hb 7 (by omega), pk_at hb 8 (by omega), pk_at hb 9 (by omega), pk_at hb 10 (by omega)⟩

/-- What holds of the rest at each turn. -/
structure Turn (w2 : World) (later : List Nat) (mtu : Nat) (total ps : List Pk) (h : Hd) (vo vb : Value) (B : List Nat) : Prop where
  ok : h.Ok
  ol : h.opts.length ≤ 40
  bl : B.length ≤ 65535
  o0 : 0 ≤ h.off
  o1 : h.off + (B.length : Int) ≤ 65535
  so : SeesB w2 vo h.opts
  sb : SeesB w2 vb B
  eq : ∃ f, B.length ≤ f ∧ ps ++ cutL later mtu f h B = total

theorem Turn.last {w2 : World} {later : List Nat} {mtu : Nat} {total ps : List Pk} {h : Hd} {vo vb : Value} {B : List Nat} (t : Turn w2 later mtu total ps h vo vb B) (hf : 20 + h.opts.length + B.length ≤ mtu) : ps ++ [(h, B)] = total := by
  obtain ⟨f, _, e⟩ := t.eq
  rw [cutL_fits hf] at e
  exact e

theorem Turn.more {w2 : World} {later : List Nat} {mtu : Nat} {total ps : List Pk} {h : Hd} {vo vb vl vb' : Value} {B : List Nat} (t : Turn w2 later mtu total ps h vo vb B) (hm : 68 ≤ mtu) (hl : later.length ≤ 40) (hf : ¬ 20 + h.opts.length + B.length ≤ mtu)
    (hsl : SeesB w2 vl later) (hsb : SeesB w2 vb' (B.drop (rmOf h mtu))) : Turn w2 later mtu total (ps ++ [(frontH h, B.take (rmOf h mtu))]) (nextH h (rmOf h mtu) later) vl vb' (B.drop (rmOf h mtu)) ∧ ps.length + 2 ≤ total.length := by
  obtain ⟨r1, r2, r3⟩ := rm_le hf
  have r4 := rm_pos t.ol hm
  have q0 := t.o0
  have q1 := t.o1
  obtain ⟨f, hf1, e⟩ := t.eq
  rw [cutL_more hf hf1 hm t.ol] at e
  refine ⟨⟨next_ok t.ok (by omega) (by omega), hl, ?_, ?_, ?_, hsl, hsb, f - 1, ?_, ?_⟩, ?_⟩
  · rw [List.length_drop]; have := t.bl; omega
  · show 0 ≤ h.off + _; omega
  · show h.off + _ + _ ≤ _; rw [List.length_drop]; omega
  · rw [List.length_drop]; omega
  · rw [List.append_assoc]; exact e
  · rw [← e, List.length_append, List.length_cons]
    have : 1 ≤ (cutL later mtu (f - 1) (nextH h (rmOf h mtu) later) (B.drop (rmOf h mtu))).length := by
      cases f - 1 with
      | zero => simp [cutL]
      | succ k => rw [cutL]; split <;> simp
    omega

theorem cut_any (h : Hd) (vo vb : Value) (B : List Nat) (mtu : Nat) (w : World) (hok : h.Ok) (hvo : SeesB w vo h.opts) (hvb : SeesB w vb B) (hm : 68 ≤ mtu) (hm2 : mtu ≤ 9223372036854775807) (he : refE h B.length = 0) :
    Calls Try.prog 47 #[.agg (pkCells h vo vb), .int .i64 (mtu : Int)] w fun e w' => ∃ v', e = .returned v' ∧ PkRow w' w.heap.size v' (cutL (M.copied h.opts).1 mtu B.length h B) ∧ Below w.heap.size w w' := by
  obtain ⟨r1, r2, r3⟩ := refE_ok he
  obtain ⟨l1, _⟩ := area_len r1
  obtain ⟨f0, hf0, hf1, _⟩ := piece_off r2
  obtain ⟨la, ll, le⟩ := later_area r1
  have lby := later_bytes hvo.bytes
  have hoff : h.off + (B.length : Int) ≤ 65535 := by
    unfold M.pieceOk at r2
    simp at r2
    omega
  obtain ⟨w1, hw1⟩ : ∃ w1, w1 = w.alloc (.cells (pkCells h vo vb) 52) := ⟨_, rfl⟩
  have hb1 : Below w.heap.size w w1 := by rw [hw1]; exact (Below.refl _ _).alloc (Nat.le_refl _) _
  have hs1 : w1.heap.size = w.heap.size + 1 := by rw [hw1]; simp
  have hk1 : w1.heap[w.heap.size]? = some (.cells (pkCells h vo vb) 52) := by rw [hw1]; exact heap_alloc_new w _
  have c9 : w1.cell? ⟨w.heap.size, 9, none⟩ = some vo := pk_at hk1 9 (by omega)
  have HC := hid (copied_code vo h.opts w1 (hvo.below hb1))
  rw [le] at HC
  obtain ⟨total, htot⟩ : ∃ total, total = cutL (M.copied h.opts).1 mtu B.length h B := ⟨_, rfl⟩
  rw [← htot]
  obtain ⟨later, hlat⟩ : ∃ later, later = (M.copied h.opts).1 := ⟨_, rfl⟩
  rw [← hlat] at HC htot ll lby
  have HT0 : Hid (∀ w2, Below w.heap.size w w2 → Turn w2 later mtu total [] h vo vb B) := fun w2 hb2 => ⟨hok, l1, by omega, by omega, hoff, hvo.below hb2, hvb.below hb2, B.length, Nat.le_refl _, htot.symm⟩
  have HTL : Hid (total.length ≤ 65536 ∧ total.length ≤ B.length + 1) := by
    have key : ∀ (f : Nat) (h : Hd) (B : List Nat), (cutL later mtu f h B).length ≤ f + 1 := by
      intro f
      induction f with
      | zero => intro h B; simp [cutL]
      | succ f ih => intro h B; rw [cutL]; split
                     · simp
                     · rw [List.length_cons]; have := ih (nextH h (rmOf h mtu) later) (B.drop (rmOf h mtu)); omega
    have := key B.length h B
    rw [← htot] at this
    exact ⟨by omega, this⟩
  obtain ⟨ao, no, co, rfl, HNO, _, _⟩ := hvo.shape
  obtain ⟨ab, nb, cb, rfl, HNB, _, _⟩ := hvb.shape
  have HW1 := hid hw1
  have HB1 := hid hb1
  have HK1 := hid hk1
  have HS1 := hid hs1
  have HLB := hid lby
  have HLL := hid ll
  have HE := hid he
  clear hw1 hb1 hk1 hs1 hvo hvb hok he r1 r2 r3 l1 hf0 hf1 la ll le lby hoff htot hlat
  obtain ⟨cs, hcs⟩ : ∃ cs, cs = pkCells h (.slice ao no co) (.slice ab nb cb) := ⟨_, rfl⟩
  rw [← hcs] at HW1 HK1 ⊢
  have HCS := hid hcs
  have HALL0 : Hid (cs.all (·.oneCell') = true) := by unfold Hid; rw [hcs]; exact all_pk _ _ _ _ _ _ _
  have HSZ0 : Hid (cs.size = 11) := by unfold Hid; rw [hcs]; rfl
  clear hcs
  go_enter Try.func47, Try.ntmps47
  go_upto_region 1 with fail
  rw [← HW1.out]
  go_wp2_with fail
  refine HC.out.mono ?_
  rintro _ w2 ⟨vl, rfl, hol, hb2⟩
  obtain ⟨al, cl, rfl⟩ := hol.shape
  have HSL := hid (hol.sees HLB.out)
  have HB2 : Hid (Below w.heap.size w w2) := HB1.out.trans (hb2.mono HB1.out.size)
  have HT1 := hid (HT0.out _ HB2.out)
  have HK2 := hid (below_keeps hb2 HK1.out (by have := HS1.out; omega))
  rw [HCS.out] at HK2
  have HL2 := hid (pk_load HK2.out)
  rw [← HCS.out] at HL2
  have HZ2 : Hid ((w2.alloc (.cells Z29 52)).heap[w2.heap.size]? = some (.cells Z29 52)) := heap_alloc_new w2 _
  have HBA : Hid (Below w2.heap.size w2 (w2.alloc (.cells Z29 52))) := (Below.refl _ _).alloc (Nat.le_refl _) _
  clear hol hb2 c9 HC HT0
  go_wp2_with (first | (refine wpList_ld 52 ⟨w.heap.size, 0, none⟩ (.tmp 2) rfl rfl HL2.out rfl ?_) | (refine wpList_st rfl 52 (.tmp 8) (.tmp 18) rfl w2.heap.size cs rfl rfl 52 Z29 HZ2.out (by rw [HSZ0.out]; exact sz29) (by rw [HSZ0.out]; rfl) HALL0.out ?_) | fail)
  intro w3 hk3 hbut3
  have HB3 : Hid (Below w2.heap.size w2 w3) := hbut3.below HBA.out (by simp) (Nat.le_refl _)
  have HSZ3 : Hid (w2.heap.size + 1 ≤ w3.heap.size) := by have := hbut3.size; unfold Hid; simpa using this
  have HK3 := hid hk3
  rw [HCS.out] at HK3
  clear hk3 hbut3 HL2 HK2 HZ2 HBA HALL0 HSZ0
  obtain ⟨r, hr⟩ : ∃ r, r = w2.heap.size := ⟨_, rfl⟩
  rw [← hr] at HB3 HSZ3 HK3 ⊢
  have HR := hid hr
  clear hr
  go_wp2_with fail
  go_loopw [5] (fun v wv => ∃ (ps : List Pk) (h' : Hd) (vo' vb' : Value) (B' : List Nat) (wr : World), wr = wv ∧ Hid (PkRow wr (r + 1) v ps) ∧ Hid (wr.heap[r]? = some (.cells (pkCells h' vo' vb') 52)) ∧ Hid (Turn w2 later mtu total ps h' vo' vb' B') ∧ Hid (Below r w2 wr) ∧ Hid (r + 1 ≤ wr.heap.size)) (fun v _ => total.length - lenOf v)
  case atStart => exact ⟨[], h, _, _, B, _, rfl, pkRow_nil _ _, HK3, HT1, HB3, HSZ3⟩
  case round =>
    obtain ⟨ps, h', vo', vb', B', wr, rfl, HP, HK, HT, HB, HSZ⟩ := hrel
    obtain ⟨av, cv, rfl, _, _⟩ := HP.out.shape
    have HL := hid (pk_load HK.out)
    have hbl := HT.out.bl
    have hol := HT.out.ol
    have hBr : Below w2.heap.size w2 wr := by rw [← HR.out]; exact HB.out
    have HSE := hid (size_any h' vo' vb' B' wr (HT.out.so.below hBr) (HT.out.sb.below hBr) (by omega) (by omega))
    obtain ⟨S, hS⟩ : ∃ S, S = 20 + h'.opts.length + B'.length := ⟨_, rfl⟩
    rw [← hS] at HSE
    have hS2 : S ≤ 65595 := by omega
    obtain ⟨cr, hcr⟩ : ∃ cr, cr = pkCells h' vo' vb' := ⟨_, rfl⟩
    rw [← hcr] at HL HSE
    have HCR := hid hcr
    have HSS := hid hS
    have HBR := hid hBr
    have HBL := hid hbl
    have HOL := hid hol
    clear hcr hS hBr hbl hol
    by_cases hfit : S ≤ mtu
    · have hq : ((mtu : Int) < (S : Int)) = False := by simp; omega
      have HFIT : Hid (20 + h'.opts.length + B'.length ≤ mtu) := by have := HSS.out; unfold Hid; omega
      go_wp2_with (first | (refine wpList_ld 52 ⟨r, 0, none⟩ (.tmp 8) rfl rfl HL.out rfl ?_) | fail)
      refine HSE.out.mono ?_
      rintro _ w4 ⟨rfl, hb4⟩
      have HB4 := hid hb4
      have HK4 := hid (below_keeps HB4.out HK.out (by have := HSZ.out; omega))
      have HL4 := hid (pk_load HK4.out)
      have hBr4 := HBR.out.trans (HB4.out.mono HBR.out.size)
      have HF := hid (fresh_any h' vo' vb' B' w4 (HT.out.so.below hBr4) (HT.out.sb.below hBr4) (by have := HOL.out; omega) (by have := HBL.out; omega))
      rw [← HCR.out] at HL4 HF
      clear hb4 hBr4 HL HSE
      go_wp2_with (first | (refine wpList_ld 52 ⟨r, 0, none⟩ (.tmp 8) rfl rfl HL4.out rfl ?_) | fail)
      refine HF.out.mono ?_
      rintro _ w5 ⟨vo5, vb5, rfl, ho5, hob5, hb5⟩
      have HB5 := hid hb5
      have hs5 : r + 1 ≤ w4.heap.size := by have h1 := HSZ.out; have h2 := HB4.out.size; omega
      have HOK : Hid (PkOk w5 (r + 1) ((h', B'), vo5, vb5)) := ⟨OwnB.low ho5 (by omega), OwnB.low hob5 (by omega), HT.out.so.bytes, HT.out.sb.bytes⟩
      have HPR : Hid (PkRow w5 (r + 1) (.slice av ps.length cv) ps) := (HP.out.below HB4.out).below HB5.out
      have HS5 : Hid (r + 1 ≤ w5.heap.size) := by have := HB5.out.size; unfold Hid; omega
      have HPL : Hid (ps.length ≤ 65536) := by
        have h1 := HTL.out.1
        rw [← HT.out.last HFIT.out, List.length_append] at h1
        unfold Hid; omega
      have HEND := hid (HT.out.last HFIT.out)
      clear ho5 hob5 hb5 hs5 HF HL4
      go_wp2_with (first | (refine wpList_bs1 rfl (.tmp 63) rfl h' vo5 vb5 rfl ?_) | (at_builtin; refine wpList_append_pk rfl _ _ rfl (r + 1) _ ps rfl (HPR.out.below ((Below.refl _ _).alloc (Nat.le_refl _) _)) (h', B') vo5 vb5 w5.heap.size rfl (heap_alloc_new w5 _) ?c3 ?c4 ?c5 ?_) | fail)
      case c3 =>
        have hA : Below w5.heap.size w5 (w5.alloc (.cells (pkCells h' vo5 vb5) 52)) := (Below.refl _ _).alloc (Nat.le_refl _) _
        exact ⟨HOK.out.opts.below hA, HOK.out.body.below hA, HOK.out.ob, HOK.out.bb⟩
      case c4 => have := HPL.out; omega
      case c5 => have := HS5.out; simp; omega
      intro v' w7 hp7 hb7
      rw [HEND.out] at hp7
      have HP7 := hid hp7
      have HB7 : Hid (Below w.heap.size w w7) := by
        have h1 : Below (r + 1) w5 w7 := ((Below.refl _ _).alloc HS5.out _).trans hb7
        have h2 : Below w.heap.size w w5 := HB2.out.trans ((HBR.out.trans ((HB4.out.mono HBR.out.size).trans (HB5.out.mono (by have := HB4.out.size; have := HBR.out.size; omega)))).mono HB2.out.size)
        exact h2.trans (h1.mono (by have := HB2.out.size; have := HR.out; omega))
      clear hp7 hb7
      go_wp2_with fail
      go_ret
      exact ⟨_, rfl, HP7.out.low (by have := HB2.out.size; have := HR.out; omega), HB7.out⟩
    · have hq : ((mtu : Int) < (S : Int)) = True := by simp; omega
      have HNF : Hid (¬ 20 + h'.opts.length + B'.length ≤ mtu) := by have := HSS.out; unfold Hid; omega
      obtain ⟨q1, q2, q3⟩ := rm_le HNF.out
      have q4 := rm_pos HOL.out hm
      obtain ⟨k, hk⟩ : ∃ k, k = rmOf h' mtu := ⟨_, rfl⟩
      rw [← hk] at q1 q2 q3 q4
      have HKK := hid hk
      obtain ⟨no', hno'⟩ : ∃ no', no' = h'.opts.length := ⟨_, rfl⟩
      have HNO' := hid hno'
      have hno40 : no' ≤ 40 := by have := HOL.out; omega
      have HKE : Hid ((mtu : Int) - (20 + (no' : Int)) - ((mtu : Int) - (20 + (no' : Int))) % 8 = (k : Int)) := by
        have h1 := HKK.out
        unfold rmOf at h1
        rw [← HNO'.out] at h1
        unfold Hid; omega
      have hk64 : k ≤ 65535 := by have := HBL.out; omega
      have HQ1 := hid q1
      clear hk hno' q1 q2 q3
      go_wp2_with (first | (refine wpList_ld 52 ⟨r, 0, none⟩ (.tmp 8) rfl rfl HL.out rfl ?_) | fail)
      refine HSE.out.mono ?_
      rintro _ w4 ⟨rfl, hb4⟩
      have HB4 := hid hb4
      have HK4 := hid (below_keeps HB4.out HK.out (by have := HSZ.out; omega))
      have HL4 := hid (pk_loadH HK4.out)
      have hBr4 := HBR.out.trans (HB4.out.mono HBR.out.size)
      have HHS := hid (headSize_any h' vo' w4 (HT.out.so.below hBr4) (by have := HOL.out; omega))
      rw [← HNO'.out] at HHS
      obtain ⟨ch, hch⟩ : ∃ ch, ch = hdCells h' vo' := ⟨_, rfl⟩
      rw [← hch] at HL4 HHS
      have HBR4 := hid hBr4
      clear hb4 hBr4 HL HSE hch
      go_wp2_with (first | (refine wpList_ld 50 ⟨r, 0, none⟩ (.tmp 24) rfl rfl HL4.out rfl ?_) | fail)
      refine HHS.out.mono ?_
      rintro _ w5 ⟨rfl, hb5⟩
      have HB5 := hid hb5
      have HSZ4 : Hid (r + 1 ≤ w4.heap.size) := by have h1 := HSZ.out; have h2 := HB4.out.size; unfold Hid; omega
      have HK5 := hid (below_keeps HB5.out HK4.out (by have := HSZ4.out; omega))
      have HBR5 : Hid (Below w2.heap.size w2 w5) := HBR4.out.trans (HB5.out.mono HBR4.out.size)
      clear hb5 HL4 HHS
      go_upto_region 7 with fail
      rw [HKE.out]
      have HSO := hid HT.out.so
      have HSB := hid HT.out.sb
      obtain ⟨ao', noo, co', rfl, _, _, _⟩ := HSO.out.shape
      obtain ⟨ab', nb', cb', rfl, HNB', _, _⟩ := HSB.out.shape
      have hkn : k ≤ nb' := by have := HQ1.out; have := HNB'.out; omega
      obtain ⟨aH, HSH, hcutH⟩ := HSB.out.high k (k : Int) rfl hkn
      obtain ⟨aL, HSL2, hcutL⟩ := HSB.out.low k (k : Int) rfl hkn
      obtain ⟨r0, r1, r2, r3, r4, r5, r6, r7, r8, r9, r10⟩ := pk_cells HK5.out
      have hr5 : r < w5.heap.size := by have h1 := HSZ4.out; have h2 := HB5.out.size; omega
      have hr6 : ¬ w5.heap.size = r := by omega
      have hr7 : ¬ r = w5.heap.size := by omega
      go_cut [10] from 19 to 60 (fun p wx => ∃ x, x = wx ∧ p = .pointer (some ⟨w5.heap.size, 0, none⟩) ∧ Hid (x.heap[w5.heap.size]? = some (.cells (pkCells h' (.slice ao' noo co') (.slice aH k cb')) 52)) ∧ Hid (Below w5.heap.size w5 x))
      case first =>
        go_region
        all_goals (
          go_wp2_with fail
          go_meet
          case rel => exact ⟨_, rfl, rfl, heap_alloc_new w5 _, below_drew ((Below.refl _ _).alloc (Nat.le_refl _) _)⟩)
      case rest =>
      obtain ⟨x, rfl, rfl, HPC, HBX⟩ := hcut
      obtain ⟨pb, hpb⟩ : ∃ pb, pb = w5.heap.size := ⟨_, rfl⟩
      rw [← hpb] at HPC ⊢
      have HPB := hid hpb
      have HR5 := hid hr5
      clear r0 r1 r2 r3 r4 r5 r6 r7 r8 r9 r10 hr5 hr6 hr7 hpb hcutH
      go_wp2_with (first | (refine wpList_st1 rfl 4 (.tmp 40) (.const (.bool true)) rfl pb 3 (.bool true) rfl rfl rfl 52 _ (pkCells (frontH h') (.slice ao' noo co') (.slice aH k cb')) HPC.out size4 (by show 3 < 11; decide) rfl ?_) | fail)
      intro w6 hk6 hbut6
      have HB6 : Hid (Below w5.heap.size w5 w6) := hbut6.below HBX.out HBX.out.size (by have := HPB.out; omega)
      have HK6 := hid hk6
      have HL6 := hid (pk_load hk6)
      have hBr6 : Below w2.heap.size w2 w6 := HBR5.out.trans (HB6.out.mono HBR5.out.size)
      have HF := hid (fresh_any (frontH h') _ _ (B'.take k) w6 (HSO.out.below hBr6) (HSH.out.below hBr6) (by have := HOL.out; show h'.opts.length ≤ _; omega) (by have := HBL.out; rw [List.length_take]; omega))
      obtain ⟨cf, hcf⟩ : ∃ cf, cf = pkCells (frontH h') (.slice ao' noo co') (.slice aH k cb') := ⟨_, rfl⟩
      rw [← hcf] at HL6 HF
      clear hk6 hbut6 hBr6 hcf
      go_wp2_with (first | (refine wpList_ld 52 ⟨pb, 0, none⟩ (.tmp 10) rfl rfl HL6.out rfl ?_) | fail)
      refine HF.out.mono ?_
      rintro _ w7 ⟨vo7, vb7, rfl, ho7, hob7, hb7⟩
      have HB7 : Hid (Below w5.heap.size w5 w7) := HB6.out.trans (hb7.mono HB6.out.size)
      have HS7 : Hid (r + 1 ≤ w7.heap.size) := by have h1 := HB7.out.size; have h2 := HR5.out; unfold Hid; omega
      have HOK : Hid (PkOk w7 (r + 1) ((frontH h', B'.take k), vo7, vb7)) := by
        have h1 := HB6.out.size
        have h2 := HR5.out
        exact ⟨OwnB.low ho7 (by omega), OwnB.low hob7 (by omega), HSO.out.bytes, fun b hb => HSB.out.bytes b (List.mem_of_mem_take hb)⟩
      have HPR : Hid (PkRow w7 (r + 1) (.slice av ps.length cv) ps) := ((HP.out.below HB4.out).below HB5.out).below HB7.out
      obtain ⟨HT', HPL⟩ : Hid (Turn w2 later mtu total (ps ++ [(frontH h', B'.take k)]) (nextH h' k later) (.slice al later.length cl) (.slice aL (nb' - k) (cb' - k)) (B'.drop k)) ∧ Hid (ps.length + 2 ≤ total.length) := by
        have := HT.out.more hm HLL.out HNF.out HSL.out (vb' := .slice aL (nb' - k) (cb' - k)) (by rw [← HKK.out]; exact HSL2.out)
        rw [← HKK.out] at this
        exact this
      have HK7 := hid (below_keeps HB7.out HK5.out HR5.out)
      have ho0 := HT.out.o0
      have ho1 := HT.out.o1
      have ho2 : h'.off ≤ 65535 := by omega
      have HPL2 : Hid (ps.length ≤ 65536) := by have h1 := HTL.out.1; have h2 := HPL.out; unfold Hid; omega
      clear ho7 hob7 hb7 HF HL6 HK6 HPC HP HK ho1
      go_wp2_with (first | (refine wpList_bs1 rfl (.tmp 43) rfl (frontH h') vo7 vb7 rfl ?_) | (at_builtin; refine wpList_append_pk rfl _ _ rfl (r + 1) _ ps rfl (HPR.out.below ((Below.refl _ _).alloc (Nat.le_refl _) _)) (frontH h', B'.take k) vo7 vb7 w7.heap.size rfl (heap_alloc_new w7 _) ?c3 ?c4 ?c5 ?_) | fail)
      case c3 =>
        have hA : Below w7.heap.size w7 (w7.alloc (.cells (pkCells (frontH h') vo7 vb7) 52)) := (Below.refl _ _).alloc (Nat.le_refl _) _
        exact ⟨HOK.out.opts.below hA, HOK.out.body.below hA, HOK.out.ob, HOK.out.bb⟩
      case c4 => have := HPL2.out; omega
      case c5 => have := HS7.out; simp; omega
      intro v' w8 hp8 hb8
      obtain ⟨av8, cv8, rfl, _, _⟩ := hp8.shape
      have HP8 := hid hp8
      have HB8 : Hid (Below (r + 1) w7 w8) := ((Below.refl _ _).alloc HS7.out _).trans hb8
      have HK8 := hid (below_keeps HB8.out HK7.out (by omega))
      have c4 : w8.cell? ⟨r, 4, none⟩ = some (.int .i64 h'.off) := pk_at HK8.out 4 (by omega)
      clear hp8 hb8 HPR HOK
      go_wp2_with (first | (refine wpList_st1 rfl 3 (.tmp 52) (.tmp 50) rfl r 4 (.int .i64 (h'.off + (k : Int))) rfl rfl rfl 52 _ (pkCells (nextH h' k later) (.slice ao' noo co') (.slice ab' nb' cb')) HK8.out size3 (by show 4 < 11; decide) rfl ?_) | fail)
      intro w9 hk9 hbut9
      have HK9 := hid hk9
      have HU9 := hid hbut9
      clear hk9 hbut9 c4
      go_wp2_with (first | (refine wpList_st1 rfl 25 (.tmp 55) (.tmp 53) rfl r 9 (.slice al later.length cl) rfl rfl rfl 52 _ (pkCells (nextH h' k later) (.slice al later.length cl) (.slice ab' nb' cb')) HK9.out size22 (by show 9 < 11; decide) rfl ?_) | fail)
      intro w10 hk10 hbut10
      have HK10 := hid hk10
      have HU10 := hid hbut10
      have c10 : w10.cell? ⟨r, 10, none⟩ = some (.slice ab' nb' cb') := pk_at hk10 10 (by omega)
      clear hk10 hbut10
      go_wp2_with (first | (refine wpList_st1 rfl 25 (.tmp 60) (.tmp 59) rfl r 10 (.slice aL (nb' - k) (cb' - k)) rfl rfl rfl 52 _ (pkCells (nextH h' k later) (.slice al later.length cl) (.slice aL (nb' - k) (cb' - k))) HK10.out size22 (by show 10 < 11; decide) rfl ?_) | fail)
      intro w11 hk11 hbut11
      have HK11 := hid hk11
      have HU11 : Hid (But r w8 w11) := (HU9.out.trans HU10.out).trans hbut11
      have HP11 := hid (HP8.out.but HU11.out (by omega))
      rw [show (ps ++ [(frontH h', B'.take k)]).length = ps.length + 1 from by simp] at HP11
      have HB11 : Hid (Below r w2 w11) := by
        refine HU11.out.below ?_ ?_ (Nat.le_refl _)
        · have h1 : Below w2.heap.size w2 w7 := HBR5.out.trans (HB7.out.mono HBR5.out.size)
          rw [← HR.out] at h1
          exact h1.trans (HB8.out.mono (by omega))
        · have h1 := HB8.out.size; have h2 := HS7.out; omega
      have HS11 : Hid (r + 1 ≤ w11.heap.size) := by have h1 := HB8.out.size; have h2 := HS7.out; have h3 := HU11.out.size; unfold Hid; omega
      clear hk11 hbut11 c10
      go_wp2_with fail
      go_roundw
      case rel => exact ⟨_, nextH h' k later, _, _, _, _, rfl, HP11, HK11, HT', HB11, HS11⟩
      case measure => have := HPL.out; simp [lenOf]; omega
end Go.Proofs.Ytcelcnafcfefhaa.N

namespace Go.Proofs.Ytcelcnafcfefhaa.N
open Go.ChangeShapes Go.WideShapes Go.ChangeAt Go.RowKit
set_option maxHeartbeats 4000000
set_option maxRecDepth 100000

theorem splitL_mtu {h : Hd} {B : List Nat} {m : Int} (hm : m < 68) : splitL h B m = ([], 50) := by unfold splitL; rw [if_pos hm]
theorem splitL_bad {h : Hd} {B : List Nat} {m : Int} (hm : ¬ m < 68) (he : refE h B.length ≠ 0) : splitL h B m = ([], refE h B.length) := by unfold splitL; rw [if_neg hm, if_pos he]
theorem splitL_one {h : Hd} {B : List Nat} {m : Int} (hm : ¬ m < 68) (he : refE h B.length = 0) (hf : 20 + h.opts.length + B.length ≤ m.toNat) : splitL h B m = ([(h, B)], 0) := by
  unfold splitL; rw [if_neg hm, if_neg (by simp [he]), if_pos hf]
theorem splitL_df {h : Hd} {B : List Nat} {m : Int} (hm : ¬ m < 68) (he : refE h B.length = 0) (hf : ¬ 20 + h.opts.length + B.length ≤ m.toNat) (hd : h.df = true) : splitL h B m = ([], 51) := by
  unfold splitL; rw [if_neg hm, if_neg (by simp [he]), if_neg hf, if_pos hd]
theorem splitL_cut {h : Hd} {B : List Nat} {m : Int} (hm : ¬ m < 68) (he : refE h B.length = 0) (hf : ¬ 20 + h.opts.length + B.length ≤ m.toNat) (hd : h.df = false) : splitL h B m = (cutL (M.copied h.opts).1 m.toNat B.length h B, 0) := by
  unfold splitL; rw [if_neg hm, if_neg (by simp [he]), if_neg hf, if_neg (by simp [hd])]

theorem split_code (h : Hd) (vo vb : Value) (B : List Nat) (m : Int) (w : World) (hok : h.Ok) (hvo : SeesB w vo h.opts) (hvb : SeesB w vb B) (hlo : h.opts.length ≤ 140737488355328) (hlb : B.length ≤ 140737488355328) (hm1 : -9223372036854775808 ≤ m) (hm2 : m ≤ 9223372036854775807) :
    Calls Try.prog 17 #[.agg (pkCells h vo vb), .int .i64 m] w fun e w' => ∃ v', e = .returned (.tuple #[v', .int .i64 (splitL h B m).2]) ∧ PkRow w' w.heap.size v' (splitL h B m).1 ∧ Below w.heap.size w w' := by
  obtain ⟨w1, hw1⟩ : ∃ w1, w1 = w.alloc (.cells (pkCells h vo vb) 52) := ⟨_, rfl⟩
  have hb1 : Below w.heap.size w w1 := by rw [hw1]; exact (Below.refl _ _).alloc (Nat.le_refl _) _
  have hs1 : w1.heap.size = w.heap.size + 1 := by rw [hw1]; simp
  have hk1 : w1.heap[w.heap.size]? = some (.cells (pkCells h vo vb) 52) := by rw [hw1]; exact heap_alloc_new w _
  have HKP : Hid (∀ u, Below w1.heap.size w1 u → u.heap[w.heap.size]? = some (.cells (pkCells h vo vb) 52)) := fun u hu => below_keeps hu hk1 (by omega)
  have HLD : Hid (∀ u, Below w1.heap.size w1 u → (Instr.loadAt 52 (.pointer (some ⟨w.heap.size, 0, none⟩))).run Try.prog u = .ok (.agg (pkCells h vo vb)) u) := fun u hu => pk_load (HKP.out u hu)
  have HC2 : Hid (∀ u, Below w1.heap.size w1 u → u.cell? ⟨w.heap.size, 2, none⟩ = some (.bool h.df)) := fun u hu => pk_at (HKP.out u hu) 2 (by omega)
  have HFT := hid (fault_any h vo vb B w1 hok (hvo.below hb1) (hvb.below hb1) hlo hlb)
  have HSE : Hid (∀ u, Below w1.heap.size w1 u → Calls Try.prog 46 #[.agg (pkCells h vo vb)] u fun e w' => e = .returned (.int .i64 ((20 + h.opts.length + B.length : Nat) : Int)) ∧ Below u.heap.size u w') := fun u hu => by
    have hbu := hb1.trans (hu.mono hb1.size)
    exact size_any h vo vb B u (hvo.below hbu) (hvb.below hbu) hlo hlb
  have HCU : Hid (∀ u, Below w1.heap.size w1 u → ¬ m < 68 → refE h B.length = 0 → Calls Try.prog 47 #[.agg (pkCells h vo vb), .int .i64 m] u fun e w' => ∃ v', e = .returned v' ∧ PkRow w' u.heap.size v' (cutL (M.copied h.opts).1 m.toNat B.length h B) ∧ Below u.heap.size u w') := fun u hu h1 h2 => by
    have hbu := hb1.trans (hu.mono hb1.size)
    have := cut_any h vo vb B m.toNat u hok (hvo.below hbu) (hvb.below hbu) (by omega) (by omega) h2
    rw [show ((m.toNat : Nat) : Int) = m by omega] at this
    exact this
  have HW1 := hid hw1
  have HB1 := hid hb1
  obtain ⟨S, hS⟩ : ∃ S, S = 20 + h.opts.length + B.length := ⟨_, rfl⟩
  rw [← hS] at HSE
  have HSS := hid hS
  have hSl : S ≤ 281474976710700 := by omega
  obtain ⟨E, hE⟩ : ∃ E, E = refE h B.length := ⟨_, rfl⟩
  rw [← hE] at HFT HCU
  have HE := hid hE
  obtain ⟨R, hR⟩ : ∃ R, R = splitL h B m := ⟨_, rfl⟩
  rw [← hR]
  have HR := hid hR
  obtain ⟨d, hd⟩ : ∃ d, d = h.df := ⟨_, rfl⟩
  rw [← hd] at HC2
  have HD := hid hd
  clear hw1 hb1 hs1 hk1 hvo hvb hok hS hE hR hd HKP hlo hlb
  obtain ⟨cs, hcs⟩ : ∃ cs, cs = pkCells h vo vb := ⟨_, rfl⟩
  rw [← hcs] at HW1 HLD HFT HSE HCU ⊢
  clear hcs
  have HL1 := hid (HLD.out _ (Below.refl _ _))
  by_cases hm : m < 68
  · have HRE : Hid (R = ([], 50)) := by unfold Hid; rw [HR.out, splitL_mtu hm]
    go_enter Try.func17, Try.ntmps17
    go_upto_region 1 with fail
    rw [← HW1.out]
    go_wp2_with fail
    refine bodyPost_ret (results_tmp2 Try.results17 _ _ _) rfl ?_
    exact ⟨.slice none 0 0, by rw [HRE.out]; rfl, by rw [HRE.out]; exact pkRow_nil _ _, HB1.out⟩
  · by_cases he : E = 0
    · subst he
      by_cases hf : S ≤ m.toNat
      · have hq : (m < (S : Int)) = False := by simp; omega
        have HRE : Hid (R = ([(h, B)], 0)) := by unfold Hid; rw [HR.out, splitL_one hm HE.out.symm (by rw [← HSS.out]; exact hf)]
        have HCE : Hid (cutL (M.copied h.opts).1 m.toNat B.length h B = [(h, B)]) := cutL_fits (by rw [← HSS.out]; exact hf)
        go_enter Try.func17, Try.ntmps17
        go_upto_region 1 with fail
        rw [← HW1.out]
        go_wp2_with (first | (refine wpList_ld 52 ⟨w.heap.size, 0, none⟩ (.tmp 2) rfl rfl HL1.out rfl ?_) | fail)
        refine HFT.out.mono ?_
        rintro _ w2 ⟨rfl, hb2⟩
        have HB2 := hid hb2
        have HL2 := hid (HLD.out _ hb2)
        have HSE2 := hid (HSE.out _ hb2)
        clear hb2
        go_wp2_with (first | (refine wpList_ld 52 ⟨w.heap.size, 0, none⟩ (.tmp 2) rfl rfl HL2.out rfl ?_) | fail)
        refine HSE2.out.mono ?_
        rintro _ w3 ⟨rfl, hb3⟩
        have HB3 : Hid (Below w1.heap.size w1 w3) := HB2.out.trans (hb3.mono HB2.out.size)
        have c2 := HC2.out _ HB3.out
        have HL3 := hid (HLD.out _ HB3.out)
        have HCU3 := hid (HCU.out _ HB3.out hm (by simp))
        rw [HCE.out] at HCU3
        clear hb3
        go_wp2_with (first | (refine wpList_ld 52 ⟨w.heap.size, 0, none⟩ (.tmp 2) rfl rfl HL3.out rfl ?_) | fail)
        refine HCU3.out.mono ?_
        rintro _ w4 ⟨v4, rfl, hp4, hb4⟩
        have HP4 := hid hp4
        obtain ⟨a4, c4, rfl, _, _⟩ := hp4.shape
        have HB4 : Hid (Below w.heap.size w w4) := HB1.out.trans ((HB3.out.trans (hb4.mono HB3.out.size)).mono HB1.out.size)
        have HLE : Hid (w.heap.size ≤ w3.heap.size) := Nat.le_trans HB1.out.size HB3.out.size
        clear hp4 hb4 c2
        go_wp2_with fail
        refine bodyPost_ret (results_tmp2 Try.results17 _ _ _) rfl ?_
        exact ⟨_, by rw [HRE.out]; rfl, by rw [HRE.out]; exact HP4.out.low HLE.out, HB4.out⟩
      · have hq : (m < (S : Int)) = True := by simp; omega
        cases d with
        | true =>
          have HRE : Hid (R = ([], 51)) := by unfold Hid; rw [HR.out, splitL_df hm HE.out.symm (by rw [← HSS.out]; exact hf) HD.out.symm]
          go_enter Try.func17, Try.ntmps17
          go_upto_region 1 with fail
          rw [← HW1.out]
          go_wp2_with (first | (refine wpList_ld 52 ⟨w.heap.size, 0, none⟩ (.tmp 2) rfl rfl HL1.out rfl ?_) | fail)
          refine HFT.out.mono ?_
          rintro _ w2 ⟨rfl, hb2⟩
          have HB2 := hid hb2
          have HL2 := hid (HLD.out _ hb2)
          have HSE2 := hid (HSE.out _ hb2)
          clear hb2
          go_wp2_with (first | (refine wpList_ld 52 ⟨w.heap.size, 0, none⟩ (.tmp 2) rfl rfl HL2.out rfl ?_) | fail)
          refine HSE2.out.mono ?_
          rintro _ w3 ⟨rfl, hb3⟩
          have HB3 : Hid (Below w1.heap.size w1 w3) := HB2.out.trans (hb3.mono HB2.out.size)
          have c2 := HC2.out _ HB3.out
          clear hb3
          go_wp2_with fail
          refine bodyPost_ret (results_tmp2 Try.results17 _ _ _) rfl ?_
          exact ⟨.slice none 0 0, by rw [HRE.out]; rfl, by rw [HRE.out]; exact pkRow_nil _ _, HB1.out.trans (HB3.out.mono HB1.out.size)⟩
        | false =>
          have HRE : Hid (R = (cutL (M.copied h.opts).1 m.toNat B.length h B, 0)) := by unfold Hid; rw [HR.out, splitL_cut hm HE.out.symm (by rw [← HSS.out]; exact hf) HD.out.symm]
          generalize cutL (M.copied h.opts).1 m.toNat B.length h B = T at *
          go_enter Try.func17, Try.ntmps17
          go_upto_region 1 with fail
          rw [← HW1.out]
          go_wp2_with (first | (refine wpList_ld 52 ⟨w.heap.size, 0, none⟩ (.tmp 2) rfl rfl HL1.out rfl ?_) | fail)
          refine HFT.out.mono ?_
          rintro _ w2 ⟨rfl, hb2⟩
          have HB2 := hid hb2
          have HL2 := hid (HLD.out _ hb2)
          have HSE2 := hid (HSE.out _ hb2)
          clear hb2
          go_wp2_with (first | (refine wpList_ld 52 ⟨w.heap.size, 0, none⟩ (.tmp 2) rfl rfl HL2.out rfl ?_) | fail)
          refine HSE2.out.mono ?_
          rintro _ w3 ⟨rfl, hb3⟩
          have HB3 : Hid (Below w1.heap.size w1 w3) := HB2.out.trans (hb3.mono HB2.out.size)
          have c2 := HC2.out _ HB3.out
          have HL3 := hid (HLD.out _ HB3.out)
          have HCU3 := hid (HCU.out _ HB3.out hm (by simp))
          clear hb3
          go_wp2_with (first | (refine wpList_ld 52 ⟨w.heap.size, 0, none⟩ (.tmp 2) rfl rfl HL3.out rfl ?_) | fail)
          refine HCU3.out.mono ?_
          rintro _ w4 ⟨v4, rfl, hp4, hb4⟩
          have HP4 := hid hp4
          obtain ⟨a4, c4, rfl, _, _⟩ := hp4.shape
          have HB4 : Hid (Below w.heap.size w w4) := HB1.out.trans ((HB3.out.trans (hb4.mono HB3.out.size)).mono HB1.out.size)
          have HLE : Hid (w.heap.size ≤ w3.heap.size) := Nat.le_trans HB1.out.size HB3.out.size
          clear hp4 hb4 c2
          go_wp2_with fail
          refine bodyPost_ret (results_tmp2 Try.results17 _ _ _) rfl ?_
          exact ⟨_, by rw [HRE.out]; rfl, by rw [HRE.out]; exact HP4.out.low HLE.out, HB4.out⟩
    · have hq : (E != 0) = true := by simp [he]
      have HRE : Hid (R = ([], E)) := by unfold Hid; rw [HR.out, splitL_bad hm (by rw [← HE.out]; exact he), ← HE.out]
      go_enter Try.func17, Try.ntmps17
      go_upto_region 1 with fail
      rw [← HW1.out]
      go_wp2_with (first | (refine wpList_ld 52 ⟨w.heap.size, 0, none⟩ (.tmp 2) rfl rfl HL1.out rfl ?_) | fail)
      refine HFT.out.mono ?_
      rintro _ w2 ⟨rfl, hb2⟩
      go_wp2_with fail
      refine bodyPost_ret (results_tmp2 Try.results17 _ _ _) rfl ?_
      exact ⟨.slice none 0 0, by rw [HRE.out]; rfl, by rw [HRE.out]; exact pkRow_nil _ _, HB1.out.trans (hb2.mono HB1.out.size)⟩
end Go.Proofs.Ytcelcnafcfefhaa.N

namespace Go.Proofs.Ytcelcnafcfefhaa.N
open Go.ChangeShapes Go.WideShapes Go.ChangeAt Go.RowKit
set_option maxRecDepth 100000

structure PcOk (h : Hd) (p : Pk) : Prop where
  ok : p.1.Ok
  re : refE p.1 p.2.length = 0
  src : p.1.src = h.src
  dst : p.1.dst = h.dst
  pr : p.1.proto = h.proto

theorem piece_iff {off : Int} {n : Nat} {more : Bool} : M.pieceOk off n more = true ↔ 0 ≤ off ∧ off ≤ 65528 ∧ off % 8 = 0 ∧ off + (n : Int) ≤ 65535 ∧ (more = true → 0 < n ∧ n % 8 = 0) := by
  unfold M.pieceOk
  cases more <;> simp [and_assoc]
theorem refE_mk {h : Hd} {nb : Nat} (h1 : M.area h.opts = true) (h2 : M.pieceOk h.off nb h.mf = true) (h3 : 20 + h.opts.length + nb ≤ 65535) : refE h nb = 0 := by
  unfold refE
  rw [if_pos h1, if_pos h2, if_pos h3]

theorem cut_pcs {later : List Nat} {mtu : Nat} (hl : M.area later = true) (hm : 68 ≤ mtu) : ∀ (f : Nat) (h : Hd) (B : List Nat), h.Ok → refE h B.length = 0 → B.length ≤ f → later.length ≤ h.opts.length → ∀ p ∈ cutL later mtu f h B, PcOk h p
  | 0, h, B, hok, he, _, _ => fun p hp => by
    simp only [cutL, List.mem_singleton] at hp
    subst hp
    exact ⟨hok, he, rfl, rfl, rfl⟩
  | f + 1, h, B, hok, he, hf, hll => fun p hp => by
    by_cases hfit : 20 + h.opts.length + B.length ≤ mtu
    · rw [cutL, if_pos hfit, List.mem_singleton] at hp
      subst hp
      exact ⟨hok, he, rfl, rfl, rfl⟩
    · obtain ⟨r1, r2, r3⟩ := refE_ok he
      obtain ⟨a1, _⟩ := area_len r1
      obtain ⟨b1, _⟩ := area_len hl
      obtain ⟨o1, o2, o3, o4, o5⟩ := piece_iff.1 r2
      have hrm := rm_pos (h := h) a1 hm
      obtain ⟨q1, _, q3⟩ := rm_le (h := h) hfit
      have q4 : rmOf h mtu < B.length := by unfold rmOf; unfold rmOf at hrm; omega
      rw [cutL, if_neg hfit, List.mem_cons] at hp
      rcases hp with rfl | hp
      · refine ⟨front_ok hok, refE_mk r1 (piece_iff.2 ⟨o1, o2, o3, ?_, fun _ => ?_⟩) ?_, rfl, rfl, rfl⟩
        · show h.off + _ ≤ _
          rw [List.length_take]
          omega
        · rw [List.length_take]
          omega
        · show 20 + h.opts.length + _ ≤ _
          rw [List.length_take]
          omega
      · have hk : (nextH h (rmOf h mtu) later).Ok := next_ok hok (by omega) (by omega)
        have hre : refE (nextH h (rmOf h mtu) later) (B.drop (rmOf h mtu)).length = 0 := by
          rw [List.length_drop]
          refine refE_mk hl (piece_iff.2 ⟨?_, ?_, ?_, ?_, fun hmf => ?_⟩) ?_
          · show 0 ≤ h.off + _
            omega
          · show h.off + _ ≤ 65528
            omega
          · show (h.off + _) % 8 = 0
            omega
          · show h.off + _ + _ ≤ 65535
            omega
          · have := o5 hmf
            omega
          · show 20 + later.length + _ ≤ _
            omega
        have := cut_pcs hl hm f _ _ hk hre (by rw [List.length_drop]; omega) (Nat.le_refl _) p hp
        exact ⟨this.ok, this.re, this.src, this.dst, this.pr⟩

theorem cut_some {later : List Nat} {mtu : Nat} (f : Nat) (h : Hd) (B : List Nat) : cutL later mtu f h B ≠ [] := by
  cases f with
  | zero => simp [cutL]
  | succ f => rw [cutL]; split <;> simp

theorem split_pcs {h : Hd} {B : List Nat} {m : Int} (hok : h.Ok) (hs : (splitL h B m).2 = 0) : (splitL h B m).1 ≠ [] ∧ ∀ p ∈ (splitL h B m).1, PcOk h p := by
  unfold splitL at hs ⊢
  by_cases h1 : m < 68
  · rw [if_pos h1] at hs
    cases hs
  rw [if_neg h1] at hs ⊢
  by_cases h2 : refE h B.length ≠ 0
  · rw [if_pos h2] at hs
    exact absurd hs h2
  rw [if_neg h2] at hs ⊢
  have h2 := Decidable.not_not.1 h2
  by_cases h3 : 20 + h.opts.length + B.length ≤ m.toNat
  · rw [if_pos h3]
    refine ⟨by simp, fun p hp => ?_⟩
    simp only [List.mem_singleton] at hp
    subst hp
    exact ⟨hok, h2, rfl, rfl, rfl⟩
  rw [if_neg h3] at hs ⊢
  by_cases h4 : h.df = true
  · rw [if_pos h4] at hs
    cases hs
  rw [if_neg h4]
  obtain ⟨r1, _, _⟩ := refE_ok h2
  obtain ⟨l1, _, _⟩ := later_area r1
  have hle : (M.copied h.opts).1.length ≤ h.opts.length := by
    obtain ⟨c, z, e1, _, _, _, e5, _, _⟩ := M.copied_once r1
    have e : M.copied h.opts = (M.pad (M.cop h.opts), 0) := by unfold M.copied; rw [if_pos r1]
    rw [e]
    show (M.pad (M.cop h.opts)).length ≤ _
    rw [e1, List.length_append, List.length_replicate]
    exact e5
  exact ⟨cut_some _ _ _, cut_pcs l1 (by omega) _ _ _ hok h2 (Nat.le_refl _) hle⟩

theorem key_built {h : Hd} {B D S : List Nat} (hok : h.Ok) (he : refE h B.length = 0) : keyL ⟨D, S, 2048, builtL h B⟩ = Tn.be4 h.src ++ Tn.be4 h.dst ++ [h.proto] := by
  have hp := parsedB h B [] hok he
  rw [List.append_nil] at hp
  unfold keyL
  simp only [hp]
  rw [if_pos ⟨trivial, trivial⟩]

/-- A piece with another time to live. -/
def ttlH (h : Hd) (t : Nat) : Hd := { h with ttl := t }
theorem ttl_ok {h : Hd} {t : Nat} (hok : h.Ok) (ht : t < 256) : (ttlH h t).Ok := ⟨hok.tos, hok.id, hok.off, ht, hok.proto, hok.src, hok.dst⟩
theorem port_lo (k : List Nat) : 49152 ≤ Tn.port k ∧ Tn.port k < 65536 := by
  unfold Tn.port
  omega
end Go.Proofs.Ytcelcnafcfefhaa.N

namespace Go.Proofs.Ytcelcnafcfefhaa.N
open Go.ChangeShapes Go.WideShapes Go.ChangeAt Go.RowKit
set_option maxHeartbeats 8000000
set_option maxRecDepth 100000

theorem wpList_bd {ops : Array Oper} {Q : Exit → Act → World → Prop} {a : Act} {w : World} {rest : List Oper} {o : Oper} {v : Value} (T : TypeId) (parts : Array (Nat × Operand)) (ps : Array (Nat × Value)) (ho : o.op = .build T parts) (hp : (parts.map fun (i, x) => (i, a.eval x)) = ps)
    (hr : (Instr.build T ps).run Try.prog w = .ok v w) (hw : Region.wanted o (yielded ops a.tmps) = true) (h : wpList Try.prog ops Q rest (a.put o.dst v) w) : wpList Try.prog ops Q (o :: rest) a w := by
  refine wpList_step fun K hK => ?_
  rw [if_pos hw]
  unfold Oper.wp execOp
  simp only [ho, hp, Sem.run_bind, hr, Result.andThen_ok, Sem.run_pure]
  exact hK _ _ h
def Z6 : List Nat := [0, 0, 0, 0, 0, 0]
theorem z6_bytes : ∀ x ∈ Z6, x < 256 := by decide
theorem build_fr0 (p : Option Addr) (n cap : Nat) (L : List Nat) (u : World) : (Instr.build 41 #[(2, .int .u16 2048), (3, .slice p n cap)]).run Try.prog u = .ok (.agg (frCells ⟨Z6, Z6, 2048, L⟩ (.slice p n cap))) u := by
  rw [show frCells ⟨Z6, Z6, 2048, L⟩ (.slice p n cap) = #[.int .u8 0, .int .u8 0, .int .u8 0, .int .u8 0, .int .u8 0, .int .u8 0, .int .u8 0, .int .u8 0, .int .u8 0, .int .u8 0, .int .u8 0, .int .u8 0, .int .u16 2048, .slice p n cap] from rfl]
  kernel_rfl
theorem build_fr6 (x0 x1 x2 x3 x4 x5 y0 y1 y2 y3 y4 y5 : Nat) (p : Option Addr) (n cap : Nat) (L : List Nat) (u : World) : (Instr.build 41 #[(0, .agg #[.int .u8 (x0 : Int), .int .u8 (x1 : Int), .int .u8 (x2 : Int), .int .u8 (x3 : Int), .int .u8 (x4 : Int), .int .u8 (x5 : Int)]), (1, .agg #[.int .u8 (y0 : Int), .int .u8 (y1 : Int), .int .u8 (y2 : Int), .int .u8 (y3 : Int), .int .u8 (y4 : Int), .int .u8 (y5 : Int)]), (2, .int .u16 2048), (3, .slice p n cap)]).run Try.prog u = .ok (.agg (frCells ⟨[x0, x1, x2, x3, x4, x5], [y0, y1, y2, y3, y4, y5], 2048, L⟩ (.slice p n cap))) u := by
  rw [show frCells ⟨[x0, x1, x2, x3, x4, x5], [y0, y1, y2, y3, y4, y5], 2048, L⟩ (.slice p n cap) = #[.int .u8 (x0 : Int), .int .u8 (x1 : Int), .int .u8 (x2 : Int), .int .u8 (x3 : Int), .int .u8 (x4 : Int), .int .u8 (x5 : Int), .int .u8 (y0 : Int), .int .u8 (y1 : Int), .int .u8 (y2 : Int), .int .u8 (y3 : Int), .int .u8 (y4 : Int), .int .u8 (y5 : Int), .int .u16 2048, .slice p n cap] from rfl]
  kernel_rfl
theorem build_fr {D S : List Nat} (hD : D.length = 6) (hS : S.length = 6) (p : Option Addr) (n cap : Nat) (L : List Nat) (u : World) : (Instr.build 41 #[(0, .agg (bs D).toArray), (1, .agg (bs S).toArray), (2, .int .u16 2048), (3, .slice p n cap)]).run Try.prog u = .ok (.agg (frCells ⟨D, S, 2048, L⟩ (.slice p n cap))) u := by
  obtain ⟨x0, x1, x2, x3, x4, x5, rfl⟩ := six hD
  obtain ⟨y0, y1, y2, y3, y4, y5, rfl⟩ := six hS
  exact build_fr6 x0 x1 x2 x3 x4 x5 y0 y1 y2 y3 y4 y5 p n cap L u
theorem mac_load {u : World} {n : Nat} {D : List Nat} {t : TypeId} (hD : D.length = 6) (hb : u.heap[n]? = some (.cells (bs D).toArray t (0, 0))) : (Instr.loadAt 39 (.pointer (some ⟨n, 0, none⟩))).run Try.prog u = .ok (.agg (bs D).toArray) u := by
  have h6 : (Try.prog.info? 39).map (·.size) = some 6 := by kernel_rfl
  refine run_loadAt_mid u n 0 39 (bs D) (.array 6 5) (fun j v hv => ?_) Try.underlying39 rfl (by rw [bs_len, hD]; exact h6)
  rw [Nat.zero_add, cell_of_row _ _ _ _ _ _ hb, ← hv]
  simp

theorem tunnelOneFlow_walk (h : Hd) (vo vb : Value) (B : List Nat) (mt : Int) (D S : List Nat) (w : World) (hok : h.Ok) (hvo : SeesB w vo h.opts) (hvb : SeesB w vb B) (hlo : h.opts.length ≤ 140737488355328) (hlb : B.length ≤ 140737488355328) (hm1 : -9223372036854775808 ≤ mt) (hm2 : mt ≤ 9223372036854775807) (hD : D.length = 6) (hDb : ∀ x ∈ D, x < 256) (hS : S.length = 6) (hSb : ∀ x ∈ S, x < 256) :
    Calls Try.prog 6 #[.agg (pkCells h vo vb), .int .i64 mt, .agg (bs D).toArray, .agg (bs S).toArray] w fun e w' => e = .returned (.bool true) ∧ Below w.heap.size w w' := by
  obtain ⟨ao, no, co, rfl, -, -, -⟩ := hvo.shape
  obtain ⟨ab, nb, cb, rfl, -, -, -⟩ := hvb.shape
  obtain ⟨pk, hpk⟩ : ∃ pk, pk = pkCells h (.slice ao no co) (.slice ab nb cb) := ⟨_, rfl⟩
  obtain ⟨dv, hdv⟩ : ∃ dv, dv = (bs D).toArray := ⟨_, rfl⟩
  obtain ⟨sv, hsv⟩ : ∃ sv, sv = (bs S).toArray := ⟨_, rfl⟩
  obtain ⟨wa, hwa⟩ : ∃ wa, wa = w.alloc (.cells pk 52) := ⟨_, rfl⟩
  obtain ⟨wb, hwb⟩ : ∃ wb, wb = wa.alloc (.cells dv 39) := ⟨_, rfl⟩
  obtain ⟨w1, hw1⟩ : ∃ w1, w1 = wb.alloc (.cells sv 39) := ⟨_, rfl⟩
  have sa : wa.heap.size = w.heap.size + 1 := by rw [hwa]; simp
  have sb : wb.heap.size = w.heap.size + 2 := by rw [hwb]; simp [sa]
  have hba : Below w.heap.size w wa := by rw [hwa]; exact (Below.refl _ _).alloc (Nat.le_refl _) _
  have hbab : Below wa.heap.size wa wb := by rw [hwb]; exact (Below.refl _ _).alloc (Nat.le_refl _) _
  have hbb1 : Below wb.heap.size wb w1 := by rw [hw1]; exact (Below.refl _ _).alloc (Nat.le_refl _) _
  have hb1 : Below w.heap.size w w1 := (hba.trans (hbab.mono hba.size)).trans (hbb1.mono (Nat.le_trans hba.size hbab.size))
  have r1 : w1.heap[w.heap.size]? = some (.cells pk 52 (0, 0)) := (hbb1.block _ (by omega)).trans ((hbab.block _ (by omega)).trans (by rw [hwa]; exact heap_alloc_new w _))
  have r2 : w1.heap[w.heap.size + 1]? = some (.cells dv 39 (0, 0)) := (hbb1.block _ (by omega)).trans (by rw [hwb, ← sa]; exact heap_alloc_new wa _)
  have r3 : w1.heap[w.heap.size + 2]? = some (.cells sv 39 (0, 0)) := by rw [hw1, ← sb]; exact heap_alloc_new wb _
  have HLD : Hid (∀ u, Below w1.heap.size w1 u → (Instr.loadAt 52 (.pointer (some ⟨w.heap.size, 0, none⟩))).run Try.prog u = .ok (.agg pk) u ∧ (Instr.loadAt 39 (.pointer (some ⟨w.heap.size + 1, 0, none⟩))).run Try.prog u = .ok (.agg dv) u ∧ (Instr.loadAt 39 (.pointer (some ⟨w.heap.size + 2, 0, none⟩))).run Try.prog u = .ok (.agg sv) u) := fun u hu => by
    have k1 := (hu.block _ (Array.getElem?_eq_some_iff.1 r1).1).trans r1
    have k2 := (hu.block _ (Array.getElem?_eq_some_iff.1 r2).1).trans r2
    have k3 := (hu.block _ (Array.getElem?_eq_some_iff.1 r3).1).trans r3
    rw [hpk] at k1 ⊢
    rw [hdv] at k2 ⊢
    rw [hsv] at k3 ⊢
    exact ⟨pk_load k1, mac_load hD k2, mac_load hS k3⟩
  have HBD : Hid (∀ u, Below w1.heap.size w1 u → Calls Try.prog 15 #[.agg pk] u fun e w' => ∃ ao n cap, e = .returned (.tuple #[.slice ao n cap, .int .i64 (refE h B.length)]) ∧ SeesB w' (.slice ao n cap) (builtL h B) ∧ Below u.heap.size u w') := fun u hu => by
    rw [hpk]
    exact build_code h _ _ B u hok ((hvo.below hb1).below hu) ((hvb.below hb1).below hu) hlo hlb
  have HSP : Hid (∀ u, Below w1.heap.size w1 u → Calls Try.prog 17 #[.agg pk, .int .i64 mt] u fun e w' => ∃ v', e = .returned (.tuple #[v', .int .i64 (splitL h B mt).2]) ∧ PkRow w' u.heap.size v' (splitL h B mt).1 ∧ Below u.heap.size u w') := fun u hu => by
    rw [hpk]
    exact split_code h _ _ B mt u hok ((hvo.below hb1).below hu) ((hvb.below hb1).below hu) hlo hlb hm1 hm2
  have HB1 := hid hb1
  have HBE := hid (begun_any w1)
  have HW1 : Hid (w1 = ((w.alloc (.cells pk 52)).alloc (.cells dv 39)).alloc (.cells sv 39)) := by unfold Hid; rw [hw1, hwb, hwa]
  have HOK := hid hok
  have HDV := hid hdv
  have HSV := hid hsv
  have HD6 : Hid (D.length = 6 ∧ S.length = 6) := ⟨hD, hS⟩
  have HDB := hid hDb
  have HSB := hid hSb
  rw [← hpk, ← hdv, ← hsv]
  clear hvo hvb hlo hlb hm1 hm2 hok hwa hwb hw1 sa sb hba hbab hbb1 hb1 r1 r2 r3 hpk hdv hsv hD hS hDb hSb
  go_enter Try.func6, Try.ntmps6
  go_upto_region 1 with fail
  rw [← HW1.out]
  go_wp2_with fail
  refine HBE.out.mono ?_
  rintro _ w2 ⟨rfl, hb2⟩
  obtain ⟨l1, -, -⟩ := HLD.out w2 hb2
  have HL1 := hid l1
  have HX := hid (HBD.out w2 hb2)
  have HB2 := hid hb2
  clear hb2 l1 HBE
  go_wp2_with (first
    | (refine wpList_ld 52 ⟨w.heap.size, 0, none⟩ (.tmp 4) rfl rfl HL1.out rfl ?_)
    | fail)
  refine HX.out.mono ?_
  rintro _ w3 ⟨a3, n3, c3, rfl, hs3, hb3⟩
  have HB3 : Hid (Below w1.heap.size w1 w3) := HB2.out.trans (hb3.mono HB2.out.size)
  have HE3 : Hid (Below w.heap.size w w3) := HB1.out.trans (HB3.out.mono HB1.out.size)
  have HS3 := hid hs3
  clear hs3 hb3 HX HL1
  by_cases hre : refE h B.length ≠ 0
  · as_aux_lemma =>
    have q1 : (refE h B.length != 0) = true := by simpa using hre
    have q2 : (refE h B.length == 0) = false := by simpa using hre
    generalize refE h B.length = re at *
    clear hre
    go_wp2_with fail
    go_ret
    exact ⟨rfl, HE3.out⟩
  have hre := Decidable.not_not.1 hre
  rw [hre]
  have HRE := hid hre
  obtain ⟨PT, HPT⟩ : ∃ PT, Hid (PT = Tn.port (Tn.be4 h.src ++ Tn.be4 h.dst ++ [h.proto])) := ⟨_, rfl⟩
  have hpt := port_lo (Tn.be4 h.src ++ Tn.be4 h.dst ++ [h.proto])
  rw [← HPT.out] at hpt
  have hbl : (builtL h B).length ≤ 65535 := by
    obtain ⟨_, x2, _, _⟩ := parse_built h B [] HOK.out hre true
    obtain ⟨_, _, r3⟩ := refE_ok hre
    rw [x2]
    unfold lenOfPk
    exact r3
  have HFL : Hid (Calls Try.prog 16 #[.agg #[.int .u8 0, .int .u8 0, .int .u8 0, .int .u8 0, .int .u8 0, .int .u8 0, .int .u8 0, .int .u8 0, .int .u8 0, .int .u8 0, .int .u8 0, .int .u8 0, .int .u16 2048, .slice a3 n3 c3]] w3 fun e w' => e = .returned (.int .u16 (PT : Int)) ∧ Below w3.heap.size w3 w') := by
    unfold Hid
    rw [HPT.out]
    have h1 := flow_any ⟨Z6, Z6, 2048, builtL h B⟩ (.slice a3 n3 c3) w3 ⟨⟨rfl, rfl, (show 2048 < 65536 by decide)⟩, z6_bytes, z6_bytes⟩ HS3.out (by show (builtL h B).length ≤ _; omega)
    rw [key_built HOK.out hre] at h1
    exact h1
  obtain ⟨PI, HPI⟩ : ∃ PI : Int, Hid (PI = (PT : Int)) := ⟨_, rfl⟩
  rw [← HPI.out] at HFL
  have hp1 : decide (PI < 49152) = false := by rw [HPI.out]; simp; omega
  clear hre hbl hpt
  go_wp2_with fail
  refine HFL.out.mono ?_
  rintro _ w4 ⟨rfl, hb4⟩
  have HB4 : Hid (Below w1.heap.size w1 w4) := HB3.out.trans (hb4.mono HB3.out.size)
  obtain ⟨l1, -, -⟩ := HLD.out w4 HB4.out
  have HL1 := hid l1
  have HX := hid (HSP.out w4 HB4.out)
  clear hb4 l1 HFL
  go_wp2_with (first
    | (refine wpList_ld 52 ⟨w.heap.size, 0, none⟩ (.tmp 4) rfl rfl HL1.out rfl ?_)
    | fail)
  refine HX.out.mono ?_
  rintro _ w5 ⟨v5, rfl, hr5, hb5⟩
  have HB5 : Hid (Below w1.heap.size w1 w5) := HB4.out.trans (hb5.mono HB4.out.size)
  have HE5 : Hid (Below w.heap.size w w5) := HB1.out.trans (HB5.out.mono HB1.out.size)
  obtain ⟨a5, c5, rfl, hn1, hn2⟩ := hr5.shape
  have HR5 := hid hr5
  unfold maxLen at hn2
  clear hr5 hb5 HX HL1
  by_cases hse : (splitL h B mt).2 ≠ 0
  · as_aux_lemma =>
    have q1 : ((splitL h B mt).2 != 0) = true := by simpa using hse
    have q2 : ((splitL h B mt).2 == 0) = false := by simpa using hse
    generalize (splitL h B mt).2 = se at *
    clear hse
    generalize (splitL h B mt).1.length = nl at *
    go_wp2_with fail
    go_ret
    exact ⟨rfl, HE5.out⟩
  have hse := Decidable.not_not.1 hse
  obtain ⟨hne, hpc⟩ := split_pcs HOK.out hse
  rw [hse]
  have HPC := hid hpc
  obtain ⟨ps, hps⟩ : ∃ ps, ps = (splitL h B mt).1 := ⟨_, rfl⟩
  rw [← hps] at hne HPC HR5 hn1 ⊢
  obtain ⟨nl, hnl⟩ : ∃ nl, nl = ps.length := ⟨_, rfl⟩
  have hl0 : nl ≠ 0 := by rw [hnl]; intro hc; exact hne (List.length_eq_zero_iff.1 hc)
  have q0 : ((nl : Int) == 0) = false := by simp; omega
  rw [← hnl] at HR5 hn1 ⊢
  clear hps hne hpc hse hnl
  go_wp2_with fail
  go_loopw [10, 11, 14, 15, 16] (fun _ _ i _ _ wr => ∃ k : Nat, i = .int .i64 (k : Int) ∧ k ≤ nl ∧ Hid (Below w5.heap.size w5 wr)) (fun _ _ i _ _ _ => nl - (intOf i).toNat)
  case atStart => exact ⟨0, rfl, Nat.zero_le _, Below.refl _ _⟩
  case round =>
    obtain ⟨k, rfl, hk, HB⟩ := hrel
    by_cases hlt : k < nl
    · as_aux_lemma =>
      obtain ⟨g, p, vq, vr, rfl, hg, hld, HPJ⟩ := HR5.out.at k hlt
      obtain ⟨l1, s1, s2⟩ := hld wr HB.out
      have hp := HPC.out p (List.mem_of_getElem? HPJ.out)
      obtain ⟨aq, nq, cq, rfl, -, -, -⟩ := s1.shape
      obtain ⟨ar, nr, cr, rfl, -, -, -⟩ := s2.shape
      obtain ⟨qc, hqc⟩ : ∃ qc, qc = pkCells p.1 (.slice aq nq cq) (.slice ar nr cr) := ⟨_, rfl⟩
      rw [← hqc] at l1
      have HLQ := hid l1
      have HQC := hid hqc
      have HALQ : Hid (qc.all (·.oneCell') = true) := by unfold Hid; rw [hqc]; exact all_pk _ _ _ _ _ _ _
      have HSZQ : Hid (qc.size = 11) := by unfold Hid; rw [hqc]; rfl
      have HZQ : Hid ((wr.alloc (.cells Z29 52)).heap[wr.heap.size]? = some (.cells Z29 52)) := heap_alloc_new wr _
      have HS1 := hid s1
      have HS2 := hid s2
      have HP := hid hp
      have e0 : (k : Int) < (nl : Int) := by omega
      have e1 : (0 : Int) ≤ (k : Int) := by omega
      clear l1 hqc s1 s2 hp hld
      go_upto_region 19 with (first | (refine wpList_ld 52 ⟨g, k * 11, none⟩ (.tmp 51) rfl rfl HLQ.out rfl ?_) | (refine wpList_st rfl 52 (.tmp 15) (.tmp 52) rfl wr.heap.size qc rfl rfl 52 Z29 HZQ.out (by rw [HSZQ.out]; exact sz29) (by rw [HSZQ.out]; rfl) HALQ.out ?_; intro w6 hk6 hbut6) | fail)
      obtain ⟨tt, htt, ht256⟩ : ∃ tt : Nat, (k : Int) % 256 = (tt : Int) ∧ tt < 256 := ⟨k % 256, by omega, Nat.mod_lt _ (by omega)⟩
      have hb6 : Below wr.heap.size wr w6 := hbut6.below ((Below.refl _ _).alloc (Nat.le_refl _) _) (by simp) (Nat.le_refl _)
      rw [HQC.out] at hk6
      have HK6 := hid hk6
      have HB6 := hid hb6
      obtain ⟨qb, hqb⟩ : ∃ qb, qb = wr.heap.size := ⟨_, rfl⟩
      have HQL : Hid (wr.heap.size ≤ qb) := by unfold Hid; rw [hqb]; exact Nat.le_refl _
      rw [← hqb] at HK6 ⊢
      clear hqb hk6 hbut6 hb6 HZQ HALQ HSZQ HLQ
      have x5 : w6.cell? ⟨qb, 5, none⟩ = some (.int .u8 (p.1.ttl : Int)) := pk_at HK6.out 5 (by omega)
      have z5 : w6.frozen? ⟨qb, 5, none⟩ = false := frozen_of_row _ _ _ _ _ HK6.out
      have m5 := (Array.getElem?_eq_some_iff.1 HK6.out).1
      go_upto_region 20 with fail
      obtain ⟨w7, hw7⟩ : ∃ w7, w7 = w6.setCell ⟨qb, 5, none⟩ (.int .u8 (tt : Int)) := ⟨_, rfl⟩
      have hk7 : w7.heap[qb]? = some (.cells (pkCells (ttlH p.1 tt) (.slice aq nq cq) (.slice ar nr cr)) 52 (0, 0)) := by
        rw [hw7]
        have h1 := heap_setCell_same w6 qb 5 _ 52 (.int .u8 (tt : Int)) HK6.out
        rw [h1]
        rfl
      have hb7 : Below wr.heap.size wr w7 := by rw [hw7]; exact HB6.out.setCell (p := ⟨qb, 5, none⟩) HQL.out _
      rw [← hw7]
      clear x5 z5 m5 hw7
      have HL7 := hid (pk_load hk7)
      have HB57 : Hid (Below w5.heap.size w5 w7) := HB.out.trans (hb7.mono HB.out.size)
      have hok7 := ttl_ok HP.out.ok ht256
      have hre7 : refE (ttlH p.1 tt) p.2.length = 0 := HP.out.re
      obtain ⟨q1, q2, q3⟩ := refE_ok hre7
      have hpl : p.2.length ≤ 65535 := by omega
      have HBC := hid (build_code (ttlH p.1 tt) _ _ p.2 w7 hok7 (HS1.out.below hb7) (HS2.out.below hb7) (by have := (area_len q1).1; omega) (by omega))
      rw [hre7] at HBC
      obtain ⟨qd, hqd⟩ : ∃ qd, qd = pkCells (ttlH p.1 tt) (.slice aq nq cq) (.slice ar nr cr) := ⟨_, rfl⟩
      rw [← hqd] at HL7 HBC
      have HOK7 := hid hok7
      have HRE7 := hid hre7
      have HPT7 : Hid (PT = Tn.port (Tn.be4 (ttlH p.1 tt).src ++ Tn.be4 (ttlH p.1 tt).dst ++ [(ttlH p.1 tt).proto])) := by
        unfold Hid
        rw [HPT.out, show (ttlH p.1 tt).src = h.src from HP.out.src, show (ttlH p.1 tt).dst = h.dst from HP.out.dst, show (ttlH p.1 tt).proto = h.proto from HP.out.pr]
      have HPL2 := hid hpl
      clear hk7 hb7 hok7 hre7 q1 q2 q3 hpl hqd htt ht256 HK6 HB6 HQL HS1 HS2 HP
      go_wp2_with (first | (refine wpList_ld 52 ⟨qb, 0, none⟩ (.tmp 15) rfl rfl HL7.out rfl ?_) | fail)
      refine HBC.out.mono ?_
      rintro _ w8 ⟨a8, n8, c8, rfl, hs8, hb8⟩
      have HB58 : Hid (Below w5.heap.size w5 w8) := HB57.out.trans (hb8.mono HB57.out.size)
      obtain ⟨-, l2, l3⟩ := HLD.out w8 (HB5.out.trans (HB58.out.mono HB5.out.size))
      have HL2 := hid l2
      have HL3 := hid l3
      have hbl : (builtL (ttlH p.1 tt) p.2).length ≤ 65535 := by
        obtain ⟨_, x2, _, _⟩ := parse_built (ttlH p.1 tt) p.2 [] HOK7.out HRE7.out true
        obtain ⟨_, _, r3⟩ := refE_ok HRE7.out
        rw [x2]
        unfold lenOfPk
        exact r3
      obtain ⟨fz, hfz⟩ : ∃ fz, fz = frCells ⟨D, S, 2048, builtL (ttlH p.1 tt) p.2⟩ (.slice a8 n8 c8) := ⟨_, rfl⟩
      have HBF : Hid ((Instr.build 41 #[(0, .agg dv), (1, .agg sv), (2, .int .u16 2048), (3, .slice a8 n8 c8)]).run Try.prog w8 = .ok (.agg fz) w8) := by
        unfold Hid
        rw [hfz, HDV.out, HSV.out]
        exact build_fr HD6.out.1 HD6.out.2 a8 n8 c8 _ w8
      have HFL : Hid (Calls Try.prog 16 #[.agg fz] w8 fun e w' => e = .returned (.int .u16 PI) ∧ Below w8.heap.size w8 w') := by
        unfold Hid
        rw [hfz, HPI.out, HPT7.out]
        have h1 := flow_any ⟨D, S, 2048, builtL (ttlH p.1 tt) p.2⟩ (.slice a8 n8 c8) w8 ⟨⟨HD6.out.1, HD6.out.2, (show 2048 < 65536 by decide)⟩, HDB.out, HSB.out⟩ hs8 (by show (builtL (ttlH p.1 tt) p.2).length ≤ _; omega)
        rwa [key_built HOK7.out HRE7.out] at h1
      clear hs8 hb8 l2 l3 hbl hfz HBC HL7
      go_wp2_with (first
        | (refine wpList_ld 39 ⟨w.heap.size + 1, 0, none⟩ (.tmp 6) rfl rfl HL2.out rfl ?_)
        | (refine wpList_ld 39 ⟨w.heap.size + 2, 0, none⟩ (.tmp 7) rfl rfl HL3.out rfl ?_)
        | (refine wpList_bd 41 #[(0, .tmp 64), (1, .tmp 65), (2, .const (.int .u16 2048)), (3, .tmp 66)] #[(0, .agg dv), (1, .agg sv), (2, .int .u16 2048), (3, .slice a8 n8 c8)] rfl (by simp only [List.map_toArray, List.map_cons, List.map_nil]; rfl) HBF.out rfl ?_)
        | fail)
      refine HFL.out.mono ?_
      rintro _ w9 ⟨rfl, hb9⟩
      have HB9 : Hid (Below w5.heap.size w5 w9) := HB58.out.trans (hb9.mono HB58.out.size)
      clear hb9
      go_wp2_with fail
      go_roundw
      case rel => exact ⟨k + 1, by go_num, by omega, HB9⟩
      case measure => simp [intOf]; omega
    · as_aux_lemma =>
      have e0 : ¬ (k : Int) < (nl : Int) := by omega
      have HF : Hid (Below w.heap.size w wr) := HE5.out.trans (HB.out.mono HE5.out.size)
      go_wp2_with fail
      go_ret
      exact ⟨rfl, HF.out⟩
end Go.Proofs.Ytcelcnafcfefhaa.N
