/-
  The law's few, plus.
-/
import Derived.Test.YteoebmpfdcbbmaaDoorFC
namespace Go.Proofs.YteoebmpfdcbbmaaDoor
open Go.ChangeShapes Go.WideShapes Go.ChangeAt Go.RowKit Jn N
set_option maxHeartbeats 4000000
set_option maxRecDepth 100000

theorem RecsAt.mono {w0 u : World} {B B' : Nat} {v : Value} {Ls : List (List Nat)} (h : RecsAt w0 B u v Ls) (hb : B' ≤ B) : RecsAt w0 B' u v Ls := by
  obtain ⟨Vs, h1, h2, h3⟩ := h
  exact ⟨Vs, h1.mono hb, h2, h3⟩
/-- append of one record. -/
theorem RecsAt.add {w0 u : World} {B : Nat} {v x : Value} {Ls : List (List Nat)} {L : List Nat} (h : RecsAt w0 B u v Ls) (hx : SeesB w0 x L) (hB : B ≤ u.heap.size) (hk : Ls.length + 1 ≤ 4294967296) :
    ∃ v' u', (Builtin.append_ #[22, 22] 22 #[v, .slice (some ⟨u.heap.size, 0, none⟩) 1 1]).run Tryd.prog (u.alloc (.cells #[x] 31)) = .ok v' u' ∧ RecsAt w0 B u' v' (Ls ++ [L]) ∧ Below B u u' := by
  obtain ⟨Vs, h1, h2, h3⟩ := h
  have hb : Below u.heap.size u (u.alloc (.cells #[x] 31)) := (Below.refl _ _).alloc (Nat.le_refl _) _
  have hc : (u.alloc (.cells #[x] 31)).cell? ⟨u.heap.size, 0, none⟩ = some x := by rw [cell_of_row _ _ _ _ _ _ (heap_alloc_new u _)]; rfl
  obtain ⟨a, n, c, rfl, -, -, -⟩ := hx.shape
  obtain ⟨v', u', hr, ho, hg, -, -⟩ := append_one _ 22 B u.heap.size v _ Vs (h1.below hb) hc ⟨_, _, _, rfl⟩ (Nat.le_trans hB hb.size) (by omega)
  refine ⟨v', u', hr, ⟨_, ho, by simp [h2], fun i y M hy hM => ?_⟩, ((hb.mono hB).grown hg (Nat.le_trans hB hb.size) (fun k hk => (World.ownsRow.lt (h1.below hb) k hk).1))⟩
  by_cases hi : i < Vs.length
  · rw [List.getElem?_append_left hi] at hy
    rw [List.getElem?_append_left (by omega)] at hM
    exact h3 i y M hy hM
  · rw [List.getElem?_append_right (by omega)] at hy hM
    rw [h2] at hy
    rcases hj : i - Ls.length with _ | j
    · rw [hj] at hy hM
      simp at hy hM
      rw [← hy, ← hM]; exact hx
    · rw [hj] at hy; simp at hy

/-- few: a front of a list whose frames fit n bytes. -/
theorem few_any (v : Value) (Ls : List (List Nat)) (n : Nat) (w u : World) (hv : SeesBB w v Ls) (hb : Below w.heap.size w u) (hn : n ≤ 1000000) (hL : ∀ L ∈ Ls, L.length ≤ 140737488355328) :
    Calls Tryd.prog 20 #[v, .int .i64 (n : Int)] u fun e u' => ∃ v' m, e = .returned v' ∧ RecsAt w u.heap.size u' v' (Ls.take m) ∧ baseL (Ls.take m) ≤ n ∧ Below u.heap.size u u' := by
  obtain ⟨ao, len, cap, rfl, HN, hn1, hn2⟩ := hv.shape
  unfold maxLen at hn2
  have HV := hid hv
  have HB := hid hb
  have HL := hid hL
  clear hv hb hL
  go_enter Tryd.func20, Tryd.ntmps20
  go_wp2_with fail
  go_loopw [1, 5, 6] (fun q r i wr => ∃ (k m : Nat), i = .int .i64 (k : Int) ∧ k ≤ len ∧ q = .int .i64 (m : Int) ∧ m ≤ 1000000 ∧ Hid (m + baseL (Ls.take k) = n) ∧ Hid (RecsAt w u.heap.size wr r (Ls.take k)) ∧ Hid (Below u.heap.size u wr)) (fun _ _ i _ => len - (intOf i).toNat)
  case atStart => exact ⟨0, n, rfl, Nat.zero_le _, rfl, hn, by unfold Hid; simp [baseL], RecsAt.nil _ _ _, Below.refl _ _⟩
  case round =>
    obtain ⟨k, m, rfl, hk, rfl, hm, HM, HR, HU⟩ := hrel
    obtain ⟨ar, nr, cr, rfl, HNR⟩ := HR.out.shape
    by_cases hlt : k < len
    · have hWr : Below w.heap.size w wr := HB.out.trans (HU.out.mono HB.out.size)
      obtain ⟨g, off, x, L, rfl, hg, hc, hx, HX⟩ := HV.out.at k hlt
      have hc' : wr.cell? ⟨g, off + k, none⟩ = some x := (hWr.cell (p := ⟨g, off + k, none⟩) hg).trans hc
      have HSX := hid hx
      obtain ⟨ax, nx, cx, rfl, HNX, hx1, hx2⟩ := hx.shape
      unfold maxLen at hx2
      have hnx : nx ≤ 140737488355328 := by rw [HNX.out]; exact HL.out L (List.mem_of_getElem? HX.out)
      have HS2 : Hid (baseL (Ls.take (k + 1)) = baseL (Ls.take k) + (12 + nx)) := by
        unfold Hid; rw [take_snoc HX.out, baseL_append, HNX.out]; simp [baseL]
      by_cases hfit : 12 + nx ≤ m
      · have hkl : (Ls.take k).length + 1 ≤ 4294967296 := by
          have h1 : ∀ qs : List (List Nat), 12 * qs.length ≤ baseL qs := fun qs => by
            induction qs with
            | nil => simp
            | cons q qs ih => simp [baseL] at *; omega
          have := h1 (Ls.take k)
          have := HM.out
          omega
        obtain ⟨v', w2, hap, hrec, hb2⟩ := HR.out.add HSX.out HU.out.size hkl
        obtain ⟨w1, HW1⟩ : ∃ w1, Hid (w1 = wr.alloc (.cells #[.slice ax nx cx] 31)) := ⟨_, rfl⟩
        rw [← HW1.out] at hap
        have HAP := hid hap
        have HR2 : Hid (RecsAt w u.heap.size w2 v' (Ls.take (k + 1))) := by unfold Hid; rw [take_snoc HX.out]; exact hrec
        have HU2 : Hid (Below u.heap.size u w2) := HU.out.trans hb2
        have HM2 : Hid ((m - 12 - nx) + baseL (Ls.take (k + 1)) = n) := by have := HS2.out; have := HM.out; unfold Hid; omega
        have q1 : (12 : Int) + (nx : Int) ≤ (m : Int) := by omega
        obtain ⟨a', n', c', rfl, -⟩ := HR2.out.shape
        clear hap hrec hb2 hx hkl hWr
        go_upto_region 4 with (at_builtin; rw [← HW1.out]; refine wpList_append_run _ rfl _ _ 22 22 rfl _ _ rfl rfl HAP.out ?_)
        go_wp2_with fail
        go_roundw
        case rel => exact ⟨k + 1, m - 12 - nx, by go_num, by omega, by go_num, by omega, HM2, HR2, HU2⟩
        case measure => simp [intOf]; omega
      · have q1 : ¬ (12 : Int) + (nx : Int) ≤ (m : Int) := by omega
        clear hx hWr
        go_wp2_with fail
        go_ret
        exact ⟨_, rfl, k, HR.out, by have := HM.out; omega, HU.out⟩
    · go_wp2_with fail
      go_ret
      exact ⟨_, k, rfl, HR.out, by have := HM.out; omega, HU.out⟩

/-- plus: one record more, in a new list. -/
theorem plus_any (v x : Value) (Ls : List (List Nat)) (L : List Nat) (B : Nat) (w u : World) (hv : RecsAt w B u v Ls) (hx : SeesB w x L) (hl : Ls.length + 1 ≤ 1000000) :
    Calls Tryd.prog 22 #[v, x] u fun e u' => ∃ v', e = .returned v' ∧ RecsAt w u.heap.size u' v' (Ls ++ [L]) ∧ Below u.heap.size u u' := by
  obtain ⟨Vs, ho, hvl, hvs⟩ := hv
  have HX := hid hx
  obtain ⟨ax, nx, cx, rfl, -, -, -⟩ := hx.shape
  obtain ⟨av, len, cv, rfl, HN, hn1, hn2⟩ := ho.shape
  have HO := hid ho
  have HVS := hid hvs
  have hlen : len + 1 ≤ 1000000 := by have := HN.out; omega
  have HLL : Hid (Ls.length = len) := by have := HN.out; unfold Hid; omega
  clear ho hvs hx hvl hl
  go_enter Tryd.func22, Tryd.ntmps22
  go_wp2_with fail
  go_loopw [5, 6] (fun r i wr => ∃ (k : Nat), i = .int .i64 (k : Int) ∧ k ≤ len ∧ Hid (RecsAt w u.heap.size wr r (Ls.take k)) ∧ Hid (Below u.heap.size u wr)) (fun _ i _ => len - (intOf i).toNat)
  case atStart => exact ⟨0, rfl, Nat.zero_le _, RecsAt.nil _ _ _, Below.refl _ _⟩
  case round =>
    obtain ⟨k, rfl, hk, HR, HU⟩ := hrel
    obtain ⟨ar, nr, cr, rfl, HNR⟩ := HR.out.shape
    by_cases hlt : k < len
    · have hkV : k < Vs.length := by have := HN.out; omega
      have hkL : k < Ls.length := by have := HLL.out; omega
      obtain ⟨y, hVk⟩ : ∃ y, Vs[k]? = some y := ⟨_, List.getElem?_eq_getElem hkV⟩
      obtain ⟨Lk, hLk⟩ : ∃ y, Ls[k]? = some y := ⟨_, List.getElem?_eq_getElem hkL⟩
      have hsx := HVS.out k _ _ hVk hLk
      obtain ⟨g, rfl, -, hg, hcell⟩ := HO.out.at hVk
      have hc' : wr.cell? ⟨g, k, none⟩ = some y := hcell wr (HU.out.block g hg)
      obtain ⟨v', w2, hap, hrec, hb2⟩ := HR.out.add hsx HU.out.size (by rw [List.length_take]; omega)
      obtain ⟨w1, HW1⟩ : ∃ w1, Hid (w1 = wr.alloc (.cells #[y] 31)) := ⟨_, rfl⟩
      obtain ⟨ay, ny, cy, rfl, -, -, -⟩ := hsx.shape
      rw [← HW1.out] at hap
      have HAP := hid hap
      have HR2 : Hid (RecsAt w u.heap.size w2 v' (Ls.take (k + 1))) := by unfold Hid; rw [take_snoc hLk]; exact hrec
      have HU2 : Hid (Below u.heap.size u w2) := HU.out.trans hb2
      obtain ⟨a', n', c', rfl, -⟩ := HR2.out.shape
      clear hap hrec hb2 hsx hcell hVk hLk hkV hkL
      go_upto_region 4 with (at_builtin; rw [← HW1.out]; refine wpList_append_run _ rfl _ _ 22 22 rfl _ _ rfl rfl HAP.out ?_)
      go_wp2_with fail
      go_roundw
      case rel => exact ⟨k + 1, by go_num, by omega, HR2, HU2⟩
      case measure => simp [intOf]; omega
    · have hr := HR.out
      rw [List.take_of_length_le (by have := HLL.out; omega)] at hr
      obtain ⟨v', w2, hap, hrec, hb2⟩ := hr.add HX.out HU.out.size (by have := HLL.out; omega)
      obtain ⟨w1, HW1⟩ : ∃ w1, Hid (w1 = wr.alloc (.cells #[.slice ax nx cx] 31)) := ⟨_, rfl⟩
      rw [← HW1.out] at hap
      have HAP := hid hap
      have HR2 := hid hrec
      have HU2 : Hid (Below u.heap.size u w2) := HU.out.trans hb2
      obtain ⟨a', n', c', rfl, -⟩ := HR2.out.shape
      clear hap hrec hb2 hr
      go_wp2_with (at_builtin; rw [← HW1.out]; refine wpList_append_run _ rfl _ _ 22 22 rfl _ _ rfl rfl HAP.out ?_)
      go_wp2_with fail
      go_ret
      exact ⟨_, rfl, HR2.out, HU2.out⟩
end Go.Proofs.YteoebmpfdcbbmaaDoor
