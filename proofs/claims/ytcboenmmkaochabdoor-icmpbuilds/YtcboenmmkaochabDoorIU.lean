import Derived.Test.YtcboenmmkaochabDoorNI
import Derived.Test.YtcboenmmkaochabDoorNJ
import Derived.Test.YtcboenmmkaochabDoorIG
namespace Go.Proofs.YtcboenmmkaochabDoor.N
open Go.ChangeShapes Go.WideShapes Go.ChangeAt Go.RowKit
set_option maxHeartbeats 400000
set_option maxRecDepth 100000

def Z58i : Array Value := #[.int .i64 0, .slice none 0 0, .int .u8 0, .int .u8 0, .int .u32 0, .slice none 0 0, .int .u8 0, .int .u16 0, .bool false, .bool false, .int .i64 0, .int .u8 0, .int .u8 0, .int .u32 0, .int .u32 0, .slice none 0 0, .slice none 0 0, .int .u8 0, .int .u8 0, .int .i64 0, .int .u32 0]

theorem und58i : ∃ fs, Tryd.prog.underlying 37 = some (.struct fs) := ⟨_, Tryd.underlying37⟩
theorem size58i : (Tryd.prog.info? 37).map (·.size) = some 21 := by kernel_rfl

theorem range_load58i {w : World} {b o : Nat} {cs : List Value} (h : w.rangeAt b o cs) (hl : cs.length = 21) : (Instr.loadAt 37 (.pointer (some ⟨b, o, none⟩))).run Tryd.prog w = .ok (.agg cs.toArray) w := by
  obtain ⟨fs, hu⟩ := und58i
  exact run_loadAt_mid w b o 37 cs (.struct fs) h hu rfl (by rw [size58i, hl])

/-- The cells of a step, and its kind. -/
structure StepI (cs : List Value) (k : Int) : Prop where
  len : cs.length = 21
  kind : cs[0]? = some (.int .i64 k)
  one : ∀ v ∈ cs, v.oneCell' = true
  lo : -9223372036854775808 ≤ k
  hi : k ≤ 9223372036854775807

/-- The slice value v shows the steps L. -/
def SeesP (w : World) (v : Value) (L : List (List Value × Int)) : Prop :=
  ∃ ao cap, v = .slice ao L.length cap ∧ L.length ≤ cap ∧ cap ≤ maxLen ∧
    ∀ j (h : j < L.length), StepI L[j].1 L[j].2 ∧ ∃ g off, ao = some ⟨g, off, none⟩ ∧ g < w.heap.size ∧ w.rangeAt g (off + j * 21) L[j].1

set_option maxHeartbeats 2000000 in
theorem upTo6_any (v : Value) (lo hi : Nat) (L : List (List Value × Int)) (w : World) (hv : SeesP w v L) (_hlo : lo ≤ 10) (hhi : hi ≤ 10) (hlh : lo ≤ hi)
    (hh : ∀ k : Nat, lo ≤ k → k ≤ hi → ∀ u, Below w.heap.size w u → Calls Tryd.prog 10 #[.int .i64 (k : Int)] u fun e w' => e = .returned (.bool true) ∧ Below u.heap.size u w')
    (hp : ∀ j (h : j < L.length), (lo : Int) ≤ L[j].2 → L[j].2 ≤ (hi : Int) → ∀ u, Below w.heap.size w u → Calls Tryd.prog 11 #[.agg L[j].1.toArray] u fun e w' => e = .returned (.bool true) ∧ Below u.heap.size u w') :
    Calls Tryd.prog 9 #[v, .int .i64 (lo : Int), .int .i64 (hi : Int)] w fun e w' => e = .returned (.bool true) ∧ Below w.heap.size w w' := by
  obtain ⟨ao, cap, rfl, hnc, hcap, hcell⟩ := hv
  have HC := hid hcell
  have HH := hid hh
  have HP := hid hp
  obtain ⟨n, hn⟩ : ∃ n, n = L.length := ⟨_, rfl⟩
  rw [← hn] at hnc ⊢
  have HN := hid hn
  unfold maxLen at hcap
  clear hcell hh hp hn
  go_enter Tryd.func9, Tryd.ntmps9
  go_wp2_with fail
  go_loopw [7] (fun i wr => ∃ k : Nat, i = .int .i64 k ∧ lo ≤ k ∧ k ≤ hi + 1 ∧ Below w.heap.size w wr) (fun i _ => hi + 1 - (intOf i).toNat)
  case atStart => exact ⟨lo, rfl, by omega, by omega, Below.refl _ _⟩
  case round =>
    obtain ⟨k, rfl, hk1, hk2, hb⟩ := hrel
    by_cases hle : k ≤ hi
    · go_wp2_with fail
      refine (HH.out k hk1 hle _ hb).mono ?_
      rintro _ w1 ⟨rfl, hb1⟩
      have hb2 := hb.trans (hb1.mono hb.size)
      clear hb1
      go_wp2_with fail
      go_roundw
      case rel => exact ⟨k + 1, by go_num, by omega, by omega, hb2⟩
      case measure => simp [intOf]; omega
    · go_wp2_with fail
      go_loopw [8, 9] (fun i _ wv => ∃ (j : Nat) (wr : World), i = .int .i64 j ∧ j ≤ n ∧ wr = wv ∧ Below w.heap.size w wr) (fun i _ _ => n - (intOf i).toNat)
      case atStart => exact ⟨0, _, rfl, by omega, rfl, hb⟩
      case round =>
        clear hb
        obtain ⟨j, wr, rfl, hj, rfl, hbr⟩ := hrel
        by_cases hjn : j < n
        case neg =>
          go_wp2_with fail
          go_ret
          exact ⟨rfl, hbr⟩
        obtain ⟨hst, g, off, rfl, hg, hrange⟩ := HC.out j (by have := HN.out; omega)
        have HPJ := hid (HP.out j (by have := HN.out; omega))
        generalize L[j]'(by have := HN.out; omega) = ck at hst hrange HPJ
        obtain ⟨cs, kd⟩ := ck
        simp only at hst hrange HPJ
        obtain ⟨hl, hkd, hone, hk3, hk4⟩ := hst
        obtain ⟨wz, hwz⟩ : ∃ wz, wz = wr.alloc (.cells Z58i 37) := ⟨_, rfl⟩
        have hrow : wz.heap[wr.heap.size]? = some (.cells Z58i 37 (0, 0)) := by rw [hwz]; exact heap_alloc_new wr _
        have hth : wz.there wr.heap.size 0 cs.toArray.size := fun i hi => by
          have hi' : i < 21 := by simpa [hl] using hi
          refine ⟨?_, by rw [Nat.zero_add]; exact frozen_of_row _ _ _ _ _ hrow⟩
          rw [Nat.zero_add, cell_of_row _ _ _ _ _ _ hrow, Array.getElem?_eq_getElem (by exact hi' : i < Z58i.size)]; rfl
        have hinf : (Tryd.prog.info? 37).map (·.size) = some cs.toArray.size := by rw [size58i]; simp [hl]
        obtain ⟨w2, hw2⟩ : ∃ w2, w2 = wz.setCells wr.heap.size 0 cs := ⟨_, rfl⟩
        have hrg2 : w2.rangeAt wr.heap.size 0 cs := by rw [hw2]; exact World.rangeAt_setCells_same wz _ 0 _ (by simpa using hth)
        have hb12 : Below wr.heap.size wr w2 := by
          rw [hw2]; refine below_setCells (Nat.le_refl _) _ _ _ ?_
          rw [hwz]; exact (Below.refl _ _).alloc (Nat.le_refl _) _
        have hbr2 : Below w.heap.size w w2 := hbr.trans (hb12.mono hbr.size)
        have HLD0 := hid (range_load58i (range_below hrange hbr) hl)
        have HLD2 := hid (range_load58i hrg2 hl)
        have c0 : w2.cell? ⟨wr.heap.size, 0, none⟩ = some (.int .i64 kd) := hrg2 0 _ hkd
        have HONE := hid (all_oneCell_toArray hone)
        have HTH := hid hth
        have HINF := hid hinf
        have HW2 := hid hw2
        have HWZ := hid hwz
        have HBR2 := hid hbr2
        clear hwz hrow hth hinf hw2 hrg2 hb12 hbr2 hrange hl hkd hone hbr
        unfold Z58i at HWZ
        have hj0 : (0 : Int) ≤ (j : Int) := by omega
        have hj1 : (j : Int) < (n : Int) := by omega
        go_upto_region 10 with (first
          | (refine wpList_ld 37 ⟨g, off + j * 21, none⟩ (.tmp 27) rfl rfl HLD0.out rfl ?_)
          | (refine wpList_store_mid rfl 37 (.tmp 9) (.tmp 28) rfl wr.heap.size 0 cs.toArray rfl rfl (by rw [← HWZ.out]; exact HTH.out) HINF.out HONE.out ?_)
          | fail)
        rw [← HWZ.out, ← HW2.out]
        by_cases h1 : (lo : Int) ≤ kd
        · by_cases h2 : kd ≤ (hi : Int)
          · go_wp2_with (first | (refine wpList_ld 37 ⟨wr.heap.size, 0, none⟩ (.tmp 9) rfl rfl HLD2.out rfl ?_) | fail)
            refine (HPJ.out h1 h2 _ HBR2.out).mono ?_
            rintro _ w3 ⟨rfl, hb3⟩
            have hb4 := HBR2.out.trans (hb3.mono HBR2.out.size)
            clear hb3
            go_wp2_with fail
            go_roundw
            case rel => exact ⟨j + 1, w3, by go_num, by omega, rfl, hb4⟩
            case measure => simp [intOf]; omega
          · go_wp2_with fail
            go_roundw
            case rel => exact ⟨j + 1, w2, by go_num, by omega, rfl, HBR2.out⟩
            case measure => simp [intOf]; omega
        · go_wp2_with fail
          go_roundw
          case rel => exact ⟨j + 1, w2, by go_num, by omega, rfl, HBR2.out⟩
          case measure => simp [intOf]; omega
end Go.Proofs.YtcboenmmkaochabDoor.N
