import Derived.Test.YtjjmopmdiflffacH
namespace Go.Proofs.Ytjjmopmdiflffac
open Go.ChangeShapes Go.WideShapes Go.ChangeAt Go.RowKit
set_option maxHeartbeats 400000
set_option maxRecDepth 100000

def Z58 : Array Value := #[.int .i64 0, .slice none 0 0, .slice none 0 0, .int .u16 0, .int .u16 0, .int .u16 0, .int .u8 0, .int .u16 0, .bool false, .bool false, .int .i64 0, .int .u8 0, .int .u8 0, .int .u32 0, .int .u32 0, .slice none 0 0, .slice none 0 0]

theorem und58 : ∃ fs, Try.prog.underlying 45 = some (.struct fs) := ⟨_, Try.underlying45⟩
theorem size58 : (Try.prog.info? 45).map (·.size) = some 17 := by kernel_rfl

theorem below_setCells {B b : Nat} {a : World} (hb : B ≤ b) : ∀ (vs : List Value) (o : Nat) (w : World), Below B a w → Below B a (w.setCells b o vs)
  | [], _, _, h => h
  | v :: vs, o, w, h => by
    rw [World.setCells]
    exact below_setCells hb vs (o + 1) _ (h.setCell (p := ⟨b, o, none⟩) hb v)

theorem range_load58 {w : World} {b o : Nat} {cs : List Value} (h : w.rangeAt b o cs) (hl : cs.length = 17) : (Instr.loadAt 45 (.pointer (some ⟨b, o, none⟩))).run Try.prog w = .ok (.agg cs.toArray) w := by
  obtain ⟨fs, hu⟩ := und58
  exact run_loadAt_mid w b o 45 cs (.struct fs) h hu rfl (by rw [size58, hl])

theorem range_below {w w' : World} {b o : Nat} {cs : List Value} (h : w.rangeAt b o cs) (hb : Below w.heap.size w w') : w'.rangeAt b o cs := fun j v hv => by
  have := h j v hv
  exact (hb.cell (p := ⟨b, o + j, none⟩) (World.block_lt_of_cell? w _ this)).trans this

/-- The cells of a step, and its kind. -/
structure StepIs (cs : List Value) (k : Int) : Prop where
  len : cs.length = 17
  kind : cs[0]? = some (.int .i64 k)
  one : ∀ v ∈ cs, v.oneCell' = true
  lo : -9223372036854775808 ≤ k
  hi : k ≤ 9223372036854775807

/-- The slice value v shows the steps L. -/
def SeesO (w : World) (v : Value) (L : List (List Value × Int)) : Prop :=
  ∃ ao cap, v = .slice ao L.length cap ∧ L.length ≤ cap ∧ cap ≤ maxLen ∧
    ∀ j (h : j < L.length), StepIs L[j].1 L[j].2 ∧ ∃ g off, ao = some ⟨g, off, none⟩ ∧ g < w.heap.size ∧ w.rangeAt g (off + j * 17) L[j].1

set_option maxHeartbeats 2000000 in
theorem upTo_any (v : Value) (lo hi : Nat) (L : List (List Value × Int)) (w : World) (hv : SeesO w v L) (_hlo : lo ≤ 10) (hhi : hi ≤ 10) (hlh : lo ≤ hi)
    (hh : ∀ k : Nat, lo ≤ k → k ≤ hi → ∀ u, Below w.heap.size w u → Calls Try.prog 10 #[.int .i64 (k : Int)] u fun e w' => e = .returned (.bool true) ∧ Below u.heap.size u w')
    (hp : ∀ j (h : j < L.length), (lo : Int) ≤ L[j].2 → L[j].2 ≤ (hi : Int) → ∀ u, Below w.heap.size w u → Calls Try.prog 16 #[.agg L[j].1.toArray] u fun e w' => e = .returned (.bool true) ∧ Below u.heap.size u w') :
    Calls Try.prog 9 #[v, .int .i64 (lo : Int), .int .i64 (hi : Int)] w fun e w' => e = .returned (.bool true) ∧ Below w.heap.size w w' := by
  obtain ⟨ao, cap, rfl, hnc, hcap, hcell⟩ := hv
  have HC := hid hcell
  have HH := hid hh
  have HP := hid hp
  obtain ⟨n, hn⟩ : ∃ n, n = L.length := ⟨_, rfl⟩
  rw [← hn] at hnc ⊢
  have HN := hid hn
  unfold maxLen at hcap
  clear hcell hh hp hn
  go_enter Try.func9, Try.ntmps9
  go_wp2_with fail
  go_loopw [7] (fun i wr => ∃ k : Nat, i = .int .i64 k ∧ lo ≤ k ∧ k ≤ hi + 1 ∧ Below w.heap.size w wr) (fun i _ => hi + 1 - (intOf i).toNat)
  case atStart => exact ⟨lo, rfl, by omega, by omega, Below.refl _ _⟩
  case round =>
    obtain ⟨k, rfl, hk1, hk2, hb⟩ := hrel
    by_cases hle : k ≤ hi
    · go_wp2_with fail
      refine (HH.out k hk1 hle _ hb).mono ?_
      rintro _ w1 ⟨rfl, hb1⟩
      have hb2 := hb.trans (hb1.mono hb.size)
      clear hb1
      go_wp2_with fail
      go_roundw
      case rel => exact ⟨k + 1, by go_num, by omega, by omega, hb2⟩
      case measure => simp [intOf]; omega
    · go_wp2_with fail
      go_loopw [8, 9] (fun i _ wv => ∃ (j : Nat) (wr : World), i = .int .i64 j ∧ j ≤ n ∧ wr = wv ∧ Below w.heap.size w wr) (fun i _ _ => n - (intOf i).toNat)
      case atStart => exact ⟨0, _, rfl, by omega, rfl, hb⟩
      case round =>
        clear hb
        obtain ⟨j, wr, rfl, hj, rfl, hbr⟩ := hrel
        by_cases hjn : j < n
        case neg =>
          go_wp2_with fail
          go_ret
          exact ⟨rfl, hbr⟩
        obtain ⟨hst, g, off, rfl, hg, hrange⟩ := HC.out j (by have := HN.out; omega)
        have HPJ := hid (HP.out j (by have := HN.out; omega))
        generalize L[j]'(by have := HN.out; omega) = ck at hst hrange HPJ
        obtain ⟨cs, kd⟩ := ck
        simp only at hst hrange HPJ
        obtain ⟨hl, hkd, hone, hk3, hk4⟩ := hst
        obtain ⟨wz, hwz⟩ : ∃ wz, wz = wr.alloc (.cells Z58 45) := ⟨_, rfl⟩
        have hrow : wz.heap[wr.heap.size]? = some (.cells Z58 45 (0, 0)) := by rw [hwz]; exact heap_alloc_new wr _
        have hth : wz.there wr.heap.size 0 cs.toArray.size := fun i hi => by
          have hi' : i < 17 := by simpa [hl] using hi
          refine ⟨?_, by rw [Nat.zero_add]; exact frozen_of_row _ _ _ _ _ hrow⟩
          rw [Nat.zero_add, cell_of_row _ _ _ _ _ _ hrow, Array.getElem?_eq_getElem (by exact hi' : i < Z58.size)]; rfl
        have hinf : (Try.prog.info? 45).map (·.size) = some cs.toArray.size := by rw [size58]; simp [hl]
        obtain ⟨w2, hw2⟩ : ∃ w2, w2 = wz.setCells wr.heap.size 0 cs := ⟨_, rfl⟩
        have hrg2 : w2.rangeAt wr.heap.size 0 cs := by rw [hw2]; exact World.rangeAt_setCells_same wz _ 0 _ (by simpa using hth)
        have hb12 : Below wr.heap.size wr w2 := by
          rw [hw2]; refine below_setCells (Nat.le_refl _) _ _ _ ?_
          rw [hwz]; exact (Below.refl _ _).alloc (Nat.le_refl _) _
        have hbr2 : Below w.heap.size w w2 := hbr.trans (hb12.mono hbr.size)
        have HLD0 := hid (range_load58 (range_below hrange hbr) hl)
        have HLD2 := hid (range_load58 hrg2 hl)
        have c0 : w2.cell? ⟨wr.heap.size, 0, none⟩ = some (.int .i64 kd) := hrg2 0 _ hkd
        have HONE := hid (all_oneCell_toArray hone)
        have HTH := hid hth
        have HINF := hid hinf
        have HW2 := hid hw2
        have HWZ := hid hwz
        have HBR2 := hid hbr2
        clear hwz hrow hth hinf hw2 hrg2 hb12 hbr2 hrange hl hkd hone hbr
        unfold Z58 at HWZ
        have hj0 : (0 : Int) ≤ (j : Int) := by omega
        have hj1 : (j : Int) < (n : Int) := by omega
        go_upto_region 10 with (first
          | (refine wpList_ld 45 ⟨g, off + j * 17, none⟩ (.tmp 27) rfl rfl HLD0.out rfl ?_)
          | (refine wpList_store_mid rfl 45 (.tmp 9) (.tmp 28) rfl wr.heap.size 0 cs.toArray rfl rfl (by rw [← HWZ.out]; exact HTH.out) HINF.out HONE.out ?_)
          | fail)
        rw [← HWZ.out, ← HW2.out]
        by_cases h1 : (lo : Int) ≤ kd
        · by_cases h2 : kd ≤ (hi : Int)
          · go_wp2_with (first | (refine wpList_ld 45 ⟨wr.heap.size, 0, none⟩ (.tmp 9) rfl rfl HLD2.out rfl ?_) | fail)
            refine (HPJ.out h1 h2 _ HBR2.out).mono ?_
            rintro _ w3 ⟨rfl, hb3⟩
            have hb4 := HBR2.out.trans (hb3.mono HBR2.out.size)
            clear hb3
            go_wp2_with fail
            go_roundw
            case rel => exact ⟨j + 1, w3, by go_num, by omega, rfl, hb4⟩
            case measure => simp [intOf]; omega
          · go_wp2_with fail
            go_roundw
            case rel => exact ⟨j + 1, w2, by go_num, by omega, rfl, HBR2.out⟩
            case measure => simp [intOf]; omega
        · go_wp2_with fail
          go_roundw
          case rel => exact ⟨j + 1, w2, by go_num, by omega, rfl, HBR2.out⟩
          case measure => simp [intOf]; omega
end Go.Proofs.Ytjjmopmdiflffac
