/-
  The law's first.
-/
import Derived.Test.YtjilahbkolcekabER
namespace Go.Proofs.Ytjilahbkolcekab
open Go.ChangeShapes Go.WideShapes Go.ChangeAt Go.RowKit Go.Maps Tri
set_option maxHeartbeats 4000000
set_option maxRecDepth 100000

def nmsC : Array Value := #[.string ⟨#[97]⟩, .string ⟨#[98]⟩, .string ⟨#[99]⟩]
def stsC : Array Value := #[.int .i64 2, .string ⟨#[97]⟩, .int .u32 0, .int .i64 1, .string ⟨#[100]⟩, .int .u32 0, .int .i64 3, .string ⟨#[100]⟩, .int .u32 0, .int .i64 4, .string ⟨#[]⟩, .int .u32 168100099, .int .i64 6, .string ⟨#[]⟩, .int .u32 0, .int .i64 5, .string ⟨#[]⟩, .int .u32 0]

theorem nmsC_at {j : Nat} (h : j < 3) : ∃ s : ByteArray, s.size ≤ maxLen ∧ nmsC[j]? = some (.string s) := by
  match j, h with
  | 0, _ => exact ⟨⟨#[97]⟩, by decide, rfl⟩
  | 1, _ => exact ⟨⟨#[98]⟩, by decide, rfl⟩
  | 2, _ => exact ⟨⟨#[99]⟩, by decide, rfl⟩
theorem stsC_at {j : Nat} (h : j < 6) : ∃ o : Stp, o.n.size ≤ maxLen ∧ o.a < 4294967296 ∧ stsC[j * 3]? = some (.int .i64 o.k) ∧ stsC[j * 3 + 1]? = some (.string o.n) ∧ stsC[j * 3 + 2]? = some (.int .u32 (o.a : Int)) := by
  match j, h with
  | 0, _ => exact ⟨⟨2, ⟨#[97]⟩, 0⟩, by decide, by decide, rfl, rfl, rfl⟩
  | 1, _ => exact ⟨⟨1, ⟨#[100]⟩, 0⟩, by decide, by decide, rfl, rfl, rfl⟩
  | 2, _ => exact ⟨⟨3, ⟨#[100]⟩, 0⟩, by decide, by decide, rfl, rfl, rfl⟩
  | 3, _ => exact ⟨⟨4, ⟨#[]⟩, 168100099⟩, by decide, by decide, rfl, rfl, rfl⟩
  | 4, _ => exact ⟨⟨6, ⟨#[]⟩, 0⟩, by decide, by decide, rfl, rfl, rfl⟩
  | 5, _ => exact ⟨⟨5, ⟨#[]⟩, 0⟩, by decide, by decide, rfl, rfl, rfl⟩

theorem first_any (w : World) : Calls Try.prog 11 #[] w fun e w' => e = .returned (.bool true) ∧ Below w.heap.size w w' := by
  have HBT : Hid (Calls Try.prog 10 #[.agg #[.int .u32 168100096, .int .i64 29]] w (Bth 168100096 29 w)) := both_any 168100096 29 w (by decide)
  go_enter Try.func11, Try.ntmps11
  go_wp2_with fail
  refine HBT.out.mono ?_
  rintro _ w1 (⟨hb, rfl, hb1⟩ | ⟨hb, pb, bn, ba, rb, rfl, hp1, hk1, hb1⟩)
  · exact absurd hb (by decide)
  · have HL1 : Hid (Live w w1 pb bn ba rb) := Bth.live hp1 hk1 hb1
    clear hp1 hk1 hb1 hb HBT
    go_upto_region 5 with fail
    obtain ⟨nb, HNB⟩ : ∃ nb, Hid (nb = w1.heap.size) := ⟨_, rfl⟩
    obtain ⟨w2, HW2⟩ : ∃ w2, Hid (w2 = w1.alloc (.cells nmsC 9)) := ⟨_, rfl⟩
    have e2 : w1.alloc (.cells #[.string ⟨#[97]⟩, .string ⟨#[98]⟩, .string ⟨#[99]⟩] 9) = w2 := HW2.out.symm
    rw [e2, ← HNB.out]
    clear e2
    have HR2 : Hid (w2.heap[nb]? = some (.cells nmsC 9 (0, 0))) := by unfold Hid; rw [HW2.out, HNB.out]; exact heap_alloc_new w1 _
    have HL2 : Hid (Live w w2 pb bn ba rb) := by unfold Hid; rw [HW2.out]; exact HL1.out.below ((Below.refl _ _).alloc (Nat.le_refl _) _)
    have HT9 : Hid (okT 9) := ⟨by decide, by decide, by decide⟩
    have HT46 : Hid (okT 38) := ⟨by decide, by decide, by decide⟩
    go_upto_region 6 with fail
    go_loopw [5] (fun i wr => ∃ j : Nat, i = .int .i64 (j : Int) ∧ j ≤ 3 ∧ Hid (Live w wr pb bn ba rb) ∧ Hid (wr.heap[nb]? = some (.cells nmsC 9 (0, 0)))) (fun i _ => 3 - (intOf i).toNat)
    case atStart => exact ⟨0, rfl, by omega, HL2, HR2⟩
    case round =>
      obtain ⟨j, rfl, hj, HL, HR⟩ := hrel
      by_cases hlt : j < 3
      · have hlt' : (j : Int) < 3 := by omega
        obtain ⟨nm, hnm, hcl⟩ := nmsC_at hlt
        have c : wr.cell? ⟨nb, j, none⟩ = some (.string nm) := by rw [cell_of_row _ _ _ _ _ _ HR.out]; exact hcl
        have HPL : Hid (Calls Try.prog 13 #[.pointer (some ⟨pb, 0, none⟩), .pointer (some ⟨rb, 0, none⟩), .agg #[.int .i64 1, .string nm, .int .u32 0]] wr fun e W => e = .returned (.bool true) ∧ Live w W pb bn ba rb ∧ ∀ (k : Nat) (cs : Array Value) (t : TypeId), wr.heap[k]? = some (Obj.cells cs t (0, 0)) → okT t → W.heap[k]? = some (Obj.cells cs t (0, 0))) := HL.out.plays ⟨1, nm, 0⟩ hnm (by show (0 : Nat) < 4294967296; decide)
        clear hcl
        go_wp2_with fail
        refine HPL.out.mono ?_
        rintro _ w3 ⟨rfl, hl3, hk3⟩
        have HL3 := hid hl3
        have HR3 := hid (hk3 nb _ _ HR.out HT9.out)
        clear c hl3 hk3 HPL
        go_wp2_with fail
        go_roundw
        case rel => exact ⟨j + 1, by go_num, hlt, HL3, HR3⟩
        case measure => simp [intOf]; omega
      · have hlt' : ¬ (j : Int) < 3 := by omega
        go_upto_region 11 with fail
        obtain ⟨sb, HSB⟩ : ∃ sb, Hid (sb = wr.heap.size) := ⟨_, rfl⟩
        obtain ⟨w4, HW4⟩ : ∃ w4, Hid (w4 = wr.alloc (.cells stsC 38)) := ⟨_, rfl⟩
        have e4 : wr.alloc (.cells #[.int .i64 2, .string ⟨#[97]⟩, .int .u32 0, .int .i64 1, .string ⟨#[100]⟩, .int .u32 0, .int .i64 3, .string ⟨#[100]⟩, .int .u32 0, .int .i64 4, .string ⟨#[]⟩, .int .u32 168100099, .int .i64 6, .string ⟨#[]⟩, .int .u32 0, .int .i64 5, .string ⟨#[]⟩, .int .u32 0] 38) = w4 := HW4.out.symm
        rw [e4, ← HSB.out]
        clear e4
        have HR4 : Hid (w4.heap[sb]? = some (.cells stsC 38 (0, 0))) := by unfold Hid; rw [HW4.out, HSB.out]; exact heap_alloc_new wr _
        have HL4 : Hid (Live w w4 pb bn ba rb) := by unfold Hid; rw [HW4.out]; exact HL.out.below ((Below.refl _ _).alloc (Nat.le_refl _) _)
        go_upto_region 12 with fail
        go_loopw [7] (fun i wr => ∃ j : Nat, i = .int .i64 (j : Int) ∧ j ≤ 6 ∧ Hid (Live w wr pb bn ba rb) ∧ Hid (wr.heap[sb]? = some (.cells stsC 38 (0, 0)))) (fun i _ => 6 - (intOf i).toNat)
        case atStart => exact ⟨0, rfl, by omega, HL4, HR4⟩
        case round =>
          obtain ⟨j, rfl, hj, HL, HR⟩ := hrel
          by_cases hlt : j < 6
          · have hlt' : (j : Int) < 6 := by omega
            obtain ⟨o, hnm, had, h0, h1, h2⟩ := stsC_at hlt
            have c0 : wr.cell? ⟨sb, j * 3, none⟩ = some (.int .i64 o.k) := by rw [cell_of_row _ _ _ _ _ _ HR.out]; exact h0
            have c1 : wr.cell? ⟨sb, j * 3 + 1, none⟩ = some (.string o.n) := by rw [cell_of_row _ _ _ _ _ _ HR.out]; exact h1
            have c2 : wr.cell? ⟨sb, j * 3 + 2, none⟩ = some (.int .u32 (o.a : Int)) := by rw [cell_of_row _ _ _ _ _ _ HR.out]; exact h2
            have HPL : Hid (Calls Try.prog 13 #[.pointer (some ⟨pb, 0, none⟩), .pointer (some ⟨rb, 0, none⟩), .agg #[.int .i64 o.k, .string o.n, .int .u32 (o.a : Int)]] wr fun e W => e = .returned (.bool true) ∧ Live w W pb bn ba rb ∧ ∀ (k : Nat) (cs : Array Value) (t : TypeId), wr.heap[k]? = some (Obj.cells cs t (0, 0)) → okT t → W.heap[k]? = some (Obj.cells cs t (0, 0))) := HL.out.plays o hnm had
            clear h0 h1 h2
            go_wp2_with fail
            refine HPL.out.mono ?_
            rintro _ w3 ⟨rfl, hl3, hk3⟩
            have HL3 := hid hl3
            have HR3 := hid (hk3 sb _ _ HR.out HT46.out)
            clear c0 c1 c2 hl3 hk3 HPL
            go_wp2_with fail
            go_roundw
            case rel => exact ⟨j + 1, by go_num, hlt, HL3, HR3⟩
            case measure => simp [intOf]; omega
          · have hlt' : ¬ (j : Int) < 6 := by omega
            go_wp2_with fail
            go_ret
            exact ⟨rfl, HL.out.be⟩

/-! ### scripts that came in -/
def SeesO (w : World) (v : Value) (S : List Stp) : Prop :=
  ∃ ao cap, v = .slice ao S.length cap ∧ S.length ≤ cap ∧ cap ≤ maxLen ∧
    ∀ j (h : j < S.length), ∃ g off, ao = some ⟨g, off, none⟩ ∧ g < w.heap.size ∧ w.cell? ⟨g, off + j * 3, none⟩ = some (.int .i64 S[j].k) ∧ w.cell? ⟨g, off + j * 3 + 1, none⟩ = some (.string S[j].n) ∧ w.cell? ⟨g, off + j * 3 + 2, none⟩ = some (.int .u32 (S[j].a : Int))

def OkO (S : List Stp) : Prop := ∀ o ∈ S, o.n.size ≤ maxLen ∧ o.a < 4294967296

theorem SeesO.shape {w : World} {v : Value} {S : List Stp} (h : SeesO w v S) : ∃ ao n cap, v = .slice ao n cap ∧ Hid (n = S.length) ∧ n ≤ cap ∧ cap ≤ maxLen := by
  obtain ⟨ao, cap, hv, h1, h2, _⟩ := h
  exact ⟨ao, S.length, cap, hv, rfl, h1, h2⟩
theorem SeesO.below {w w' : World} {v : Value} {S : List Stp} (h : SeesO w v S) (hb : Below w.heap.size w w') : SeesO w' v S := by
  obtain ⟨ao, cap, hv, h1, h2, h3⟩ := h
  refine ⟨ao, cap, hv, h1, h2, fun j hj => ?_⟩
  obtain ⟨g, off, ha, hg, c0, c1, c2⟩ := h3 j hj
  exact ⟨g, off, ha, Nat.lt_of_lt_of_le hg hb.size, (hb.cell (p := ⟨g, _, none⟩) hg).trans c0, (hb.cell (p := ⟨g, _, none⟩) hg).trans c1, (hb.cell (p := ⟨g, _, none⟩) hg).trans c2⟩
theorem SeesO.at {w : World} {ao : Option Addr} {n cap : Nat} {S : List Stp} (h : SeesO w (.slice ao n cap) S) (j : Nat) (hj : j < n) : ∃ (g off : Nat) (o : Stp), ao = some ⟨g, off, none⟩ ∧ Hid (S[j]? = some o) ∧ ∀ u : World, Below w.heap.size w u → u.cell? ⟨g, off + j * 3, none⟩ = some (.int .i64 o.k) ∧ u.cell? ⟨g, off + j * 3 + 1, none⟩ = some (.string o.n) ∧ u.cell? ⟨g, off + j * 3 + 2, none⟩ = some (.int .u32 (o.a : Int)) := by
  obtain ⟨ao', cap', hv, h1, h2, h3⟩ := h
  simp at hv
  obtain ⟨rfl, rfl, rfl⟩ := hv
  obtain ⟨g, off, ha, hg, c0, c1, c2⟩ := h3 j hj
  refine ⟨g, off, S[j], ha, hid (List.getElem?_eq_getElem hj), fun u hu => ?_⟩
  exact ⟨(hu.cell (p := ⟨g, _, none⟩) hg).trans c0, (hu.cell (p := ⟨g, _, none⟩) hg).trans c1, (hu.cell (p := ⟨g, _, none⟩) hg).trans c2⟩

theorem holds_any (x : Nat) (y : Int) (v : Value) (S : List Stp) (lo hi : Int) (w : World) (hx : x < 4294967296) (hs : SeesO w v S) (hok : OkO S) (hb : S.length * 32 ≤ 140737488355328) :
    Calls Try.prog 9 #[.agg #[.int .u32 (x : Int), .int .i64 y], v, .int .i64 lo, .int .i64 hi] w fun e w' => e = .returned (.bool true) ∧ Below w.heap.size w w' := by
  obtain ⟨ao, nv, cap, rfl, HN, hnc, hcap⟩ := hs.shape
  have hnb : nv * 32 ≤ 140737488355328 := by rw [HN.out]; exact hb
  obtain ⟨wa, HWA⟩ : ∃ wa, Hid (wa = w.alloc (.cells #[.int .u32 (x : Int), .int .i64 y] 25)) := ⟨_, rfl⟩
  have HB0 : Hid (Below w.heap.size w wa) := by unfold Hid; rw [HWA.out]; exact (Below.refl _ _).alloc (Nat.le_refl _) _
  have R1 : Hid (wa.heap[w.heap.size]? = some (.cells #[.int .u32 (x : Int), .int .i64 y] 25)) := by unfold Hid; rw [HWA.out]; exact heap_alloc_new w _
  obtain ⟨q0, q1⟩ := Beh.two R1.out
  have c0 := q0 ⟨wa, Below.refl _ _⟩
  have c1 := q1 ⟨wa, Below.refl _ _⟩
  simp only at c0 c1
  have HBT := hid (both_any x y wa hx)
  have HAT : ∀ j, j < nv → ∃ (g off : Nat) (o : Stp), ao = some ⟨g, off, none⟩ ∧ Hid (S[j]? = some o) ∧ Hid (∀ u : World, Below w.heap.size w u → u.cell? ⟨g, off + j * 3, none⟩ = some (.int .i64 o.k) ∧ u.cell? ⟨g, off + j * 3 + 1, none⟩ = some (.string o.n) ∧ u.cell? ⟨g, off + j * 3 + 2, none⟩ = some (.int .u32 (o.a : Int))) := fun j hj => hs.at j hj
  have HOK := hid hok
  clear hs q0 q1 hcap hb hok
  go_enter Try.func9, Try.ntmps9
  go_upto_region 1 with fail
  rw [← HWA.out]
  go_wp2_with fail
  refine HBT.out.mono ?_
  rintro _ w1 (⟨hb, rfl, hb1⟩ | ⟨hb, pb, bn, ba, rb, rfl, hp1, hk1, hb1⟩)
  · have HF := hid (first_any w1)
    have HB1 := hid (HB0.out.trans (hb1.mono HB0.out.size))
    clear c0 c1 HBT hb1 hb
    go_wp2_with fail
    refine HF.out.mono ?_
    rintro _ w2 ⟨rfl, hb2⟩
    have HB2 := hid (HB1.out.trans (hb2.mono HB1.out.size))
    clear HF hb2
    go_wp2_with fail
    go_ret
    exact ⟨rfl, HB2.out⟩
  · have HF := hid (first_any w1)
    have HL1 : Hid (Live w w1 pb bn ba rb) := ⟨_, _, hp1, fun k hk => Nat.le_trans HB0.out.size (hk1 k hk), HB0.out.trans (hb1.mono HB0.out.size)⟩
    clear c0 c1 HBT hb1 hb hp1 hk1
    go_wp2_with fail
    refine HF.out.mono ?_
    rintro _ w2 ⟨rfl, hb2⟩
    have HL2 := hid (HL1.out.below hb2)
    clear HF hb2
    go_upto_region 7 with fail
    go_loopw [12] (fun i wr => ∃ j : Nat, i = .int .i64 (j : Int) ∧ j ≤ nv ∧ Hid (Live w wr pb bn ba rb)) (fun i _ => nv - (intOf i).toNat)
    case atStart => exact ⟨0, rfl, Nat.zero_le _, HL2⟩
    case round =>
      obtain ⟨j, rfl, hj, HL⟩ := hrel
      by_cases hlt : j < nv
      · have hlt' : (j : Int) < (nv : Int) := int_lt hlt
        obtain ⟨g, off, o, rfl, HO, HCL⟩ := HAT j hlt
        obtain ⟨d0, d1, d2⟩ := HCL.out wr HL.out.be
        have hoo := HOK.out o (List.mem_of_getElem? HO.out)
        obtain ⟨w3, HW3⟩ : ∃ w3, Hid (w3 = wr.alloc (.cells #[.int .i64 o.k, .string o.n, .int .u32 (o.a : Int)] 38)) := ⟨_, rfl⟩
        have r3 : w3.heap[wr.heap.size]? = some (.cells #[.int .i64 o.k, .string o.n, .int .u32 (o.a : Int)] 38 (0, 0)) := by rw [HW3.out]; exact heap_alloc_new wr _
        have HL3 : Hid (Live w w3 pb bn ba rb) := by unfold Hid; rw [HW3.out]; exact HL.out.below ((Below.refl _ _).alloc (Nat.le_refl _) _)
        have e0 : w3.cell? ⟨wr.heap.size, 0, none⟩ = some (.int .i64 o.k) := by rw [cell_of_row _ _ _ _ _ _ r3]; rfl
        have e1 : w3.cell? ⟨wr.heap.size, 1, none⟩ = some (.string o.n) := by rw [cell_of_row _ _ _ _ _ _ r3]; rfl
        have e2 : w3.cell? ⟨wr.heap.size, 2, none⟩ = some (.int .u32 (o.a : Int)) := by rw [cell_of_row _ _ _ _ _ _ r3]; rfl
        have HPL : Hid (Calls Try.prog 13 #[.pointer (some ⟨pb, 0, none⟩), .pointer (some ⟨rb, 0, none⟩), .agg #[.int .i64 o.k, .string o.n, .int .u32 (o.a : Int)]] w3 fun e W => e = .returned (.bool true) ∧ Live w W pb bn ba rb ∧ ∀ (k : Nat) (cs : Array Value) (t : TypeId), w3.heap[k]? = some (Obj.cells cs t (0, 0)) → okT t → W.heap[k]? = some (Obj.cells cs t (0, 0))) := HL3.out.plays o hoo.1 hoo.2
        clear r3 hoo
        go_upto_region 10 with fail
        rw [← HW3.out]
        clear d0 d1 d2
        go_wp2_with fail
        refine HPL.out.mono ?_
        rintro _ w4 ⟨rfl, hl4, -⟩
        have HL4 := hid hl4
        clear e0 e1 e2 hl4 HPL
        go_wp2_with fail
        go_roundw
        case rel => exact ⟨j + 1, by go_num, hlt, HL4⟩
        case measure => simp [intOf]; omega
      · have hlt' : ¬ (j : Int) < (nv : Int) := int_nlt hlt
        go_wp2_with fail
        go_ret
        exact ⟨rfl, HL.out.be⟩
end Go.Proofs.Ytjilahbkolcekab
