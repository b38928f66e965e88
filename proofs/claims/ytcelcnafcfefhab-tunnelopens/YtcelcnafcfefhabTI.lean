/-
  weftlaw7: begun, roomy, kept.
-/
import Derived.Test.YtcelcnafcfefhabTF
import Derived.Test.YtcelcnafcfefhabNY
namespace Go.Proofs.Ytcelcnafcfefhab.N
open Go.ChangeShapes Go.WideShapes Go.ChangeAt Go.RowKit
set_option maxHeartbeats 8000000
set_option maxRecDepth 100000

theorem begun_list : Tn.buL 0 0 ⟨1, 2, []⟩ true = [0, 1, 0, 2, 0, 8, 255, 219] := by decide +kernel

theorem begun_any (w : World) : Calls Try.prog 8 #[] w fun e w' => e = .returned (.bool true) ∧ Below w.heap.size w w' := by
  have HB : Hid (Calls Try.prog 15 #[.int .u32 0, .int .u32 0, .agg #[.int .u16 1, .int .u16 2, .slice none 0 0], .bool true] w fun e w' => ∃ g, e = .returned (.tuple #[.slice (some ⟨g, 0, none⟩) 8 8, .int .i64 0]) ∧ Blk w' g [0, 1, 0, 2, 0, 8, 255, 219] ∧ Below w.heap.size w w') := by
    refine (buildU_any ⟨1, 2, []⟩ (.slice none 0 0) 0 0 true w ⟨by decide, by decide⟩ (sees_nil w) (by decide) (by decide)).mono ?_
    rintro e w' ⟨ao, n, cap, rfl, hs, hg, hb⟩
    obtain ⟨g, rfl, rfl, hB, _⟩ := hg rfl
    rw [begun_list] at hB hs
    have hn : cap = 8 := by
      obtain ⟨_, _, hv, _⟩ := hs
      simp at hv
      exact hv.2.1
    subst hn
    exact ⟨g, rfl, hB, hb⟩
  go_enter Try.func8, Try.ntmps8
  go_wp2_with fail
  refine HB.out.mono ?_
  rintro _ w2 ⟨g, rfl, hB, hb⟩
  have c1 : w2.cell? ⟨g, 1, none⟩ = some (.int .u8 1) := hB.cell 1 (by decide)
  have c3 : w2.cell? ⟨g, 3, none⟩ = some (.int .u8 2) := hB.cell 3 (by decide)
  have c5 : w2.cell? ⟨g, 5, none⟩ = some (.int .u8 8) := hB.cell 5 (by decide)
  have c6 : w2.cell? ⟨g, 6, none⟩ = some (.int .u8 255) := hB.cell 6 (by decide)
  have c7 : w2.cell? ⟨g, 7, none⟩ = some (.int .u8 219) := hB.cell 7 (by decide)
  have HB2 := hid hb
  clear hB hb HB
  go_wp2_with fail
  go_ret
  exact ⟨rfl, HB2.out⟩

/-- The marks behind a list. -/
def mkN (k : Nat) : List Nat := (List.range k).map fun i => 181 + i
theorem mkN_succ (k : Nat) : mkN (k + 1) = mkN k ++ [181 + k] := by unfold mkN; rw [List.range_succ, List.map_append]; rfl
theorem mkN_len (k : Nat) : (mkN k).length = k := by unfold mkN; simp
theorem mkN_bytes : ∀ x ∈ mkN 70, x < 256 := fun x hx => by
  unfold mkN at hx
  obtain ⟨i, hi, rfl⟩ := List.mem_map.1 hx
  have := List.mem_range.1 hi
  omega

theorem roomy_any (v : Value) (L : List Nat) (w : World) (hv : SeesB w v L) (hl : L.length ≤ 140737488351232) :
    Calls Try.prog 21 #[v] w fun e w' => ∃ l', e = .returned l' ∧ OwnB w' w.heap.size l' (L ++ mkN 70) ∧ Below w.heap.size w w' := by
  have HV := hid hv
  have HLN := hid hl
  obtain ⟨ao, n, cap, rfl, _, _, _⟩ := hv.shape
  clear hv hl
  go_enter Try.func21, Try.ntmps21
  go_wp2_with (at_builtin; refine wpList_append_bytes rfl _ _ rfl w.heap.size _ _ rfl (ownB_nil _ _) _ L rfl HV.out ?c1 ?c2 ?_)
  case c1 => have := HLN.out; simp; omega
  case c2 => exact Nat.le_refl _
  intro v1 w1 ho1 hb1
  have HO1 := hid ho1
  have HB1 := hid hb1
  clear ho1 hb1
  go_wp2_with fail
  go_loopw [3, 4] (fun t i wv => ∃ (k : Nat) (wr : World), i = .int .i64 (k : Int) ∧ k ≤ 70 ∧ wr = wv ∧ Hid (OwnB wr w.heap.size t (L ++ mkN k)) ∧ Below w.heap.size w wr) (fun _ i _ => 70 - (intOf i).toNat)
  case atStart => exact ⟨0, _, rfl, by omega, rfl, by unfold Hid; rw [show mkN 0 = [] from rfl, List.append_nil]; exact HO1.out, HB1.out⟩
  case round =>
    obtain ⟨k, wr, rfl, hk, rfl, HOK, hb⟩ := hrel
    by_cases hlt : k < 70
    · obtain ⟨x, hx⟩ : ∃ x, x = 181 + k := ⟨_, rfl⟩
      have HF : Hid (L ++ (mkN k ++ [x]) = L ++ mkN (k + 1)) := by unfold Hid; rw [mkN_succ, hx]
      have hx256 : x < 256 := by omega
      have HLE : Hid ((L ++ mkN k).length + [x].length ≤ 140737488355328) := by
        unfold Hid
        have := HLN.out
        rw [List.length_append, mkN_len]
        simp only [List.length_cons, List.length_nil]
        omega
      have ex : (181 : Int) + (k : Int) = (x : Int) := by omega
      clear hx
      go_wp2_with (at_builtin; refine wpList_append_bytes rfl _ _ rfl w.heap.size _ _ rfl (HOK.out.alloc _) _ [x] rfl (sees_one rfl x hx256 _) ?c1 ?c2 ?_)
      case c1 => exact HLE.out
      case c2 => have := hb.size; simp; omega
      intro v' w2 ho hb2
      rw [HF.out] at ho
      have HO2 := hid ho
      have hb3 : Below w.heap.size w w2 := (hb.alloc hb.size _).trans hb2
      clear ho hb2
      go_wp2_with fail
      go_roundw
      case rel => exact ⟨k + 1, _, by go_num, by omega, rfl, HO2, hb3⟩
      case measure => simp [intOf]; omega
    · obtain rfl : k = 70 := by omega
      go_wp2_with fail
      go_ret
      exact ⟨_, rfl, HOK.out, hb⟩

theorem same_self (v v' : Value) (A : List Nat) (w : World) (hv : SeesB w v A) (hv' : SeesB w v' A) :
    Calls Try.prog 17 #[v, v'] w fun e w' => e = .returned (.bool true) ∧ Below w.heap.size w w' := by
  have := same_any v v' A A w hv hv'
  rwa [decide_eq_true rfl] at this

theorem kept_any (v vb : Value) (L : List Nat) (w : World) (hv : SeesB w v (L ++ mkN 70)) (hb : SeesB w vb L) (hl : L.length ≤ 140737488351232) :
    Calls Try.prog 23 #[v, vb] w fun e w' => e = .returned (.bool true) ∧ Below w.heap.size w w' := by
  have HV := hid hv
  have HR := hid (roomy_any vb L w hb hl)
  have HBY := hid hv.bytes
  obtain ⟨ao, n, cap, rfl, _, _, _⟩ := hv.shape
  obtain ⟨bo, m, bcap, rfl, _, _, _⟩ := hb.shape
  clear hv hb
  go_enter Try.func23, Try.ntmps23
  go_wp2_with fail
  refine HR.out.mono ?_
  rintro _ w2 ⟨l2, rfl, ho, hb2⟩
  have hs2 := ho.sees HBY.out
  have HSA := hid (same_self _ _ _ w2 (HV.out.below hb2) hs2)
  have HB2 := hid hb2
  obtain ⟨co, p, ccap, rfl, _, _, _⟩ := hs2.shape
  clear ho hs2 hb2
  go_wp2_with fail
  refine HSA.out.mono ?_
  rintro _ w3 ⟨rfl, hb3⟩
  go_wp2_with fail
  go_ret
  exact ⟨rfl, HB2.out.trans (hb3.mono HB2.out.size)⟩
end Go.Proofs.Ytcelcnafcfefhab.N
