/-
  ipam: List: the order, the walk.
-/
import Derived.Test.YtjilahbkolcekabEK
import Derived.Shelf.SlSortCmp.WholeK
import Derived.Shelf.SlGeneric
import Derived.Ground.SlsfProg
namespace Go.Proofs.Ytjilahbkolcekab
open Go.ChangeShapes Go.WideShapes Go.ChangeAt Go.RowKit Go.Maps Tri
open Go.Shelf Go.Lib
set_option maxHeartbeats 4000000
set_option maxRecDepth 100000
shelf_lay_g SlLaysF0.n6 Slsf 6 at Try 42 as Try.sortP

def cmpA (x y : Nat) : Int := if x < y then -1 else if y < x then 1 else 0

theorem isNaN_any (x : Nat) (w : World) : Calls Try.prog 56 #[.int .u32 (x : Int)] w fun e w' => e = .returned (.bool false) ∧ w' = w := by
  go_enter Try.func56, Try.ntmps56
  go_wp2
  go_ret
  exact ⟨rfl, rfl⟩

theorem compare_any (x y : Nat) (w : World) : Calls Try.prog 44 #[.int .u32 (x : Int), .int .u32 (y : Int)] w fun e w' => e = .returned (.int .i64 (cmpA x y)) ∧ w' = w := by
  have HX := hid (isNaN_any x w)
  have HY := hid (isNaN_any y w)
  by_cases h1 : x < y
  · have HE : Hid (cmpA x y = -1) := by unfold Hid cmpA; rw [if_pos h1]
    have h1' : (x : Int) < (y : Int) := int_lt h1
    go_enter Try.func44, Try.ntmps44
    go_wp2_with fail
    refine HX.out.mono ?_
    rintro _ _ ⟨rfl, ew⟩
    obtain rfl := ew.symm
    go_wp2_with fail
    refine HY.out.mono ?_
    rintro _ _ ⟨rfl, ew⟩
    obtain rfl := ew.symm
    go_wp2_with fail
    go_ret
    exact ⟨ret_int HE.out.symm, rfl⟩
  · have h1' : ¬ (x : Int) < (y : Int) := int_nlt h1
    by_cases h2 : y < x
    · have HE : Hid (cmpA x y = 1) := by unfold Hid cmpA; rw [if_neg h1, if_pos h2]
      have h2' : (y : Int) < (x : Int) := int_lt h2
      go_enter Try.func44, Try.ntmps44
      go_wp2_with fail
      refine HX.out.mono ?_
      rintro _ _ ⟨rfl, ew⟩
      obtain rfl := ew.symm
      go_wp2_with fail
      refine HY.out.mono ?_
      rintro _ _ ⟨rfl, ew⟩
      obtain rfl := ew.symm
      go_wp2_with fail
      go_ret
      exact ⟨ret_int HE.out.symm, rfl⟩
    · have HE : Hid (cmpA x y = 0) := by unfold Hid cmpA; rw [if_neg h1, if_neg h2]
      have h2' : ¬ (y : Int) < (x : Int) := int_nlt h2
      go_enter Try.func44, Try.ntmps44
      go_wp2_with fail
      refine HX.out.mono ?_
      rintro _ _ ⟨rfl, ew⟩
      obtain rfl := ew.symm
      go_wp2_with fail
      refine HY.out.mono ?_
      rintro _ _ ⟨rfl, ew⟩
      obtain rfl := ew.symm
      go_wp2_with fail
      go_ret
      exact ⟨ret_int HE.out.symm, rfl⟩

theorem closure_any (x y : Pod) (W : World) : Calls Try.prog 43 #[.agg #[.string x.nm, .int .u32 (x.ad : Int)], .agg #[.string y.nm, .int .u32 (y.ad : Int)]] W fun e w' => e = .returned (.int .i64 (cmpA x.ad y.ad)) ∧ ∃ q os', w' = Sort.grow (W.drewN q) os' := by
  go_enter Try.func43, Try.ntmps43
  go_wp2_with fail
  refine (compare_any x.ad y.ad _).mono ?_
  rintro e w' ⟨rfl, rfl⟩
  go_wp2_with fail
  go_ret
  exact ⟨rfl, 0, _, by rw [Sort.alloc_eq_grow, Sort.alloc_eq_grow, Sort.grow_grow]; rfl⟩

def pdA (p : Pod) : List Value := [.string p.nm, .int .u32 (p.ad : Int)]
instance : Inhabited Pod := ⟨zPod⟩

theorem cmpLays_any (blk off size : Nat) (w : World) : CmpLays Try.prog 43 #[] pdA 2 (fun x y : Pod => cmpA x.ad y.ad) blk off size w :=
  fun _ _ _ _ x y => closure_any x y _

theorem ltA (x y : Pod) : ltOf (fun x y : Pod => cmpA x.ad y.ad) x y = decide (x.ad < y.ad) := by
  unfold ltOf cmpA
  by_cases h1 : x.ad < y.ad
  · simp [h1]
  · by_cases h2 : y.ad < x.ad <;> simp [h1, h2]

theorem swoA : Sort.SWO (ltOf fun x y : Pod => cmpA x.ad y.ad) where
  irrefl x := by rw [ltA]; simp
  trans x y z h1 h2 := by rw [ltA] at *; simp at *; omega
  ntrans x y z h1 h2 := by rw [ltA] at *; simp at *; omega

theorem pd_get (L : List Pod) (t : Nat) (h : t < L.length * 2) : (pd L)[t]? = some ((pdA L.toArray[t / 2]!)[t % 2]!) := by
  have h2 : t / 2 < L.length := by omega
  have e : L.toArray[t / 2]! = L[t / 2] := by simp [h2]
  rw [e]
  have a := pd_at L (t / 2) _ (List.getElem?_eq_getElem h2)
  rcases Nat.mod_two_eq_zero_or_one t with m | m
  · rw [m]; conv => lhs; rw [show t = t / 2 * 2 from by omega]
    rw [a.1]; simp [pdA]
  · rw [m]; conv => lhs; rw [show t = t / 2 * 2 + 1 from by omega]
    rw [a.2]; simp [pdA]

theorem holds_of_owns {w : World} {B g n cap : Nat} {L : List Pod} (h : OwnD w B (.slice (some ⟨g, 0, none⟩) n cap) L) : Sort.HoldsK pdA 2 w g 0 L.toArray := by
  rcases h.2 with ⟨h0, _⟩ | ⟨g', cap', cur, h0, hbb, hg, h1, h2, h3, h4⟩
  · cases h0
  · simp only [Value.slice.injEq, Option.some.injEq, Addr.mk.injEq, and_true] at h0
    obtain ⟨rfl, rfl, rfl⟩ := h0
    intro t ht
    rw [Sort.size_flatK] at ht
    have ht' : t < L.length * 2 := by simpa using ht
    rw [Sort.get_flatK _ _ _ _ ht, Nat.zero_add]
    refine ⟨?_, frozen_of_row _ _ _ _ _ hg⟩
    have e := pd_get L t ht'
    rw [← h4, List.getElem?_take, if_pos (by omega)] at e
    rw [cell_of_row _ _ _ _ _ _ hg]
    simpa using e

theorem sortWorld_block (w : World) (g n : Nat) (d : Array Pod) (os : Array Obj) (k : Nat) (hk : k < w.heap.size) (hne : k ≠ g) : (sortWorldK pdA 2 w g 0 n d os).heap[k]? = w.heap[k]? := by
  show ((w.heap.modify g _) ++ os)[k]? = _
  rw [Array.getElem?_append_left (by simpa using hk), Array.getElem?_modify, if_neg (Ne.symm hne)]

theorem sortWorld_below {w0 w : World} {g n : Nat} {d : Array Pod} {os : Array Obj} {B : Nat} (hb : Below B w0 w) (hg : B ≤ g) (hB : B ≤ w.heap.size) : Below B w0 (sortWorldK pdA 2 w g 0 n d os) :=
  hb.trans ⟨rfl, rfl, rfl, size_sortWorldK_c pdA 2 w g 0 n d os, fun k hk => sortWorld_block w g n d os k (by omega) (by omega)⟩
end Go.Proofs.Ytjilahbkolcekab
