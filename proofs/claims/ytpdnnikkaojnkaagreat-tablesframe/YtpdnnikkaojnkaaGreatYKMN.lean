import Derived.Test.YtpdnnikkaojnkaaGreatYKMF
import Derived.Shelf.SlSortCmp.Whole1
namespace Go.Proofs.YtpdnnikkaojnkaaGreat.Rt
open Go.Proofs.YtpdnnikkaojnkaaGreat Go.ChangeShapes Go.WideShapes Go.ChangeAt Go.RowKit Go.Shelf Go.Lib Go.Maps Tri N
set_option maxHeartbeats 8000000
set_option maxRecDepth 100000
shelf_lay_g SlLaysF.n6 Slsf 6 at Tryz 72 as Tryz.sortA
theorem retI {x y : Int} (h : x = y) : Ending.returned (.int .i64 x) = .returned (.int .i64 y) := by rw [h]
theorem nanA_any (x : Nat) (w : World) : Calls Tryz.prog 62 #[.int .u32 (x : Int)] w fun e w' => e = .returned (.bool false) /\ w' = w := by
 go_enter Tryz.func62, Tryz.ntmps62
 go_wp2_with fail
 go_ret
 exact ⟨rfl, rfl⟩
theorem compareA_any (x y : Nat) (w : World) : Calls Tryz.prog 38 #[.int .u32 (x : Int), .int .u32 (y : Int)] w fun e w' => e = .returned (.int .i64 (ordK x y)) /\ w' = w := by
 have HX := hid (nanA_any x w)
 have HY := hid (nanA_any y w)
 by_cases h1 : x < y
 ·have HE : Hid (ordK x y = -1) := by unfold Hid ordK; rw [if_pos h1]
  have h1' : (x : Int) < (y : Int) := by omega
  go_enter Tryz.func38, Tryz.ntmps38
  go_wp2_with fail
  refine HX.out.mono ?_
  rintro _ _ ⟨rfl, ew⟩
  obtain rfl := ew.symm
  go_wp2_with fail
  refine HY.out.mono ?_
  rintro _ _ ⟨rfl, ew⟩
  obtain rfl := ew.symm
  go_wp2_with fail
  go_ret
  exact ⟨retI HE.out.symm, rfl⟩
 ·have h1' : ¬ (x : Int) < (y : Int) := by omega
  by_cases h2 : y < x
  ·have HE : Hid (ordK x y = 1) := by unfold Hid ordK; rw [if_neg h1, if_pos h2]
   have h2' : (y : Int) < (x : Int) := by omega
   go_enter Tryz.func38, Tryz.ntmps38
   go_wp2_with fail
   refine HX.out.mono ?_
   rintro _ _ ⟨rfl, ew⟩
   obtain rfl := ew.symm
   go_wp2_with fail
   refine HY.out.mono ?_
   rintro _ _ ⟨rfl, ew⟩
   obtain rfl := ew.symm
   go_wp2_with fail
   go_ret
   exact ⟨retI HE.out.symm, rfl⟩
  ·have HE : Hid (ordK x y = 0) := by unfold Hid ordK; rw [if_neg h1, if_neg h2]
   have h2' : ¬ (y : Int) < (x : Int) := by omega
   go_enter Tryz.func38, Tryz.ntmps38
   go_wp2_with fail
   refine HX.out.mono ?_
   rintro _ _ ⟨rfl, ew⟩
   obtain rfl := ew.symm
   go_wp2_with fail
   refine HY.out.mono ?_
   rintro _ _ ⟨rfl, ew⟩
   obtain rfl := ew.symm
   go_wp2_with fail
   go_ret
   exact ⟨retI HE.out.symm, rfl⟩
def encA (k : Nat) : Value := .int .u32 (k : Int)
theorem ltA (x y : Nat) : ltOf ordK x y = decide (x < y) := by
 unfold ltOf
 by_cases h : x < y
 ·simp [h, (ordK_lt _ _).2 h]
 ·simp [h]; exact (ordK_ge _ _).2 (by omega)
theorem swoA : Sort.SWO (ltOf ordK) where
 irrefl x := by rw [ltA]; simp
 trans x y z h1 h2 := by rw [ltA] at *; simp at *; omega
 ntrans x y z h1 h2 := by rw [ltA] at *; simp at *; omega
theorem cmpLaysA (blk off size : Nat) (w : World) : CmpLays1 Tryz.prog 38 #[] encA ordK blk off size w :=
 fun m os dk _ x y => (compareA_any x y _).mono fun e w' ⟨he, hw⟩ => ⟨he, 0, #[], by rw [hw]; simp [Sort.grow, World.drewN]⟩
theorem kcN_map (L : List Nat) : kcN L = L.map encA := by
 unfold kcN encA
 induction L with
 | nil => rfl
 | cons a l ih => rw [List.flatMap_cons, ih]; rfl
theorem sortN_any (a : Option Addr) (n cp : Nat) (ss : List Nat) (B : Nat) {f : Nat -> Option Nb} (w : World) (ho : OwnKN w B (.slice a n cp) ss) (hB : B <= w.heap.size) (hS : AllN f ss) (hle : ss.length <= 256) :
  Calls Tryz.prog 72 #[.slice a n cp, .func (.func 38) #[] #[]] w fun e w' => e = .returned (.tuple #[]) /\ ∃ ss', RisBy (fun k : Nat => k) ss' /\ (∀ k, k ∈ ss' ↔ gN.kOk k /\ (f k).isSome = true) /\ OwnKN w' B (.slice a n cp) ss' /\ Below B w w' := by
 rcases ho.2 with ⟨h0, hn0⟩ | ⟨g, cap, cur, h0, hbb, hg, h1, h2, h3, h4⟩
 ·simp only [Value.slice.injEq] at h0
  obtain ⟨rfl, rfl, rfl⟩ := h0
  have hss : ss = [] := List.eq_nil_of_length_eq_zero hn0
  subst hss
  have hcon := AnyF.slices_SortFunc_none { Tryz.sortA with } none 0 (.func (.func 38) #[] #[]) w
  change Calls Tryz.prog 72 _ _ _ at hcon
  refine hcon.mono ?_
  rintro e w' ⟨rfl, rfl⟩
  exact ⟨rfl, [], List.Pairwise.nil, hS.2, ho, bR⟩
 ·simp only [Value.slice.injEq] at h0
  obtain ⟨rfl, rfl, rfl⟩ := h0
  rw [kcN_map, Nat.mul_one] at h4
  have hlt := (gsl hg)
  have hH : Sort.Holds encA w g 0 ss.toArray := by
   intro t ht
   have ht' : t < ss.length := by simpa using ht
   rw [Nat.zero_add]
   refine ⟨?_, frozen_of_row _ _ _ _ _ hg⟩
   have e : (cur.toList.take ss.length)[t]? = some (encA ss[t]) := by rw [h4, List.getElem?_map, List.getElem?_eq_getElem ht']; rfl
   rw [List.getElem?_take, if_pos ht'] at e
   rw [cell_of_row _ _ _ _ _ _ hg, getElem!_pos ss.toArray t (by simpa using ht')]
   simpa using e
  have eg : ∀ args w, (callFunc 38 args).run Tryz.prog w = .ok (.enter 38 args) w := enters_of Tryz.func38 (by kernel_rfl) rfl
  have hsz : ss.toArray.size = ss.length := by simp
  have HLS : Hid (ss.toArray.size < 4611686018427387904) := by unfold Hid; rw [hsz]; omega
  have hcon := Any.slices_SortFunc Tryz.sortA encA (fun _ => rfl) ordK swoA 38 #[] g 0 cp ss.toArray w eg (cmpLaysA g 0 ss.toArray.size w) hH hlt HLS.out
  change Calls Tryz.prog 72 _ _ _ at hcon
  rw [hsz] at hcon
  refine hcon.mono ?_
  rintro e w' ⟨rfl, d, m, os, hp, hs, rfl⟩
  obtain ⟨p1, -, p2⟩ := hp
  have hdl : d.size = ss.length := by rw [p1, hsz]
  have e1 : d.extract 0 ss.length = d := by rw [<- hdl]; simp
  have e2 : (ss.toArray.extract 0 ss.length).toList = ss := by simp
  rw [e1, e2] at p2
  have hnd : d.toList.Nodup := p2.nodup_iff.2 hS.1
  refine ⟨rfl, d.toList, ?_, fun k => by rw [p2.mem_iff]; exact hS.2 k, ?_, ?_⟩
  ·unfold RisBy Ris
   rw [List.pairwise_map]
   refine pw_gen (fun k : Nat => k) (fun i j hij hj => ?_) hnd
   have h5 := hs i j (Nat.zero_le _) hij (by rw [<- hdl]; exact hj)
   rw [ltA] at h5
   exact of_decide_eq_false h5
  ·have hb : (sortWorld encA w g 0 m d os).heap[g]? = some (.cells (Sort.putCells encA 0 d cur) 34 (0, 0)) := by
    show ((w.heap.modify g _) ++ os)[g]? = _
    rw [Array.getElem?_append_left (by simpa using hlt), Array.getElem?_modify, if_pos rfl, hg]
    rfl
   unfold OwnKN
   have hl2 : d.toList.length = ss.length := by simp [hdl]
   rw [hl2, kcN_map]
   refine ⟨by simp [hdl], .inr ⟨g, cp, _, rfl, hbb, hb, h1, h2, by simpa [Sort.putCells] using h3, ?_⟩⟩
   apply List.ext_getElem?
   intro t
   rw [List.getElem?_take, Nat.mul_one]
   by_cases ht : t < ss.length
   ·have ht3 : t < d.size := by omega
    have ht2 : t < cur.size := by omega
    have e3 : d.toList[t]? = some d[t] := by rw [Array.getElem?_toList, Array.getElem?_eq_getElem ht3]
    rw [if_pos ht, List.getElem?_map, e3]
    simp only [Sort.putCells, Array.getElem?_toList, Array.getElem?_mapIdx, Array.getElem?_eq_getElem ht2, Option.map_some, Nat.zero_le, Nat.zero_add, Nat.sub_zero, true_and, ht3, if_true, getElem!_pos d t ht3]
   ·rw [if_neg ht, List.getElem?_eq_none (by simp [hdl]; omega)]
  ·exact ⟨rfl, rfl, rfl, by show w.heap.size <= ((w.heap.modify g _) ++ os).size; simp, fun k hk => by
    show ((w.heap.modify g _) ++ os)[k]? = _
    rw [Array.getElem?_append_left (by simp; omega), Array.getElem?_modify, if_neg (by omega)]⟩
def SrtN (f : Nat -> Option Nb) (ss : List Nat) : Prop := RisBy (fun k : Nat => k) ss /\ ∀ k, k ∈ ss ↔ gN.kOk k /\ (f k).isSome = true
theorem sortedN_any (Bm bm c : Nat) {f : Nat -> Option Nb} (w : World) (hBm : w.heap[Bm]? = some (.cells #[.map (some bm)] 118)) (hm : MapG gN w bm f c) (hc : c <= 256) (hle : ∀ ss, AllN f ss -> ss.length <= 256) :
  Calls Tryz.prog 51 #[.func (.func 73) #[] #[.pointer (some ⟨Bm, 0, none⟩)], .func (.func 38) #[] #[]] w fun e w' => ∃ v ss, e = .returned v /\ SrtN f ss /\ OwnKN w' w.heap.size v ss /\ Below w.heap.size w w' := by
 have HA := hid (collectN_any Bm bm c w hBm hm hc)
 clear hBm hm hc
 have HLE := hid hle
 clear hle
 go_enter Tryz.func51, Tryz.ntmps51
 go_wp2_with fail
 refine HA.out.mono ?_
 rintro e w1 ⟨v, ss, rfl, hS, ho, hb⟩
 obtain ⟨a, n, cp, hv⟩ : ∃ a n c, v = .slice a n c := by
  rcases ho.2 with ⟨hv, _⟩ | ⟨g, cap, cur, hv, _⟩
  ·exact ⟨_, _, _, hv⟩
  ·exact ⟨_, _, _, hv⟩
 subst hv
 have HC := hid (sortN_any a n cp ss w.heap.size w1 ho hb.size hS (HLE.out ss hS))
 have HB := hid hb
 clear hS ho hb HA
 go_wp2_with fail
 refine HC.out.mono ?_
 rintro e w2 ⟨rfl, ss', hr, hmem, ho2, hb2⟩
 have HF : Hid (SrtN f ss' /\ OwnKN w2 w.heap.size (.slice a n cp) ss' /\ Below w.heap.size w w2) := ⟨⟨hr, hmem⟩, ho2, HB.out.trans hb2⟩
 clear hr hmem ho2 hb2
 go_wp2_with fail
 go_ret
 exact ⟨_, ss', rfl, HF.out⟩
end Go.Proofs.YtpdnnikkaojnkaaGreat.Rt
