import Derived.Test.YtenhofbhkchjoaaU
import Derived.Shelf.SlSortCmp.WholeK
import Derived.Shelf.SlGeneric
import Derived.Ground.SlsfProg
namespace Go.Proofs.Ytenhofbhkchjoaa
open Go.ChangeShapes Go.WideShapes Go.ChangeAt Go.RowKit
open Go.Shelf Go.Lib
set_option maxHeartbeats 400000
shelf_lay_g SlLaysF0.n6 Slsf 6 at Try 36 as Try.sortP

def cmpA (x y : Nat) : Int := if x < y then -1 else if y < x then 1 else 0

theorem compare_any (x y : Nat) (w : World) : Calls Try.prog 38 #[.int .u32 x, .int .u32 y] w fun e w' => e = .returned (.int .i64 (cmpA x y)) ∧ w' = w := by
  by_cases h1 : x < y
  · have HE : Hid (cmpA x y = -1) := by unfold Hid cmpA; rw [if_pos h1]
    go_enter Try.func38, Try.ntmps38
    go_wp2
    go_ret
    exact ⟨ret_int HE.out.symm, rfl⟩
  · by_cases h2 : y < x
    · have HE : Hid (cmpA x y = 1) := by unfold Hid cmpA; rw [if_neg h1, if_pos h2]
      go_enter Try.func38, Try.ntmps38
      go_wp2
      go_ret
      exact ⟨ret_int HE.out.symm, rfl⟩
    · have HE : Hid (cmpA x y = 0) := by unfold Hid cmpA; rw [if_neg h1, if_neg h2]
      go_enter Try.func38, Try.ntmps38
      go_wp2
      go_ret
      exact ⟨ret_int HE.out.symm, rfl⟩

theorem closure_any (x y : Nat × Int) (W : World) : Calls Try.prog 37 #[.agg #[.int .u32 (x.1 : Int), .int .i64 x.2], .agg #[.int .u32 (y.1 : Int), .int .i64 y.2]] W fun e w' => e = .returned (.int .i64 (cmpA x.1 y.1)) ∧ ∃ q os', w' = Sort.grow (W.drewN q) os' := by
  go_enter Try.func37, Try.ntmps37
  go_wp2_with fail
  refine (compare_any x.1 y.1 _).mono ?_
  rintro e w' ⟨rfl, rfl⟩
  go_wp2_with fail
  go_ret
  exact ⟨rfl, 0, _, by rw [Sort.alloc_eq_grow, Sort.alloc_eq_grow, Sort.grow_grow]; rfl⟩

theorem cmpLays_any (blk off size : Nat) (w : World) : CmpLays Try.prog 37 #[] pq 2 (fun x y : Nat × Int => cmpA x.1 y.1) blk off size w :=
  fun _ _ _ _ x y => closure_any x y _

theorem ltA (x y : Nat × Int) : ltOf (fun x y : Nat × Int => cmpA x.1 y.1) x y = decide (x.1 < y.1) := by
  unfold ltOf cmpA
  by_cases h1 : x.1 < y.1
  · simp [h1]
  · by_cases h2 : y.1 < x.1 <;> simp [h1, h2]

theorem swoA : Sort.SWO (ltOf fun x y : Nat × Int => cmpA x.1 y.1) where
  irrefl x := by rw [ltA]; simp
  trans x y z h1 h2 := by rw [ltA] at *; simp at *; omega
  ntrans x y z h1 h2 := by rw [ltA] at *; simp at *; omega

theorem cellsP_get (L : List (Nat × Int)) (t : Nat) (h : t < L.length * 2) : (cellsP L)[t]? = some ((pq L.toArray[t / 2]!)[t % 2]!) := by
  have h2 : t / 2 < L.length := by omega
  have e : L.toArray[t / 2]! = L[t / 2] := by simp [h2]
  rw [e]
  have a := cellsP_at L (t / 2) h2
  rcases Nat.mod_two_eq_zero_or_one t with m | m
  · rw [m]; conv => lhs; rw [show t = t / 2 * 2 from by omega]
    rw [a.1]; simp [pq]
  · rw [m]; conv => lhs; rw [show t = t / 2 * 2 + 1 from by omega]
    rw [a.2]; simp [pq]

theorem holds_of_owns {w : World} {B g n cap : Nat} {L : List (Nat × Int)} (hn : n = L.length) (h : w.ownsRow B 30 2 (.slice (some ⟨g, 0, none⟩) n cap) n (cellsP L)) : Sort.HoldsK pq 2 w g 0 L.toArray := by
  intro t ht
  rw [Sort.size_flatK] at ht
  have ht' : t < L.length * 2 := by simpa using ht
  rw [Sort.get_flatK _ _ _ _ ht, Nat.zero_add]
  exact ⟨by rw [h.cellAt t (by omega), cellsP_get L t ht']; rfl, h.frozenAt t⟩

theorem sees_of_holds {w : World} {g cap : Nat} {D : List (Nat × Int)} (h : Sort.HoldsK pq 2 w g 0 D.toArray) (hg : g < w.heap.size) (h1 : D.length ≤ cap) (h2 : cap ≤ maxLen) : Sees w (.slice (some ⟨g, 0, none⟩) D.length cap) D := by
  refine ⟨_, _, rfl, h1, h2, fun j hj => ⟨g, 0, rfl, hg, ?_, ?_⟩⟩
  · have := (h.cell (i := j) (c := 0) (by simpa using hj) (by omega)).1
    rw [Nat.add_zero] at this
    rw [this]; simp [pq, hj]
  · have := (h.cell (i := j) (c := 1) (by simpa using hj) (by omega)).1
    rw [this]; simp [pq, hj]

theorem sortWorld_block (w : World) (g n : Nat) (d : Array (Nat × Int)) (os : Array Obj) (k : Nat) (hk : k < w.heap.size) (hne : k ≠ g) : (sortWorldK pq 2 w g 0 n d os).heap[k]? = w.heap[k]? := by
  show ((w.heap.modify g _) ++ os)[k]? = _
  rw [Array.getElem?_append_left (by simpa using hk), Array.getElem?_modify, if_neg (Ne.symm hne)]

theorem sortWorld_below {w0 w : World} {g n : Nat} {d : Array (Nat × Int)} {os : Array Obj} {B : Nat} (hb : Below B w0 w) (hg : B ≤ g) (hB : B ≤ w.heap.size) : Below B w0 (sortWorldK pq 2 w g 0 n d os) :=
  hb.trans ⟨rfl, rfl, rfl, size_sortWorldK_c pq 2 w g 0 n d os, fun k hk => sortWorld_block w g n d os k (by omega) (by omega)⟩

theorem insertion_none (p : Option Addr) (cap : Nat) (fv : Value) (w : World) :
    Calls Try.prog 43 #[.slice p 0 cap, .int .i64 0, .int .i64 0, fv] w fun e w' => e = .returned (.tuple #[]) ∧ w' = w := by
  go_enter Try.func43, Try.ntmps43
  go_wp2
  refine wp_loop_rounds 1 ?_
  rw [rounds_succ]
  go_wp2
  go_end0
  exact ⟨rfl, rfl⟩

theorem pdq_none (p : Option Addr) (cap : Nat) (lim : Int) (fv : Value) (w : World) :
    Calls Try.prog 40 #[.slice p 0 cap, .int .i64 0, .int .i64 0, .int .i64 lim, fv] w fun e w' => e = .returned (.tuple #[]) ∧ w' = w := by
  go_enter Try.func40, Try.ntmps40
  go_wp2
  refine wp_loop_rounds 1 ?_
  rw [rounds_succ]
  go_wp2_with (go_at_call 43; refine (insertion_none _ _ _ _).mono ?_; rintro e w' ⟨rfl, rfl⟩)
  (try simp only [Exit.inBlock, Exit.then]); refine bodyPost_ret (results_none rfl _ _ _) rfl ?_
  exact ⟨rfl, rfl⟩

theorem sort_none (p : Option Addr) (cap : Nat) (fv : Value) (w : World) :
    Calls Try.prog 36 #[.slice p 0 cap, fv] w fun e w' => e = .returned (.tuple #[]) ∧ w' = w := by
  go_enter Try.func36, Try.ntmps36
  go_wp2_with (first | (go_at_call 40; refine (pdq_none _ _ _ _ _).mono ?_; rintro e w' ⟨rfl, rfl⟩) | go_in)
  go_end0
  exact ⟨rfl, rfl⟩

theorem cellsP_len (L : List (Nat × Int)) : (cellsP L).length = L.length * 2 := by
  induction L with
  | nil => rfl
  | cons p L ih => simp only [cellsP, List.flatMap_cons, List.length_append, List.length_cons] at ih ⊢; rw [ih]; simp [pq]; omega

theorem sees_cells {w : World} {a : Addr} {n cap : Nat} {L : List (Nat × Int)} (h : Sees w (.slice (some a) n cap) L) : ∀ j u, (cellsP L)[j]? = some u → w.cell? (a.add j) = some u := by
  obtain ⟨ao', cap', hv, h1, h2, h3⟩ := h
  simp at hv
  obtain ⟨rfl, rfl, rfl⟩ := hv
  intro j u hj
  have hlen := cellsP_len L
  have hj2 : j < L.length * 2 := by have := (List.getElem?_eq_some_iff.1 hj).1; omega
  obtain ⟨g, off, e, _, c, d⟩ := h3 (j / 2) (by omega)
  simp at e
  subst e
  have hadd : (⟨g, off, none⟩ : Addr).add j = ⟨g, off + j, none⟩ := by unfold Addr.add; split <;> simp_all
  rw [hadd]
  have a := cellsP_at L (j / 2) (by omega)
  rcases Nat.mod_two_eq_zero_or_one j with m | m
  · have ej : j = j / 2 * 2 := by omega
    rw [ej] at hj
    rw [a.1] at hj
    rw [show off + j = off + j / 2 * 2 from by omega, c]; exact hj
  · have ej : j = j / 2 * 2 + 1 := by omega
    rw [ej] at hj
    rw [a.2] at hj
    rw [show off + j = off + j / 2 * 2 + 1 from by omega, d]; exact hj

theorem cellsP_one (L : List (Nat × Int)) : ∀ u ∈ cellsP L, u.oneCell' = true := by
  intro u hu
  obtain ⟨p, _, hp⟩ := List.mem_flatMap.1 hu
  simp [pq] at hp
  rcases hp with rfl | rfl <;> rfl

theorem clone_any (v : Value) (L : List (Nat × Int)) (w : World) (hs : Sees w v L) (hbig : L.length * 16 ≤ 140737488355328) :
    Calls Try.prog 35 #[v] w fun e w' => ∃ v', e = .returned v' ∧ w'.ownsRow w.heap.size 30 2 v' L.length (cellsP L) ∧ Below w.heap.size w w' := by
  obtain ⟨ao, n, cap, rfl, HN, hnc, hcap⟩ := hs.shape
  obtain ⟨i0, hi0, hz0, hz1, hz2⟩ := info_parts Try.info30
  have HI : Hid (Try.prog.info? 30 = some i0) := hi0
  have HB : Hid (L.length * 16 ≤ 140737488355328) := hbig
  have q25 : ∀ (w : World) (a : Option Addr) (n c n' c' : Nat), (binOp .eql 25 (.slice a n c) (.slice none n' c')).run Try.prog w = .ok (.bool a.isNone) w := fun w a n c n' c' => Lib.run_eql_slice_nil w _ _ a n c n' c' Try.underlying25
  clear hi0 hbig
  cases ao with
  | none =>
    have hn : L = [] := by
      cases L with
      | nil => rfl
      | cons p t =>
        obtain ⟨g, off, q, e, _⟩ := hs.at 0 (by have := HN.out; simp at this; omega)
        cases e
    subst hn
    go_enter Try.func35, Try.ntmps35
    go_wp2
    go_ret
    exact ⟨_, rfl, World.ownsRow_nil _ _ _ _, Below.refl _ _⟩
  | some a =>
    go_enter Try.func35, Try.ntmps35
    go_wp2_with (at_builtin; refine wpList_append_own _ rfl _ _ 25 rfl w.heap.size 30 i0 (.agg #[.int .u32 0, .int .i64 0]) 2 16 Try.underlying25 HI.out hz0 hz1 hz2 rfl (by decide) _ _ _ rfl (World.ownsRow_made w #[] 0 (Nat.le_refl _) (Nat.zero_le _) (by simp)) a n cap (cellsP L) rfl ?c0 ?c1 (cellsP_one L) ?c3 ?c4 ?c5 ?_)
    case c0 => rw [HN.out]; exact cellsP_len L
    case c1 =>
      intro j u hj
      exact Lib.cell?_alloc_some _ (sees_cells hs j u hj)
    case c3 => unfold maxLen at *; omega
    case c4 => have := HB.out; have := HN.out; omega
    case c5 => simp
    · intro v' w1 hown hgrow _
      have hb1 : Below w.heap.size w w1 := ((Below.refl _ w).alloc (Nat.le_refl _) _).grown hgrow (by simp) (by intro k hk; simp [Value.ownBlock] at hk; omega)
      clear hgrow
      go_wp2
      go_ret
      exact ⟨_, rfl, by rw [← HN.out]; exact hown, hb1⟩

theorem rises_of_sorted {D : List (Nat × Int)} (h : Sort.SortedIn (ltOf fun x y : Nat × Int => cmpA x.1 y.1) 0 D.length D.toArray) : M.Rises (D.map iv) := by
  rw [rises_pw, List.pairwise_map, List.pairwise_iff_getElem]
  intro i j hi hj hij
  have := h i j (Nat.zero_le _) hij hj
  rw [ltA] at this
  simp [hi, hj] at this
  show decide ((iv D[i]).1 ≤ (iv D[j]).1) = true
  exact decide_eq_true this

theorem hid {p : Prop} (h : p) : Hid p := h

theorem byBase_any : ByBaseSaid := by
  intro v L w hs h4
  go_enter Try.func27, Try.ntmps27
  go_wp2_with fail
  refine (clone_any v L _ hs (by omega)).mono ?_
  rintro e w1 ⟨v1, rfl, hown, hb1⟩
  by_cases hn : 0 < L.length
  · obtain ⟨g, cap, rfl, hg⟩ := owns_shape hown hn
    have hH := holds_of_owns rfl hown
    have hcap : L.length ≤ cap ∧ cap ≤ maxLen := by
      rcases hown.2 with ⟨h, _⟩ | ⟨g', cap', cur, h, _, _, h1, h2, _⟩
      · cases h
      · simp at h; obtain ⟨_, rfl⟩ := h; exact ⟨h1, h2⟩
    have hblk : g < w1.heap.size := (hown.lt g rfl).2
    have eg : ∀ args w, (callFunc 37 args).run Try.prog w = .ok (.enter 37 args) w := enters_of Try.func37 (by kernel_rfl) rfl
    have hcon := AnyQ.slices_SortFunc Try.sortP 2 Try.isAgg30 Try.sizeOf30 pq (fun _ => rfl) (fun x v hv => by simp [pq] at hv; rcases hv with rfl | rfl <;> rfl) (fun x y => cmpA x.1 y.1) swoA 37 #[] g 0 cap L.toArray w1 eg (cmpLays_any g 0 L.toArray.size w1) hH hblk (by simp; omega)
    change Calls Try.prog 36 _ _ _ at hcon
    simp only [List.size_toArray] at hcon
    have HC := hid hcon
    have HH := hid hH
    have HCAP := hid hcap
    clear hcon eg hcap hH
    go_wp2_with fail
    refine HC.out.mono ?_
    rintro e w2 ⟨rfl, d', n, os, hp, hsd, rfl⟩
    go_wp2_with fail
    have hsz : d'.size = L.length := by have := hp.1; simpa using this
    have hD : d'.toList.length = L.length := by simpa using hsz
    have hHd : Sort.HoldsK pq 2 (sortWorldK pq 2 w1 g 0 n d' os) g 0 d' := holdsK_sortWorldK_c pq 2 w1 g 0 L.toArray d' n os HH.out hblk (by simpa using hsz)
    go_ret
    refine ⟨_, d'.toList, rfl, ?_, ?_, ?_, sortWorld_below hb1 hg hb1.size⟩
    · have h1 := sees_of_holds (D := d'.toList) (cap := cap) (by simpa using hHd) (Nat.lt_of_lt_of_le hblk (size_sortWorldK_c pq 2 w1 g 0 n d' os)) (by rw [hD]; exact HCAP.out.1) HCAP.out.2
      rw [hD] at h1; exact h1
    · have h3 := hp.2.2
      rw [← hsz] at h3
      simp only [Array.extract_size] at h3
      rw [hsz] at h3
      have e2 : (L.toArray.extract 0 L.length).toList = L := by simp
      rw [e2] at h3; exact h3
    · exact rises_of_sorted (by rw [hD]; simpa using hsd)
  · have hL : L = [] := List.eq_nil_of_length_eq_zero (by omega)
    subst hL
    obtain ⟨ao, n, cap, rfl, HN, hnc, hcap⟩ := (sees_of_ownsP hown).shape
    have hn0 : n = 0 := HN.out
    subst hn0
    have hse := sees_of_ownsP hown
    go_wp2_with fail
    refine (sort_none _ _ _ _).mono ?_
    rintro e w2 ⟨rfl, rfl⟩
    go_wp2_with fail
    go_ret
    exact ⟨_, [], rfl, hse, List.Perm.refl _, trivial, hb1⟩
end Go.Proofs.Ytenhofbhkchjoaa
