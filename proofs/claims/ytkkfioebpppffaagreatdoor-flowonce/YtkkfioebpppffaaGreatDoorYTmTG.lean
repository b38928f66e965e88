import Derived.Test.YtkkfioebpppffaaGreatDoorEG
import Derived.Maps.AppendAt
namespace Go.Proofs.YtkkfioebpppffaaGreatDoor.Tm
open Go.ChangeShapes Go.WideShapes Go.ChangeAt Go.RowKit Go.Maps H
set_option maxHeartbeats 1000000
set_option maxRecDepth 100000

/-- A Timers at rest: it lies at b, its map at bm, its row at go; it holds S. -/
structure Tm (w : World) (b bm : Nat) (go : Option Nat) (lim : Int) (S : List Dl) : Prop where
  ex : ∃ v L f, w.heap[b]? = some (.cells #[.int .i64 lim, v, .map (some bm)] 84 (0, 0)) ∧ w.ownsRow 0 115 2 v L.length (ds L) ∧ v.ownBlock = go ∧ MapF w bm f L.length ∧ (∀ x ∈ L, In64 x.1 ∧ In64 x.2) ∧ Heap L.length (at' L) f ∧ Rep L.length (at' L) S
  lo : 1 ≤ lim
  hi : lim ≤ 65536
  fits : (S.length : Int) ≤ lim

def fp (b bm : Nat) (go : Option Nat) : List Nat := b :: bm :: go.toList

theorem rowD_iff {w : World} {g cap : Nat} {L : List Dl} : RowD w g cap L ↔ w.ownsRow 0 115 2 (.slice (some ⟨g, 0, none⟩) L.length cap) L.length (ds L) := by
  constructor
  · rintro ⟨cur, h1, h2, h3, h4, h5⟩
    exact ⟨ds_len L, .inr ⟨g, cap, cur, rfl, Nat.zero_le _, h1, h2, h3, h4, h5⟩⟩
  · rintro ⟨_, ⟨h, _⟩ | ⟨g', cap', cur, h, _, h1, h2, h3, h4, h5⟩⟩
    · cases h
    · cases h
      exact ⟨cur, h1, h2, h3, h4, h5⟩

/-- Empty and new, or with a row. -/
theorem Tm.cases {w : World} {b bm : Nat} {go : Option Nat} {lim : Int} {S : List Dl} (h : Tm w b bm go lim S) :
    (go = none ∧ S = [] ∧ ∃ f, w.heap[b]? = some (.cells #[.int .i64 lim, .slice none 0 0, .map (some bm)] 84 (0, 0)) ∧ MapF w bm f 0 ∧ ∀ x, f x = none) ∨
    (∃ g cap L f, go = some g ∧ Mm w b bm g cap lim L f L.length ∧ Heap L.length (at' L) f ∧ Rep L.length (at' L) S ∧ S.length = L.length) := by
  obtain ⟨v, L, f, hr, ho, hg, hm, hd, hH, hR⟩ := h.ex
  have hlen := hR.len hH.inj
  have h1 := h.lo
  have h2 := h.hi
  have h3 := h.fits
  rcases ho.2 with ⟨rfl, hn⟩ | ⟨g, cap, cur, rfl, hb, hgg, hnc, hcm, hcs, ht⟩
  · have hL : L = [] := List.eq_nil_of_length_eq_zero hn
    subst hL
    refine .inl ⟨hg.symm, List.eq_nil_of_length_eq_zero hlen, f, hr, hm, fun x => ?_⟩
    cases hx : f x with
    | none => rfl
    | some k => have := (hH.dom x k hx).1; simp at this
  · refine .inr ⟨g, cap, L, f, hg.symm, ⟨hr, ⟨cur, hgg, hnc, hcm, hcs, ht⟩, hm, hd, by omega, by omega⟩, hH, hR, hlen⟩

theorem Tm.mk' {w : World} {b bm g cap : Nat} {lim : Int} {S L : List Dl} {f : Int → Option Nat} (hm : Mm w b bm g cap lim L f L.length) (hH : Heap L.length (at' L) f) (hR : Rep L.length (at' L) S) (h1 : 1 ≤ lim) (h2 : lim ≤ 65536) (h3 : (L.length : Int) ≤ lim) : Tm w b bm (some g) lim S :=
  ⟨⟨_, L, f, hm.row, rowD_iff.1 hm.own, rfl, hm.map, hm.dom, hH, hR⟩, h1, h2, by rw [hR.len hH.inj]; exact h3⟩

theorem Tm.lt {w : World} {b bm : Nat} {go : Option Nat} {lim : Int} {S : List Dl} (h : Tm w b bm go lim S) : ∀ x ∈ fp b bm go, x < w.heap.size := by
  intro x hx
  rcases h.cases with ⟨rfl, _, f, hr, hm, _⟩ | ⟨g, cap, L, f, rfl, hm, _⟩
  · simp [fp] at hx
    rcases hx with rfl | rfl
    · exact (Array.getElem?_eq_some_iff.1 hr).1
    · exact hm.lt
  · simp [fp] at hx
    rcases hx with rfl | rfl | rfl
    · exact hm.lt.1
    · exact hm.lt.2.2
    · exact hm.lt.2.1

/-- It stays while other blocks are written. -/
theorem Tm.fr {w w' : World} {F : List Nat} {b bm : Nat} {go : Option Nat} {lim : Int} {S : List Dl} (h : Tm w b bm go lim S) (hf : Fr F w w') (hd : ∀ x ∈ fp b bm go, x ∉ F) : Tm w' b bm go lim S := by
  have hlt := h.lt
  refine ⟨?_, h.lo, h.hi, h.fits⟩
  obtain ⟨v, L, f, hr, ho, hg, hm, hdm, hH, hR⟩ := h.ex
  refine ⟨v, L, f, (hf.block b (hlt b (by simp [fp])) (hd b (by simp [fp]))).trans hr, ?_, hg, hm.kept (hf.block bm (hlt bm (by simp [fp])) (hd bm (by simp [fp]))), hdm, hH, hR⟩
  refine ⟨ho.1, ?_⟩
  rcases ho.2 with hn | ⟨g, cap, cur, rfl, hb, hgg, rest⟩
  · exact .inl hn
  · have hgo : go = some g := hg.symm
    exact .inr ⟨g, cap, cur, rfl, hb, (hf.block g (hlt g (by simp [fp, hgo])) (hd g (by simp [fp, hgo]))).trans hgg, rest⟩

theorem Tm.below {w w' : World} {b bm : Nat} {go : Option Nat} {lim : Int} {S : List Dl} (h : Tm w b bm go lim S) (hb : Below w.heap.size w w') : Tm w' b bm go lim S :=
  h.fr (Fr.of_below hb []) (by simp)

theorem Tm.sorted {w : World} {b bm : Nat} {go : Option Nat} {lim : Int} {S : List Dl} (h : Tm w b bm go lim S) : S.Pairwise Lt := by
  obtain ⟨v, L, f, hr, ho, hg, hm, hd, hH, hR⟩ := h.ex
  exact hR.sorted

theorem Tm.ids {w : World} {b bm : Nat} {go : Option Nat} {lim : Int} {S : List Dl} (h : Tm w b bm go lim S) : ∀ x ∈ S, ∀ y ∈ S, x.1 = y.1 → x = y := by
  obtain ⟨v, L, f, hr, ho, hg, hm, hd, hH, hR⟩ := h.ex
  exact hR.ids hH.inj

theorem Tm.in64 {w : World} {b bm : Nat} {go : Option Nat} {lim : Int} {S : List Dl} (h : Tm w b bm go lim S) : ∀ x ∈ S, In64 x.1 ∧ In64 x.2 := by
  obtain ⟨v, L, f, hr, ho, hg, hm, hd, hH, hR⟩ := h.ex
  intro x hx
  obtain ⟨i, hi, rfl⟩ := (hR.mem x).2 hx
  exact hd _ (List.mem_iff_getElem?.2 ⟨i, at_get hi⟩)

theorem new_good (n : Int) (w : World) (h1 : 1 ≤ n) (h2 : n ≤ 65536) :
    Calls Tryz.prog 14 #[.int .i64 n] w fun e w' => ∃ b bm, e = .returned (.tuple #[.pointer (some ⟨b, 0, none⟩), .int .i64 0]) ∧ Tm w' b bm none n [] ∧ w.heap.size ≤ b ∧ w.heap.size ≤ bm ∧ b ≠ bm ∧ Below w.heap.size w w' := by
  have hmm := @run_makeMap Tryz.prog
  obtain ⟨w1, hw1⟩ : ∃ w1, w1 = w.alloc (.map #[] 0) := ⟨_, rfl⟩
  obtain ⟨w2, hw2⟩ : ∃ w2, w2 = w1.alloc (.cells #[.int .i64 n, .slice none 0 0, .map (some w.heap.size)] 84) := ⟨_, rfl⟩
  have hs1 : w1.heap.size = w.heap.size + 1 := by rw [hw1]; simp
  have hm1 : MapF w1 w.heap.size (fun _ => none) 0 := by rw [hw1]; exact MapF.made w
  have hb1 : Below w.heap.size w w1 := by rw [hw1]; exact (Below.refl _ _).alloc (Nat.le_refl _) _
  have hb2 : Below w1.heap.size w1 w2 := by rw [hw2]; exact (Below.refl _ _).alloc (Nat.le_refl _) _
  have hr : w2.heap[w.heap.size + 1]? = some (.cells #[.int .i64 n, .slice none 0 0, .map (some w.heap.size)] 84 (0, 0)) := by
    have := heap_alloc_new w1 (.cells #[.int .i64 n, .slice none 0 0, .map (some w.heap.size)] 84)
    rw [← hw2, hs1] at this
    exact this
  have HT : Hid (Tm w2 (w.heap.size + 1) w.heap.size none n []) := by
    refine ⟨⟨.slice none 0 0, [], fun _ => none, hr, World.ownsRow_nil _ _ _ _, rfl, hm1.kept (hb2.block _ (by omega)), by simp, ?_, ?_⟩, h1, h2, by simp; omega⟩
    · exact ⟨fun i j hi => absurd hi (by simp), fun i hi => absurd hi (by simp), fun x k hx => (by cases hx), fun i j _ hj => absurd hj (by simp)⟩
    · exact ⟨List.Pairwise.nil, fun x => by simp [Mem]⟩
  have HB : Hid (Below w.heap.size w w2) := hb1.trans (hb2.mono hb1.size)
  have HW : Hid (w2 = (w.alloc (.map #[] 0)).alloc (.cells #[.int .i64 n, .slice none 0 0, .map (some w.heap.size)] 84)) := by unfold Hid; rw [hw2, hw1]
  clear hw1 hw2 hs1 hm1 hb1 hb2 hr
  go_enter Tryz.func14, Tryz.ntmps14
  go_wp2_with fail
  rw [← HW.out]
  go_ret2
  exact ⟨w.heap.size + 1, w.heap.size, rfl, HT.out, by omega, by omega, by omega, HB.out⟩

theorem new_bad (n : Int) (w : World) (h : n < 1 ∨ 65536 < n) :
    Calls Tryz.prog 14 #[.int .i64 n] w fun e w' => e = .returned (.tuple #[.pointer none, .int .i64 1]) ∧ w' = w := by
  by_cases h1 : n < 1
  · go_enter Tryz.func14, Tryz.ntmps14
    go_wp2_with fail
    go_ret2
    exact ⟨rfl, rfl⟩
  · have h2 : 65536 < n := by omega
    go_enter Tryz.func14, Tryz.ntmps14
    go_wp2_with fail
    go_ret2
    exact ⟨rfl, rfl⟩

/-- When's answer. -/
def whenS (S : List Dl) (i : Int) : Int × Int := match S.find? (fun x => x.1 == i) with
  | some d => (d.2, 0)
  | none => (0, 3)

theorem whenS_held {S : List Dl} (hids : ∀ x ∈ S, ∀ y ∈ S, x.1 = y.1 → x = y) {d : Dl} (hd : d ∈ S) : whenS S d.1 = (d.2, 0) := by
  unfold whenS
  cases h : S.find? (fun x => x.1 == d.1) with
  | none =>
    have := List.find?_eq_none.1 h d hd
    simp at this
  | some x =>
    have h1 := List.mem_of_find?_eq_some h
    have h2 := List.find?_some h
    simp at h2
    rw [hids x h1 d hd h2]

theorem whenS_free {S : List Dl} {i : Int} (h : ∀ x ∈ S, x.1 ≠ i) : whenS S i = (0, 3) := by
  unfold whenS
  rw [List.find?_eq_none.2 (fun x hx => by simpa using h x hx)]

/-- Next's answer. -/
def nextS : List Dl → Value
  | [] => .tuple #[.int .i64 0, .int .i64 0, .int .i64 3]
  | d :: _ => .tuple #[.int .i64 d.1, .int .i64 d.2, .int .i64 0]

end Go.Proofs.YtkkfioebpppffaaGreatDoor.Tm
