/-
  Within, All: what they give; the reference's inside, Within, All.
-/
import Derived.Test.YtmnafocmbcgdiabXD
import Derived.Test.YtmnafocmbcgdiabWT
namespace Go.Proofs.Ytmnafocmbcgdiab
open Go.ChangeShapes Go.WideShapes Go.ChangeAt Go.RowKit Go.Shelf Tri N
set_option maxHeartbeats 4000000
set_option maxRecDepth 100000

theorem GivesN.weak {α : Type} {F : Fence} {n : Nat} {P : Program} {g : Nat} {lb : Array Value} {encs : α → Array Value} {xs : List α} {Fx Fy : Nat → World → Prop} (h : GivesN F n P g lb encs xs Fx) (hF : ∀ k W, Fy k W → Fx k W) : GivesN F n P g lb encs xs Fy :=
  fun l J Z W hJ hZ hJF hY h0 => h l J Z W hJ hZ (fun k W h => hF k W (hJF k W h)) hY h0

/-- The blocks of an iterator, for any two numbers. -/
structure SeqB (W : World) (X : Nat → Prop) (pbx tbx tb x : Nat) (y : Int) (m : MT) : Prop where
  ls : Lies W X m
  pb : W.heap[pbx]? = some (.cells #[.int .u32 (x : Int), .int .i64 y] 31)
  tx : W.heap[tbx]? = some (.cells #[.pointer (some ⟨tb, 0, none⟩)] 24)
  rt : W.heap[tb]? = some (.cells #[m.ptr] 50)

theorem SeqB.below {W W' : World} {X : Nat → Prop} {pbx tbx tb x : Nat} {y : Int} {m : MT} (h : SeqB W X pbx tbx tb x y m) (hb : Below W.heap.size W W') : SeqB W' X pbx tbx tb x y m :=
  ⟨h.ls.below hb, below_keeps hb h.pb (Array.getElem?_eq_some_iff.1 h.pb).1, below_keeps hb h.tx (Array.getElem?_eq_some_iff.1 h.tx).1, below_keeps hb h.rt (Array.getElem?_eq_some_iff.1 h.rt).1⟩

/-- What an iterator hands out. -/
def entsIn (L : List (K × Int)) (x : Nat) (y : Int) : List (K × Int) := if valB x y then L.filter (inP ⟨x, y.toNat⟩) else []

theorem within_none (n : Nat) (pbx tbx x : Nat) (y : Int) (hx : x < 4294967296) (hb : Bad x y) :
    GivesN Fence.wide n Try.prog 41 #[.pointer (some ⟨pbx, 0, none⟩), .pointer (some ⟨tbx, 0, none⟩)] (fun e : K × Int => #[pv e.1, .int .i64 e.2]) [] (fun _ W => W.heap[pbx]? = some (.cells #[.int .u32 (x : Int), .int .i64 y] 31)) := by
  intro l J Z W hJ hZ hJF hY h0
  obtain ⟨W1, HW1⟩ : ∃ W1, Hid (W1 = W.alloc (.cells #[.func (.yield l) #[] #[]] 93)) := ⟨_, rfl⟩
  have hb1 : Below W.heap.size W W1 := by rw [HW1.out]; exact (Below.refl _ _).alloc (Nat.le_refl _) _
  have hr0 := hJF _ _ h0
  have hr := below_keeps hb1 hr0 (Array.getElem?_eq_some_iff.1 hr0).1
  have x0 : W1.cell? ⟨pbx, 0, none⟩ = some (.int .u32 (x : Int)) := by rw [cell_of_row _ _ _ _ _ _ hr]; rfl
  have x1 : W1.cell? ⟨pbx, 1, none⟩ = some (.int .i64 y) := by rw [cell_of_row _ _ _ _ _ _ hr]; rfl
  have HV := hid (valid_bad W1 hx hb)
  have HJ1 : Hid (∀ W2, Below W1.heap.size W1 W2 → J 0 W2) := fun W2 h => hJ.below (hJ.below h0 hb1) h
  unfold qv at HV
  clear hJ hZ hJF hY h0 hr0 hr hb1 hx hb
  refine callsIn_of_wp_marks Try.func41 rfl trivial ?_ rfl
  refine wpIn_wide.2 ?_
  simp only [Try.ntmps41, List.size_toArray, List.length_cons, List.length_nil, Nat.reduceAdd, Nat.reduceSub, Array.replicate_succ, Array.replicate_zero, List.push_toArray, List.append_toArray, List.nil_append, List.cons_append]
  go_upto_region 1 with fail
  rw [← HW1.out]
  go_wp2_with fail
  refine HV.out.mono ?_
  rintro _ W2 ⟨rfl, hb2⟩
  have HJ2 := hid (HJ1.out W2 hb2)
  clear x0 x1 hb2
  go_wp2_with fail
  exact ⟨_, (by simp [results, Try.results41, go_sem]; rfl), ⟨_, rfl⟩, .inl HJ2.out⟩

theorem seq_gives (n : Nat) (hn : 4 ≤ n) (X : Nat → Prop) (pbx tbx tb x : Nat) (y : Int) (m : MT) (hx : x < 4294967296) {lo hi : Nat} (hwf : WF lo hi m.tr) (hm : nodes m.tr ≤ 10000000000) :
    GivesN Fence.wide n Try.prog 41 #[.pointer (some ⟨pbx, 0, none⟩), .pointer (some ⟨tbx, 0, none⟩)] (fun e : K × Int => #[pv e.1, .int .i64 e.2]) (entsIn (ents m.tr) x y) (fun _ W => SeqB W X pbx tbx tb x y m) := by
  unfold entsIn
  rcases bad_or (y := y) hx with hb | ⟨k, hk, rfl, rfl⟩
  · rw [valB_bad hb]
    exact (within_none n pbx tbx x y hx hb).weak fun _ W h => h.pb
  · rw [valB_ok hk]
    exact (within_gives n hn X pbx tbx tb m k hk hwf hm).weak fun _ W h => ⟨h.ls, fun _ => ⟨h.pb, h.tx, h.rt⟩⟩

theorem within_new {tb x : Nat} {y : Int} (w : World) :
    Calls Try.prog 29 #[.pointer (some ⟨tb, 0, none⟩), qv x y] w fun e w' => e = .returned (.func (.func 41) #[] #[.pointer (some ⟨w.heap.size + 1, 0, none⟩), .pointer (some ⟨w.heap.size, 0, none⟩)]) ∧ w' = (w.alloc (.cells #[.pointer (some ⟨tb, 0, none⟩)] 24)).alloc (.cells #[.int .u32 (x : Int), .int .i64 y] 31) := by
  unfold qv
  go_enter Try.func29, Try.ntmps29
  go_wp2_with fail
  go_ret
  exact ⟨rfl, rfl⟩

theorem all_new {tb : Nat} (w : World) :
    Calls Try.prog 24 #[.pointer (some ⟨tb, 0, none⟩)] w fun e w' => e = .returned (.func (.func 41) #[] #[.pointer (some ⟨w.heap.size + 1, 0, none⟩), .pointer (some ⟨w.heap.size, 0, none⟩)]) ∧ w' = (w.alloc (.cells #[.pointer (some ⟨tb, 0, none⟩)] 24)).alloc (.cells #[.int .u32 ((0 : Nat) : Int), .int .i64 0] 31) := by
  have HW := hid (within_new (tb := tb) (x := 0) (y := 0) w)
  unfold qv at HW
  go_enter Try.func24, Try.ntmps24
  go_wp2_with fail
  refine HW.out.mono ?_
  rintro _ w1 ⟨rfl, hw1⟩
  have HW1 := hid hw1
  clear hw1
  go_wp2_with fail
  go_ret
  exact ⟨rfl, HW1.out⟩

theorem entsIn_all {lo hi : Nat} {t : Tr} (hW : WF lo hi t) : entsIn (ents t) 0 0 = ents t := by
  unfold entsIn
  rw [if_pos (by decide)]
  refine filter_all fun e he => ?_
  have h := ents_in hW e he
  exact (inP_ins (p := ⟨0, (0 : Int).toNat⟩) top_ok h.1).2 h.1.top

theorem insideR_any {q p : K} (w : World) (hq : q.Ok) (hp : p.Ok) :
    Calls Try.prog 52 #[pv q, pv p] w fun e w' => e = .returned (.bool (decide (p.n ≤ q.n) && hasK p q.x)) ∧ Below w.heap.size w w' := by
  obtain ⟨w1, hw1⟩ : ∃ w1, w1 = w.alloc (.cells #[.int .u32 (q.x : Int), .int .i64 (q.n : Int)] 31) := ⟨_, rfl⟩
  obtain ⟨w2, hw2⟩ : ∃ w2, w2 = w1.alloc (.cells #[.int .u32 (p.x : Int), .int .i64 (p.n : Int)] 31) := ⟨_, rfl⟩
  have hs1 : w1.heap.size = w.heap.size + 1 := by rw [hw1]; simp
  have hb1 : Below w.heap.size w w1 := by rw [hw1]; exact (Below.refl _ _).alloc (Nat.le_refl _) _
  have hb2 : Below w1.heap.size w1 w2 := by rw [hw2]; exact (Below.refl _ _).alloc (Nat.le_refl _) _
  have hb0 : Below w.heap.size w w2 := hb1.trans (hb2.mono (by omega))
  have r1 : w2.heap[w.heap.size]? = some (.cells #[.int .u32 (q.x : Int), .int .i64 (q.n : Int)] 31) := by
    rw [hb2.block _ (by omega), hw1]; exact heap_alloc_new w _
  have r2 : w2.heap[w.heap.size + 1]? = some (.cells #[.int .u32 (p.x : Int), .int .i64 (p.n : Int)] 31) := by rw [hw2, ← hs1]; exact heap_alloc_new w1 _
  have q0 : w2.cell? ⟨w.heap.size, 0, none⟩ = some (.int .u32 (q.x : Int)) := by rw [cell_of_row _ _ _ _ _ _ r1]; rfl
  have q1 : w2.cell? ⟨w.heap.size, 1, none⟩ = some (.int .i64 (q.n : Int)) := by rw [cell_of_row _ _ _ _ _ _ r1]; rfl
  have p0 : w2.cell? ⟨w.heap.size + 1, 0, none⟩ = some (.int .u32 (p.x : Int)) := by rw [cell_of_row _ _ _ _ _ _ r2]; rfl
  have p1 : w2.cell? ⟨w.heap.size + 1, 1, none⟩ = some (.int .i64 (p.n : Int)) := by rw [cell_of_row _ _ _ _ _ _ r2]; rfl
  have HW2 : Hid (w2 = (w.alloc (.cells #[.int .u32 (q.x : Int), .int .i64 (q.n : Int)] 31)).alloc (.cells #[.int .u32 (p.x : Int), .int .i64 (p.n : Int)] 31)) := by unfold Hid; rw [hw2, hw1]
  have HB0 := hid hb0
  have HH := hid (holdsR_any q.x w2 hp hq.2.2)
  unfold pv at HH ⊢
  generalize hasK p q.x = R at *
  clear hw1 hw2 hs1 hb1 hb2 hb0 r1 r2
  by_cases h : p.n ≤ q.n
  · have h' : (p.n : Int) ≤ (q.n : Int) := by omega
    have HF : Hid ((decide (p.n ≤ q.n) && R) = R) := by unfold Hid; simp [h]
    clear h
    go_enter Try.func52, Try.ntmps52
    go_upto_region 1 with fail
    rw [← HW2.out]
    go_wp2_with fail
    refine HH.out.mono ?_
    rintro _ w3 ⟨rfl, hb3⟩
    clear q0 q1 p0 p1
    go_wp2_with fail
    go_ret
    exact ⟨ret_bool HF.out.symm, HB0.out.trans (hb3.mono HB0.out.size)⟩
  · have h' : ¬ (p.n : Int) ≤ (q.n : Int) := by omega
    have HF : Hid ((decide (p.n ≤ q.n) && R) = false) := by unfold Hid; simp [h]
    clear h
    go_enter Try.func52, Try.ntmps52
    go_upto_region 1 with fail
    rw [← HW2.out]
    go_wp2_with fail
    go_ret
    exact ⟨ret_bool HF.out.symm, HB0.out⟩
end Go.Proofs.Ytmnafocmbcgdiab
