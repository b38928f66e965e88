/-
  Within, All: what they give.
-/
import Derived.Test.YtmnafocmbcgdiaaXD
namespace Go.Proofs.Ytmnafocmbcgdiaa
open Go.ChangeShapes Go.WideShapes Go.ChangeAt Go.RowKit Go.Shelf Tri N
set_option maxHeartbeats 4000000
set_option maxRecDepth 100000

def valB (x : Nat) (y : Int) : Bool := decide (0 ≤ y ∧ y ≤ 32 ∧ x % 2 ^ (32 - y.toNat) = 0)

theorem valB_bad {x : Nat} {y : Int} (h : Bad x y) : valB x y = false := by
  unfold valB
  rw [decide_eq_false_iff_not]
  rintro ⟨h1, h2, h3⟩
  rcases h with h | h | h
  · omega
  · omega
  · exact h h3

theorem valB_ok {k : K} (h : k.Ok) : valB k.x (k.n : Int) = true := by
  unfold valB
  rw [decide_eq_true_eq]
  refine ⟨by omega, by have := h.1; omega, ?_⟩
  rw [Int.toNat_natCast]
  exact Nat.mod_eq_zero_of_dvd h.2.1

theorem GivesN.weak {α : Type} {F : Fence} {n : Nat} {P : Program} {g : Nat} {lb : Array Value} {encs : α → Array Value} {xs : List α} {Fx Fy : Nat → World → Prop} (h : GivesN F n P g lb encs xs Fx) (hF : ∀ k W, Fy k W → Fx k W) : GivesN F n P g lb encs xs Fy :=
  fun l J Z W hJ hZ hJF hY h0 => h l J Z W hJ hZ (fun k W h => hF k W (hJF k W h)) hY h0

/-- The blocks of an iterator, for any two numbers. -/
structure SeqB (W : World) (X : Nat → Prop) (pbx tbx tb x : Nat) (y : Int) (m : MT) : Prop where
  ls : Lies W X m
  pb : W.heap[pbx]? = some (.cells #[.int .u32 (x : Int), .int .i64 y] 32)
  tx : W.heap[tbx]? = some (.cells #[.pointer (some ⟨tb, 0, none⟩)] 25)
  rt : W.heap[tb]? = some (.cells #[m.ptr] 77)

theorem SeqB.below {W W' : World} {X : Nat → Prop} {pbx tbx tb x : Nat} {y : Int} {m : MT} (h : SeqB W X pbx tbx tb x y m) (hb : Below W.heap.size W W') : SeqB W' X pbx tbx tb x y m :=
  ⟨h.ls.below hb, below_keeps hb h.pb (Array.getElem?_eq_some_iff.1 h.pb).1, below_keeps hb h.tx (Array.getElem?_eq_some_iff.1 h.tx).1, below_keeps hb h.rt (Array.getElem?_eq_some_iff.1 h.rt).1⟩

/-- What an iterator hands out. -/
def entsIn (L : List (K × Int)) (x : Nat) (y : Int) : List (K × Int) := if valB x y then L.filter (inP ⟨x, y.toNat⟩) else []

theorem within_none (n : Nat) (pbx tbx x : Nat) (y : Int) (hx : x < 4294967296) (hb : Bad x y) :
    GivesN Fence.wide n Try.prog 43 #[.pointer (some ⟨pbx, 0, none⟩), .pointer (some ⟨tbx, 0, none⟩)] (fun e : K × Int => #[pv e.1, .int .i64 e.2]) [] (fun _ W => W.heap[pbx]? = some (.cells #[.int .u32 (x : Int), .int .i64 y] 32)) := by
  intro l J Z W hJ hZ hJF hY h0
  obtain ⟨W1, HW1⟩ : ∃ W1, Hid (W1 = W.alloc (.cells #[.func (.yield l) #[] #[]] 62)) := ⟨_, rfl⟩
  have hb1 : Below W.heap.size W W1 := by rw [HW1.out]; exact (Below.refl _ _).alloc (Nat.le_refl _) _
  have hr0 := hJF _ _ h0
  have hr := below_keeps hb1 hr0 (Array.getElem?_eq_some_iff.1 hr0).1
  have x0 : W1.cell? ⟨pbx, 0, none⟩ = some (.int .u32 (x : Int)) := by rw [cell_of_row _ _ _ _ _ _ hr]; rfl
  have x1 : W1.cell? ⟨pbx, 1, none⟩ = some (.int .i64 y) := by rw [cell_of_row _ _ _ _ _ _ hr]; rfl
  have HV := hid (valid_bad W1 hx hb)
  have HJ1 : Hid (∀ W2, Below W1.heap.size W1 W2 → J 0 W2) := fun W2 h => hJ.below (hJ.below h0 hb1) h
  unfold qv at HV
  clear hJ hZ hJF hY h0 hr0 hr hb1 hx hb
  refine callsIn_of_wp_marks Try.func43 rfl trivial ?_ rfl
  refine wpIn_wide.2 ?_
  simp only [Try.ntmps43, List.size_toArray, List.length_cons, List.length_nil, Nat.reduceAdd, Nat.reduceSub, Array.replicate_succ, Array.replicate_zero, List.push_toArray, List.append_toArray, List.nil_append, List.cons_append]
  go_upto_region 1 with fail
  rw [← HW1.out]
  go_wp2_with fail
  refine HV.out.mono ?_
  rintro _ W2 ⟨rfl, hb2⟩
  have HJ2 := hid (HJ1.out W2 hb2)
  clear x0 x1 hb2
  go_wp2_with fail
  exact ⟨_, (by simp [results, Try.results43, go_sem]; rfl), ⟨_, rfl⟩, .inl HJ2.out⟩

theorem seq_gives (n : Nat) (hn : 4 ≤ n) (X : Nat → Prop) (pbx tbx tb x : Nat) (y : Int) (m : MT) (hx : x < 4294967296) {lo hi : Nat} (hwf : WF lo hi m.tr) (hm : nodes m.tr ≤ 10000000000) :
    GivesN Fence.wide n Try.prog 43 #[.pointer (some ⟨pbx, 0, none⟩), .pointer (some ⟨tbx, 0, none⟩)] (fun e : K × Int => #[pv e.1, .int .i64 e.2]) (entsIn (ents m.tr) x y) (fun _ W => SeqB W X pbx tbx tb x y m) := by
  unfold entsIn
  rcases bad_or (y := y) hx with hb | ⟨k, hk, rfl, rfl⟩
  · rw [valB_bad hb]
    exact (within_none n pbx tbx x y hx hb).weak fun _ W h => h.pb
  · rw [valB_ok hk]
    exact (within_gives n hn X pbx tbx tb m k hk hwf hm).weak fun _ W h => ⟨h.ls, fun _ => ⟨h.pb, h.tx, h.rt⟩⟩

theorem within_new {tb x : Nat} {y : Int} (w : World) :
    Calls Try.prog 30 #[.pointer (some ⟨tb, 0, none⟩), qv x y] w fun e w' => e = .returned (.func (.func 43) #[] #[.pointer (some ⟨w.heap.size + 1, 0, none⟩), .pointer (some ⟨w.heap.size, 0, none⟩)]) ∧ w' = (w.alloc (.cells #[.pointer (some ⟨tb, 0, none⟩)] 25)).alloc (.cells #[.int .u32 (x : Int), .int .i64 y] 32) := by
  unfold qv
  go_enter Try.func30, Try.ntmps30
  go_wp2_with fail
  go_ret
  exact ⟨rfl, rfl⟩

theorem all_new {tb : Nat} (w : World) :
    Calls Try.prog 25 #[.pointer (some ⟨tb, 0, none⟩)] w fun e w' => e = .returned (.func (.func 43) #[] #[.pointer (some ⟨w.heap.size + 1, 0, none⟩), .pointer (some ⟨w.heap.size, 0, none⟩)]) ∧ w' = (w.alloc (.cells #[.pointer (some ⟨tb, 0, none⟩)] 25)).alloc (.cells #[.int .u32 ((0 : Nat) : Int), .int .i64 0] 32) := by
  have HW := hid (within_new (tb := tb) (x := 0) (y := 0) w)
  unfold qv at HW
  go_enter Try.func25, Try.ntmps25
  go_wp2_with fail
  refine HW.out.mono ?_
  rintro _ w1 ⟨rfl, hw1⟩
  have HW1 := hid hw1
  clear hw1
  go_wp2_with fail
  go_ret
  exact ⟨rfl, HW1.out⟩

theorem entsIn_all {lo hi : Nat} {t : Tr} (hW : WF lo hi t) : entsIn (ents t) 0 0 = ents t := by
  unfold entsIn
  rw [if_pos (by decide)]
  refine filter_all fun e he => ?_
  have h := ents_in hW e he
  exact (inP_ins (p := ⟨0, (0 : Int).toNat⟩) top_ok h.1).2 h.1.top

end Go.Proofs.Ytmnafocmbcgdiaa
