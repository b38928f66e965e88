import Derived.Test.YthpokoiclfbddaaDoorRows
import Derived.WalkKit
import Derived.ProofKit
import Derived.OpenShut
import Derived.Deep.QuietTactic
import Derived.BigQuiet
import Derived.Laws.BitsAllLaws
import Derived.Deep.CutRange
import Derived.Laws.AppendOwnNone
import Derived.Deep.MidRow
namespace Go.Proofs.YthpokoiclfbddaaDoor.N.M

/-- The words of joined bytes, added up; odd: the bytes begin within a word. -/
def tot (odd : Bool) : List Nat → Nat
  | [] => 0
  | x :: r => (if odd then x else 256 * x) + tot (!odd) r

/-- The parity behind n bytes more. -/
def par (o : Bool) (n : Nat) : Bool := if n % 2 = 0 then o else !o

theorem par_zero (o : Bool) : par o 0 = o := rfl

theorem par_succ (o : Bool) (n : Nat) : par (!o) n = par o (n + 1) := by
  unfold par
  by_cases h : n % 2 = 0
  · rw [if_pos h, if_neg (by omega)]
  · rw [if_neg h, if_pos (by omega)]; cases o <;> rfl

theorem par_add (o : Bool) (m n : Nat) : par (par o m) n = par o (m + n) := by
  unfold par
  by_cases h : m % 2 = 0 <;> by_cases g : n % 2 = 0
  · rw [if_pos h, if_pos g, if_pos (by omega)]
  · rw [if_pos h, if_neg g, if_neg (by omega)]
  · rw [if_neg h, if_pos g, if_neg (by omega)]
  · rw [if_neg h, if_neg g, if_pos (by omega)]; cases o <;> rfl

theorem tot_append (A B : List Nat) (o : Bool) : tot o (A ++ B) = tot o A + tot (par o A.length) B := by
  induction A generalizing o with
  | nil => simp [tot, par_zero]
  | cons x A ih => simp only [List.cons_append, tot, List.length_cons]; rw [ih, par_succ]; omega

theorem tot_le (L : List Nat) (o : Bool) (h : ∀ x ∈ L, x < 256) : tot o L ≤ 65280 * L.length := by
  induction L generalizing o with
  | nil => simp [tot]
  | cons x L ih =>
    have h1 := ih (!o) (fun y hy => h y (List.mem_cons_of_mem _ hy))
    have h2 := h x List.mem_cons_self
    simp only [tot, List.length_cons]
    split <;> omega

def fold (t : Nat) : Nat := if t = 0 then 0 else 1 + (t - 1) % 65535

theorem fold_le (t : Nat) : fold t ≤ 65535 := by
  unfold fold; split
  · omega
  · have := Nat.mod_lt (t - 1) (show 0 < 65535 by omega); omega

def csum (L : List Nat) : Nat := 65535 - fold (tot false L)

theorem csum_lt (L : List Nat) : csum L < 65536 := by unfold csum; omega

def adj (s o n : Nat) : Nat := 65535 - fold ((65535 - s) + (65535 - o) + n)

end Go.Proofs.YthpokoiclfbddaaDoor.N.M

namespace Go.Proofs.YthpokoiclfbddaaDoor.N
open Go.ChangeShapes Go.WideShapes Go.ChangeAt Go.RowKit
set_option maxHeartbeats 400000
set_option maxRecDepth 100000

def lenOf : Value → Nat
  | .slice _ n _ => n
  | _ => 0

theorem hid {p : Prop} (h : p) : Hid p := h
theorem ret_int {k : IntKind} {a b : Int} (h : a = b) : Ending.returned (.int k a) = .returned (.int k b) := by rw [h]
theorem ret_bool {a b : Bool} (h : a = b) : Ending.returned (.bool a) = .returned (.bool b) := by rw [h]

theorem complement_any (t : Nat) (w : World) (ht : t < 9223372036854775808) :
    Calls Tryd.prog 76 #[.int .u64 t] w fun e w' => e = .returned (.int .u16 ((65535 - M.fold t : Nat) : Int)) ∧ w' = w := by
  by_cases h : t = 0
  · subst h
    go_enter Tryd.func76, Tryd.ntmps76
    go_wp2
    go_ret
    exact ⟨rfl, rfl⟩
  · have hq : ((t : Int) == 0) = false := beq_false_of_ne (fun e => h (by exact_mod_cast e))
    have HF : Hid (65535 - M.fold t = 65534 - (t - 1) % 65535) := by unfold Hid M.fold; rw [if_neg h]; omega
    have h1 : 1 ≤ t := by omega
    go_enter Tryd.func76, Tryd.ntmps76
    go_wp2
    go_ret
    refine ⟨ret_int ?_, rfl⟩
    rw [HF.out]
    omega

theorem adjust_code (s o n : Nat) (w : World) (hs : s < 65536) (ho : o < 65536) (hn : n < 65536) :
    Calls Tryd.prog 78 #[.int .u16 s, .int .u16 o, .int .u16 n] w fun e w' => e = .returned (.int .u16 ((M.adj s o n : Nat) : Int)) ∧ w' = w := by
  go_enter Tryd.func78, Tryd.ntmps78
  go_wp2_with fail
  refine (show ∀ (i : Int) (u : World), i = (((65535 - s) + (65535 - o) + n : Nat) : Int) → Calls Tryd.prog 76 #[.int .u64 i] u fun e w' => e = .returned (.int .u16 ((M.adj s o n : Nat) : Int)) ∧ w' = u from fun i u hi => by subst hi; exact complement_any _ u (by omega)) _ _ (by omega) |>.mono ?_
  rintro _ _ ⟨rfl, rfl⟩
  go_wp2_with fail
  go_ret
  exact ⟨rfl, rfl⟩

/-- The slice value v shows, in the world w, the bytes L. -/
def SeesB (w : World) (v : Value) (L : List Nat) : Prop :=
  ∃ ao cap, v = .slice ao L.length cap ∧ (L.length ≤ cap ∧ (ao = none → cap = 0)) ∧ cap ≤ maxLen ∧
    ∀ j (h : j < L.length), ∃ g off, ao = some ⟨g, off, none⟩ ∧ g < w.heap.size ∧ w.cell? ⟨g, off + j, none⟩ = some (.int .u8 (L[j] : Int)) ∧ L[j] < 256

theorem SeesB.shape {w : World} {v : Value} {L : List Nat} (h : SeesB w v L) : ∃ ao n cap, v = .slice ao n cap ∧ Hid (n = L.length) ∧ n ≤ cap ∧ cap ≤ maxLen := by
  obtain ⟨ao, cap, hv, h1, h2, _⟩ := h
  exact ⟨ao, L.length, cap, hv, rfl, h1.1, h2⟩

theorem SeesB.at {w : World} {ao : Option Addr} {n cap : Nat} {L : List Nat} (h : SeesB w (.slice ao n cap) L) (j : Nat) (hj : j < n) : ∃ (g off p : Nat), ao = some ⟨g, off, none⟩ ∧ g < w.heap.size ∧ w.cell? ⟨g, off + j, none⟩ = some (.int .u8 (p : Int)) ∧ p < 256 ∧ Hid (L[j]? = some p) := by
  obtain ⟨ao', cap', hv, h1, h2, h3⟩ := h
  simp at hv
  obtain ⟨rfl, rfl, rfl⟩ := hv
  obtain ⟨g, off, a, b, c, d⟩ := h3 j hj
  exact ⟨g, off, L[j], a, b, c, d, List.getElem?_eq_getElem hj⟩

theorem SeesB.below {w w' : World} {v : Value} {L : List Nat} (h : SeesB w v L) (hb : Below w.heap.size w w') : SeesB w' v L := by
  obtain ⟨ao, cap, hv, h1, h2, h3⟩ := h
  refine ⟨ao, cap, hv, h1, h2, fun j hj => ?_⟩
  obtain ⟨g, off, ha, hg, c0, c1⟩ := h3 j hj
  exact ⟨g, off, ha, Nat.lt_of_lt_of_le hg hb.size, (hb.cell (p := ⟨g, _, none⟩) hg).trans c0, c1⟩

theorem SeesB.bytes {w : World} {v : Value} {L : List Nat} (h : SeesB w v L) : ∀ x ∈ L, x < 256 := by
  obtain ⟨ao, cap, hv, h1, h2, h3⟩ := h
  intro x hx
  obtain ⟨j, hj, rfl⟩ := List.mem_iff_getElem.1 hx
  obtain ⟨_, _, _, _, _, h⟩ := h3 j hj
  exact h

theorem sees_nil (w : World) : SeesB w (.slice none 0 0) [] := ⟨none, 0, rfl, ⟨by simp, fun _ => rfl⟩, by unfold maxLen; omega, fun j h => absurd h (by simp)⟩

theorem below_drew {B : Nat} {a w : World} (h : Below B a w) : Below B a w.drew := ⟨h.os, h.tape, h.output, h.size, h.block⟩

theorem or_u16 (x y : Nat) (hx : x < 256) (hy : y < 256) : bits .or .u16 ((x * 256 : Nat) : Int) (y : Int) = ((x * 256 + y : Nat) : Int) := by
  rw [u16_or_nat (x * 256) y (by omega) (by omega)]
  congr 1
  have := Nat.two_pow_add_eq_or_of_lt (i := 8) (b := y) (by omega) x
  rw [Nat.mul_comm x 256]
  exact this.symm

/-- Two bytes at a slice's head. -/
theorem read16_any (v : Value) (x y : Nat) (r : List Nat) (w : World) (hv : SeesB w v (x :: y :: r)) :
    Calls Tryd.prog 75 #[v] w fun e w' => e = .returned (.int .u16 ((x * 256 + y : Nat) : Int)) ∧ Below w.heap.size w w' := by
  obtain ⟨ao, n, cap, rfl, HN, hn1, hn2⟩ := hv.shape
  have h2 : 2 ≤ n := by have := HN.out; simp at this; omega
  obtain ⟨g, off, p, rfl, hg, hc0, hp, HP⟩ := hv.at 0 (by omega)
  obtain ⟨g', off', q, he, hg', hc1, hq, HQ⟩ := hv.at 1 (by omega)
  simp at he
  obtain ⟨rfl, rfl⟩ := he
  have HO := or_u16 p q hp hq
  have e1 : p = x := by have := HP.out; simpa using this.symm
  have e2 : q = y := by have := HQ.out; simpa using this.symm
  have HR : Hid (bits .or .u16 ((p * 256 : Nat) : Int) (q : Int) = ((x * 256 + y : Nat) : Int)) := by unfold Hid; rw [HO, e1, e2]
  clear HO e1 e2 HP HQ hv
  rw [Nat.add_zero] at hc0
  have b0 : 0 < n := by omega
  have b1 : 1 < n := by omega
  go_enter Tryd.func75, Tryd.ntmps75
  go_wp2
  go_region
  go_wp2
  go_ret
  exact ⟨ret_int (by rw [← HR.out]; simp), below_drew (Below.refl _ _)⟩

theorem SeesB.back {w : World} {g off n cap : Nat} {L : List Nat} (h : SeesB w (.slice (some ⟨g, off, none⟩) n cap) L) (m : Nat) (hm : m ≤ n) :
    SeesB w (.slice (if cap = m then some ⟨g, off, none⟩ else some ⟨g, off + m, none⟩) (n - m) (cap - m)) (L.drop m) := by
  obtain ⟨ao', cap', hv, h1, h2, h3⟩ := h
  simp at hv
  obtain ⟨rfl, rfl, rfl⟩ := hv
  refine ⟨_, cap - m, by rw [List.length_drop], ⟨by rw [List.length_drop]; omega, fun h => by split at h <;> cases h⟩, by omega, fun j hj => ?_⟩
  rw [List.length_drop] at hj
  obtain ⟨g', off', ha, hg, hc, hb⟩ := h3 (m + j) (by omega)
  simp at ha
  obtain ⟨rfl, rfl⟩ := ha
  refine ⟨g, off + m, by rw [if_neg (by omega)], hg, ?_, ?_⟩
  · rw [List.getElem_drop, Nat.add_assoc]; exact hc
  · rw [List.getElem_drop]; exact hb

/-- A cut 'x[m:]': its value is kept a letter. -/
theorem SeesB.low {w : World} {ao : Option Addr} {n cap : Nat} {L : List Nat} (h : SeesB w (.slice ao n cap) L) (m : Nat) (i : Int) (hi : i = m) (hm : m ≤ n) :
    ∃ ao', Hid (SeesB w (.slice ao' (n - m) (cap - m)) (L.drop m)) ∧ ∀ u : World, (Instr.sliceAt 32 (.slice ao n cap) (some (.int .i64 i)) none none).run Tryd.prog u = .ok (.slice ao' (n - m) (cap - m)) u := by
  subst hi
  have hlen : n = L.length := by obtain ⟨_, _, hv, _⟩ := h; simp at hv; exact hv.2.1
  refine ⟨if cap = m then ao else ao.map (·.add m), ?_, fun u => ?_⟩
  · cases ao with
    | none =>
      have hn : n = 0 := by
        rcases Nat.eq_zero_or_pos n with h0 | h0
        · exact h0
        · obtain ⟨_, _, _, hc, _⟩ := h.at 0 h0; cases hc
      have h2 := h
      obtain ⟨_, _, hv, h1, h3, _⟩ := h
      simp at hv
      obtain ⟨rfl, _, rfl⟩ := hv
      have hL : L.drop m = [] := List.drop_eq_nil_of_le (by omega)
      unfold Hid; rw [hL]
      exact ⟨_, cap - m, by rw [show n - m = 0 by omega]; rfl, ⟨by simp, fun h => by have := h1.2 rfl; omega⟩, by omega, fun j hj => absurd hj (by simp)⟩
    | some a =>
      rcases Nat.eq_zero_or_pos n with h0 | h0
      · obtain ⟨_, _, hv, h1, h3, _⟩ := h
        simp at hv
        obtain ⟨rfl, _, rfl⟩ := hv
        have hL : L.drop m = [] := List.drop_eq_nil_of_le (by omega)
        unfold Hid; rw [hL]
        exact ⟨_, cap - m, by rw [show n - m = 0 by omega]; rfl, ⟨by simp, fun h => by split at h <;> cases h⟩, by omega, fun j hj => absurd hj (by simp)⟩
      · obtain ⟨g, off, _, hc, _⟩ := h.at 0 h0
        simp at hc
        subst hc
        have := h.back m hm
        have ea : (⟨g, off, none⟩ : Addr).add m = ⟨g, off + m, none⟩ := by
          rcases Nat.eq_zero_or_pos m with rfl | h0
          · simp [Addr.add]
          · simp [Addr.add]; omega
        unfold Hid
        rw [Option.map_some, ea]
        exact this
  · have hu : Tryd.prog.underlying 32 = some (.slice (Tryd.prog.elem 32)) := by kernel_rfl
    have hsz : (sizeOf (Tryd.prog.elem 32)).run Tryd.prog u = .ok 1 u := by kernel_rfl
    rw [run_sliceAt_slice (h := hu), run_slice_l (ht := hu) (h0 := by omega) (h1 := by omega), hsz]
    simp [Result.andThen, sliced]

/-- The slice value v shows the lists Ls. -/
def SeesBB (w : World) (v : Value) (Ls : List (List Nat)) : Prop :=
  ∃ ao cap, v = .slice ao Ls.length cap ∧ Ls.length ≤ cap ∧ cap ≤ maxLen ∧
    ∀ j (h : j < Ls.length), ∃ g off u, ao = some ⟨g, off, none⟩ ∧ g < w.heap.size ∧ w.cell? ⟨g, off + j, none⟩ = some u ∧ SeesB w u Ls[j]

theorem SeesBB.shape {w : World} {v : Value} {L : List (List Nat)} (h : SeesBB w v L) : ∃ ao n cap, v = .slice ao n cap ∧ Hid (n = L.length) ∧ n ≤ cap ∧ cap ≤ maxLen := by
  obtain ⟨ao, cap, hv, h1, h2, _⟩ := h
  exact ⟨ao, L.length, cap, hv, rfl, h1, h2⟩

theorem SeesBB.at {w : World} {ao : Option Addr} {n cap : Nat} {L : List (List Nat)} (h : SeesBB w (.slice ao n cap) L) (j : Nat) (hj : j < n) : ∃ (g off : Nat) (u : Value) (l : List Nat), ao = some ⟨g, off, none⟩ ∧ g < w.heap.size ∧ w.cell? ⟨g, off + j, none⟩ = some u ∧ SeesB w u l ∧ Hid (L[j]? = some l) := by
  obtain ⟨ao', cap', hv, h1, h2, h3⟩ := h
  simp at hv
  obtain ⟨rfl, rfl, rfl⟩ := hv
  obtain ⟨g, off, u, a, b, c, d⟩ := h3 j hj
  exact ⟨g, off, u, L[j], a, b, c, d, List.getElem?_eq_getElem hj⟩

theorem SeesBB.below {w w' : World} {v : Value} {L : List (List Nat)} (h : SeesBB w v L) (hb : Below w.heap.size w w') : SeesBB w' v L := by
  obtain ⟨ao, cap, hv, h1, h2, h3⟩ := h
  refine ⟨ao, cap, hv, h1, h2, fun j hj => ?_⟩
  obtain ⟨g, off, u, ha, hg, c0, c1⟩ := h3 j hj
  exact ⟨g, off, u, ha, Nat.lt_of_lt_of_le hg hb.size, (hb.cell (p := ⟨g, _, none⟩) hg).trans c0, c1.below hb⟩
end Go.Proofs.YthpokoiclfbddaaDoor.N

namespace Go.Proofs.YthpokoiclfbddaaDoor.N
open Go.ChangeShapes Go.WideShapes Go.ChangeAt Go.RowKit
set_option maxHeartbeats 400000
set_option maxRecDepth 100000

theorem take_snoc {α : Type} {L : List α} {j : Nat} {x : α} (h : L[j]? = some x) : L.take (j + 1) = L.take j ++ [x] := by
  rw [List.take_add_one, h]; rfl

/-- What is added up of the first lists. -/
def T (Ls : List (List Nat)) (k : Nat) : Nat := M.tot false (Ls.take k).flatten
def O (Ls : List (List Nat)) (k : Nat) : Bool := M.par false (Ls.take k).flatten.length

theorem T_succ {Ls : List (List Nat)} {k : Nat} {l : List Nat} (h : Ls[k]? = some l) : T Ls (k + 1) = T Ls k + M.tot (O Ls k) l := by
  unfold T O; rw [take_snoc h, List.flatten_append, M.tot_append]; simp

theorem O_succ {Ls : List (List Nat)} {k : Nat} {l : List Nat} (h : Ls[k]? = some l) : O Ls (k + 1) = M.par (O Ls k) l.length := by
  unfold O; rw [take_snoc h, List.flatten_append, List.length_append, M.par_add]; simp

theorem T_le {Ls : List (List Nat)} {k : Nat} (hb : ∀ l ∈ Ls, ∀ x ∈ l, x < 256) (hl : Ls.flatten.length ≤ 1099511627776) : T Ls k ≤ 71776119061217280 := by
  have h1 := M.tot_le (Ls.take k).flatten false (fun x hx => by
    obtain ⟨l, hl, hx⟩ := List.mem_flatten.1 hx
    exact hb l (List.mem_of_mem_take hl) x hx)
  have h2 : (Ls.take k).flatten.length ≤ Ls.flatten.length := by
    conv => rhs; rw [← List.take_append_drop k Ls, List.flatten_append, List.length_append]
    omega
  unfold T; omega

theorem SeesBB.bytes {w : World} {v : Value} {Ls : List (List Nat)} (h : SeesBB w v Ls) : ∀ l ∈ Ls, ∀ x ∈ l, x < 256 := by
  obtain ⟨ao, cap, hv, h1, h2, h3⟩ := h
  intro l hl
  obtain ⟨j, hj, rfl⟩ := List.mem_iff_getElem.1 hl
  obtain ⟨_, _, _, _, _, _, h⟩ := h3 j hj
  exact h.bytes

set_option maxHeartbeats 500000 in
theorem sum_code (v : Value) (Ls : List (List Nat)) (w : World) (hv : SeesBB w v Ls) (hl : Ls.flatten.length ≤ 1099511627776) :
    Calls Tryd.prog 53 #[v] w fun e w' => e = .returned (.int .u16 ((M.csum Ls.flatten : Nat) : Int)) ∧ Below w.heap.size w w' := by
  obtain ⟨ao, n, cap, rfl, HN, hn1, hn2⟩ := hv.shape
  have HT : Hid (∀ k, T Ls k ≤ 71776119061217280) := fun k => T_le hv.bytes hl
  have HV := hid hv
  clear hv hl
  unfold maxLen at hn2
  go_enter Tryd.func53, Tryd.ntmps53
  go_wp2_with fail
  go_loopw [3, 4, 6, 9] (fun t o _ i wr => ∃ (k s : Nat) (b : Bool), i = .int .i64 k ∧ k ≤ n ∧ t = .int .u64 s ∧ o = .bool b ∧ Hid (s = T Ls k ∧ b = O Ls k) ∧ Below w.heap.size w wr) (fun _ _ _ i _ => n - (intOf i).toNat)
  case atStart => exact ⟨0, 0, false, rfl, by omega, rfl, rfl, ⟨rfl, rfl⟩, Below.refl _ _⟩
  case round =>
    obtain ⟨k, s, b, rfl, hk, rfl, rfl, HS, hb⟩ := hrel
    have hs : s ≤ 71776119061217280 := by have := HT.out k; have := HS.out.1; omega
    by_cases hlt : k < n
    · obtain ⟨g, off, u, l, rfl, hg, hc, hu, HL⟩ := (HV.out.below hb).at k hlt
      obtain ⟨ar, nr, capr, rfl, HNR, hr1, hr2⟩ := hu.shape
      unfold maxLen at hr2
      have HU := hid hu
      have HTS : Hid (T Ls (k + 1) = s + M.tot b l ∧ O Ls (k + 1) = M.par b l.length) := by
        have h1 := T_succ HL.out
        have h2 := O_succ HL.out
        rw [← HS.out.1, ← HS.out.2] at h1
        rw [← HS.out.2] at h2
        exact ⟨h1, h2⟩
      clear hu HS
      go_upto_region 6 with fail
      go_cut [3, 4, 6, 9, 18] from 10 to 47 (fun t o p i c wx => i = .int .i64 k ∧ t = .int .u64 s ∧ o = .bool b ∧ p = .slice ar nr capr ∧ (∃ c' : Bool, c = .bool c' ∧ Hid (c' = (b && decide (0 < nr)))) ∧ wx = wr)
      case first =>
        cases b
        · go_wp2_with fail
          go_meet
          case rel => exact ⟨rfl, rfl, rfl, rfl, ⟨false, rfl, rfl⟩, rfl⟩
        · go_wp2_with fail
          go_meet
          case rel => exact ⟨rfl, rfl, rfl, rfl, ⟨decide (0 < nr), by simp, by simp [Hid]⟩, rfl⟩
      case rest =>
        obtain ⟨rfl, rfl, rfl, rfl, ⟨c, rfl, HC⟩, rfl⟩ := hcut
        go_upto_if 18 with fail
        go_cut [3, 4, 6, 9] from 10 to 47 (fun t o p i wx => ∃ (s' : Nat) (b' : Bool) (l' : List Nat), i = .int .i64 k ∧ t = .int .u64 s' ∧ o = .bool b' ∧ Hid (SeesB wx p l') ∧ Hid ((l' = [] ∨ b' = false) ∧ T Ls (k + 1) = s' + M.tot b' l' ∧ O Ls (k + 1) = M.par b' l'.length) ∧ Below w.heap.size w wx)
        case first =>
          cases c with
          | true =>
            obtain ⟨hb1, hnr⟩ : b = true ∧ 0 < nr := by have := HC.out.symm; simpa using this
            obtain ⟨aq, HB, hcut⟩ := HU.out.low 1 1 rfl (by omega)
            obtain ⟨ga, oa, x, rfl, hga, hca, hx, HX⟩ := HU.out.at 0 hnr
            have HR : Hid (T Ls (k + 1) = (s + x) + M.tot false (l.drop 1) ∧ O Ls (k + 1) = M.par false (l.drop 1).length) := by
              have h1 := HTS.out
              have h2 := HX.out
              rw [hb1] at h1
              cases l with
              | nil => simp at h2
              | cons y l =>
                simp at h2; subst h2
                rw [h1.1, h1.2]
                exact ⟨by simp [M.tot]; omega, by simp only [List.length_cons, List.drop_succ_cons, List.drop_zero]; exact (M.par_succ true _).symm⟩
            rw [Nat.add_zero] at hca
            clear hb1 HTS HC HX HU
            go_wp2_with fail
            go_meet
            case rel => exact ⟨s + x, false, l.drop 1, rfl, by go_num, rfl, HB, ⟨.inr rfl, HR.out⟩, hb⟩
          | false =>
            have HR : Hid (l = [] ∨ b = false) := by
              have h1 := HC.out.symm
              cases b with
              | false => exact .inr rfl
              | true => left; simp at h1; have h2 := HNR.out; exact List.eq_nil_of_length_eq_zero (by omega)
            clear HC
            go_wp2_with fail
            go_meet
            case rel => exact ⟨s, b, l, rfl, rfl, rfl, HU, ⟨HR.out, HTS.out⟩, hb⟩
        case rest =>
          obtain ⟨s1, b1, l1, rfl, rfl, rfl, HU1, HR1, hb2⟩ := hcut
          clear HU HTS HC hc hs hg hr1 hr2 HNR
          go_wp2_with fail
          go_loopw [3, 6] (fun t p wx => ∃ (s' : Nat) (l' : List Nat), t = .int .u64 s' ∧ Hid (SeesB wx p l') ∧ Hid ((l' = [] ∨ b1 = false) ∧ T Ls (k + 1) = s' + M.tot b1 l' ∧ O Ls (k + 1) = M.par b1 l'.length) ∧ Below w.heap.size w wx) (fun _ p _ => lenOf p)
          case atStart => exact ⟨s1, l1, rfl, HU1, HR1, hb2⟩
          case round =>
            obtain ⟨s2, l2, rfl, HU2, HR2, hb3⟩ := hrel
            have hs2 : s2 ≤ 71776119061217280 := by have h1 := HT.out (k + 1); have h2 := HR2.out.2.1; omega
            obtain ⟨a2, n2, cap2, rfl, HN2, hr1, hr2⟩ := HU2.out.shape
            unfold maxLen at hr2
            by_cases hge : 2 ≤ n2
            · obtain ⟨x, y, r, hl2⟩ : ∃ x y r, l2 = x :: y :: r := by
                have h1 := HN2.out
                match l2, h1 with
                | [], h1 => simp at h1; omega
                | [x], h1 => simp at h1; omega
                | x :: y :: r, _ => exact ⟨x, y, r, rfl⟩
              subst hl2
              obtain ⟨aq, HB, hcut⟩ := HU2.out.low 2 2 rfl hge
              have HC := fun u (hu : Below _ _ u) => read16_any _ x y r u (HU2.out.below hu)
              obtain ⟨ga, oa, x', rfl, hga, hca, hx, HX⟩ := HU2.out.at 0 (by omega)
              obtain ⟨g', o', y', he, _, hcy, hy, HY⟩ := HU2.out.at 1 (by omega)
              clear hcy he
              have hxe : x' = x := by have := HX.out; simpa using this.symm
              have hye : y' = y := by have := HY.out; simpa using this.symm
              subst hxe hye
              have HR3 : Hid (((r = [] ∨ b1 = false) ∧ T Ls (k + 1) = (s2 + (x' * 256 + y')) + M.tot b1 r ∧ O Ls (k + 1) = M.par b1 r.length)) := by
                obtain ⟨h1, h2, h3⟩ := HR2.out
                have hb1 : b1 = false := by rcases h1 with h1 | h1; · cases h1
                                            · exact h1
                rw [hb1] at h2 h3 ⊢
                refine ⟨.inr rfl, by rw [h2]; simp [M.tot]; omega, by rw [h3]; simp only [List.length_cons]; rw [← M.par_succ, ← M.par_succ]; rfl⟩
              rw [List.drop_succ_cons, List.drop_succ_cons, List.drop_zero] at HB
              obtain ⟨z, hz⟩ : ∃ z, z = x' * 256 + y' := ⟨_, rfl⟩
              rw [← hz] at HC HR3
              have hz1 : z < 65536 := by omega
              clear HX HY hz hca hx hy
              go_wp2_with fail
              refine (HC _ (Below.refl _ _)).mono ?_
              rintro _ w3 ⟨rfl, hb4⟩
              clear HC
              have HB3 := hid (SeesB.below HB.out hb4)
              have hb5 := hb3.trans (hb4.mono hb3.size)
              clear HB hb4
              go_wp2_with fail
              go_roundw
              case rel => exact ⟨s2 + z, r, by go_num, HB3, HR3, hb5⟩
              case measure => simp [lenOf]; omega
            · by_cases h1 : n2 = 1
              · obtain ⟨x, hl2⟩ : ∃ x, l2 = [x] := by
                  have h2 := HN2.out
                  match l2, h2 with
                  | [], h2 => simp at h2; omega
                  | [x], _ => exact ⟨x, rfl⟩
                  | x :: y :: r, h2 => simp at h2; omega
                subst hl2
                obtain ⟨ga, oa, x', rfl, hga, hca, hx, HX⟩ := HU2.out.at 0 (by omega)
                have hxe : x' = x := by have := HX.out; simpa using this.symm
                subst hxe
                have HR3 : Hid (s2 + x' * 256 = T Ls (k + 1) ∧ true = O Ls (k + 1)) := by
                  obtain ⟨h2, h3, h4⟩ := HR2.out
                  have hb1 : b1 = false := by rcases h2 with h2 | h2; · cases h2
                                              · exact h2
                  rw [hb1] at h3 h4
                  exact ⟨by rw [h3]; simp [M.tot]; omega, by rw [h4]; rfl⟩
                rw [Nat.add_zero] at hca
                subst h1
                clear HX HR2 HU2 HN2
                go_wp2_with fail
                go_roundw
                case rel => exact ⟨k + 1, s2 + x' * 256, true, by go_num, by omega, by go_num, rfl, HR3, hb3⟩
                case measure => simp [intOf]; omega
              · obtain rfl : n2 = 0 := by omega
                have HR3 : Hid (s2 = T Ls (k + 1) ∧ b1 = O Ls (k + 1)) := by
                  obtain ⟨h2, h3, h4⟩ := HR2.out
                  have h5 : l2 = [] := List.eq_nil_of_length_eq_zero HN2.out.symm
                  rw [h5] at h3 h4
                  exact ⟨by rw [h3]; simp [M.tot], by rw [h4]; rfl⟩
                clear HR2 HU2 HN2
                go_wp2_with fail
                go_roundw
                case rel => exact ⟨k + 1, s2, b1, by go_num, by omega, rfl, rfl, HR3, hb3⟩
                case measure => simp [intOf]; omega
    · have HE : Hid (M.csum Ls.flatten = 65535 - M.fold s) := by
        unfold Hid M.csum
        rw [HS.out.1]
        unfold T
        rw [List.take_of_length_le (by have := HN.out; omega)]
      go_wp2_with fail
      refine (complement_any s _ (by omega)).mono ?_
      rintro _ _ ⟨rfl, rfl⟩
      go_wp2_with fail
      go_ret
      exact ⟨ret_int (by rw [HE.out]), hb⟩
end Go.Proofs.YthpokoiclfbddaaDoor.N

namespace Go.Proofs.YthpokoiclfbddaaDoor.N
open Go.ChangeShapes Go.WideShapes Go.ChangeAt Go.RowKit
set_option maxHeartbeats 400000
set_option maxRecDepth 100000

def bs (L : List Nat) : List Value := L.map fun (x : Nat) => Value.int .u8 (x : Int)

/-- v is a list of bytes of the call's own, in a block not below base. -/
def OwnB (w : World) (base : Nat) (v : Value) (L : List Nat) : Prop := w.ownsRow base 5 1 v L.length (bs L)

theorem Tryd.info5 : (Tryd.prog.info? 5).map (fun i => (i.zero, i.size, i.bytes)) = some (some (.int .u8 0), 1, 1) := by kernel_rfl

theorem ownB_nil (w : World) (base : Nat) : OwnB w base (.slice none 0 0) [] := World.ownsRow_nil _ _ _ _

theorem OwnB.sees {w : World} {base : Nat} {v : Value} {L : List Nat} (h : OwnB w base v L) (hb : ∀ x ∈ L, x < 256) : SeesB w v L := by
  rcases h.2 with ⟨rfl, hn⟩ | ⟨g, cap, cur, rfl, hbg, hg, hnc, hcm, hcs, htake⟩
  · have : L = [] := List.eq_nil_of_length_eq_zero hn
    subst this
    exact sees_nil w
  · refine ⟨some ⟨g, 0, none⟩, cap, rfl, ⟨hnc, fun h => by cases h⟩, hcm, fun j hj => ⟨g, 0, rfl, (Array.getElem?_eq_some_iff.1 hg).1, ?_, hb _ (List.getElem_mem hj)⟩⟩
    rw [Nat.zero_add, World.ownsRow.cellAt h j (by omega)]
    simp [bs, hj]

theorem below_grown {w w' : World} (h : Below w.heap.size w w') (row : Option Nat) : w.grownBy w' row := ⟨h.os, h.tape, h.output, h.size, fun k hk _ => h.block k hk⟩

theorem OwnB.below {w w' : World} {base : Nat} {v : Value} {L : List Nat} (h : OwnB w base v L) (hb : Below w.heap.size w w') : OwnB w' base v L :=
  World.ownsRow.kept h (below_grown hb none) (by cases hv : v.ownBlock <;> simp)

theorem below_of_grown {base : Nat} {w w' : World} {v : Value} {L : List Nat} (h : OwnB w base v L) (hbase : base ≤ w.heap.size) (hg : w.grownBy w' v.ownBlock) : Below base w w' :=
  (Below.refl _ _).grown hg hbase (fun k hk => (World.ownsRow.lt h k hk).1)

theorem wpList_append_bytes {w : World} {ops : Array Oper} {rest : List Oper} {o : Oper} {a : Act} {Q : Exit → Act → World → Prop} (hgd : o.guard = none) (s x : Operand)
    (ho : o.op = .call { callee := .builtin .append, args := #[s, x], argTypes := #[32, 32] })
    (base : Nat) (v : Value) (M : List Nat) (hs : a.eval s = v) (hown : OwnB w base v M) (u : Value) (L : List Nat) (hx : a.eval x = u) (hu : SeesB w u L)
    (hbytes : M.length + L.length ≤ 140737488355328) (hbase : base ≤ w.heap.size)
    (h : ∀ v' w', OwnB w' base v' (M ++ L) → Below base w w' → wpList Tryd.prog ops Q rest (a.put o.dst v') w') : wpList Tryd.prog ops Q (o :: rest) a w := by
  obtain ⟨i0, hi0, hz0, hz1, hz2⟩ := info_parts Tryd.info5
  have hu0 := hu
  obtain ⟨ao, cap, rfl, h1, h2, h3⟩ := hu
  cases ao with
  | none =>
    have hL : L = [] := by
      cases L with
      | nil => rfl
      | cons y L => obtain ⟨_, _, hc, _⟩ := h3 0 (by simp); cases hc
    subst hL
    have := h1.2 rfl
    subst this
    refine wpList_append_own_none hgd s x 32 ho base 5 i0 1 Tryd.underlying32 hi0 v _ _ hs hown hx ?_
    exact h v w (by rw [List.append_nil]; exact hown) (Below.refl _ _)
  | some ad =>
    refine wpList_append_own w hgd s x 32 ho base 5 i0 (.int .u8 0) 1 1 Tryd.underlying32 hi0 hz0 hz1 hz2 rfl (by decide) v _ _ hs hown ad L.length cap (bs L) hx (by simp [bs]) ?_ ?_ ?_ (by omega) hbase ?_
    · intro j q hj
      have hjl : j < L.length := by
        have := (List.getElem?_eq_some_iff.1 hj).1; simpa [bs] using this
      obtain ⟨g, off, hc, hg, hcell, _⟩ := h3 j hjl
      simp at hc; subst hc
      have e : (⟨g, off, none⟩ : Addr).add j = ⟨g, off + j, none⟩ := by
        rcases Nat.eq_zero_or_pos j with rfl | h0
        · simp [Addr.add]
        · simp [Addr.add]; omega
      rw [e, hcell]
      simp [bs, hjl] at hj
      rw [hj]
    · intro q hq
      obtain ⟨y, _, rfl⟩ := List.mem_map.1 hq
      rfl
    · unfold maxLen; omega
    · intro v' w' ho' hg _
      exact h v' w' (by unfold OwnB; rw [List.length_append, show bs (M ++ L) = bs M ++ bs L by simp [bs]]; exact ho') (below_of_grown hown hbase hg)

theorem flat_take_le {Ls : List (List Nat)} {k : Nat} : (Ls.take k).flatten.length ≤ Ls.flatten.length := by
  conv => rhs; rw [← List.take_append_drop k Ls, List.flatten_append, List.length_append]
  omega

end Go.Proofs.YthpokoiclfbddaaDoor.N

namespace Go.Proofs.YthpokoiclfbddaaDoor.N
open Go.ChangeShapes Go.WideShapes Go.ChangeAt Go.RowKit
set_option maxHeartbeats 400000
set_option maxRecDepth 100000

theorem sees_one {w : World} {n : Nat} (hn : w.heap.size = n) (x : Nat) (hx : x < 256) (t : TypeId) : SeesB (w.alloc (.cells #[.int .u8 (x : Int)] t)) (.slice (some ⟨n, 0, none⟩) 1 1) [x] := by
  subst hn
  refine ⟨some ⟨w.heap.size, 0, none⟩, 1, rfl, ⟨by simp, fun h => by cases h⟩, by unfold maxLen; omega, fun j hj => ⟨w.heap.size, 0, rfl, by simp, ?_, ?_⟩⟩
  · match j, hj with
    | 0, _ => simp
  · match j, hj with
    | 0, _ => exact hx

theorem sees_two {w : World} {n : Nat} (hn : w.heap.size = n) (x y : Nat) (hx : x < 256) (hy : y < 256) (t : TypeId) : SeesB (w.alloc (.cells #[.int .u8 (x : Int), .int .u8 (y : Int)] t)) (.slice (some ⟨n, 0, none⟩) 2 2) [x, y] := by
  subst hn
  refine ⟨some ⟨w.heap.size, 0, none⟩, 2, rfl, ⟨by simp, fun h => by cases h⟩, by unfold maxLen; omega, fun j hj => ⟨w.heap.size, 0, rfl, by simp, ?_, ?_⟩⟩
  · match j, hj with
    | 0, _ => simp
    | 1, _ => simp
  · match j, hj with
    | 0, _ => exact hx
    | 1, _ => exact hy

theorem OwnB.alloc {w : World} {base : Nat} {v : Value} {L : List Nat} (h : OwnB w base v L) (o : Obj) : OwnB (w.alloc o) base v L :=
  h.below ((Below.refl _ _).alloc (Nat.le_refl _) _)

theorem OwnB.mono {w : World} {b b' : Nat} {v : Value} {L : List Nat} (h : OwnB w b v L) (hb : b' ≤ b) : OwnB w b' v L := by
  refine ⟨h.1, ?_⟩
  rcases h.2 with h | ⟨g, cap, cur, h1, h2, h3⟩
  · exact .inl h
  · exact .inr ⟨g, cap, cur, h1, by omega, h3⟩

end Go.Proofs.YthpokoiclfbddaaDoor.N

namespace Go.Proofs.YthpokoiclfbddaaDoor.N
open Go.ChangeShapes Go.WideShapes Go.ChangeAt Go.RowKit
set_option maxHeartbeats 400000
set_option maxRecDepth 100000

/-- A packet's header: what its fields hold. -/
structure Hd where
  tos : Nat
  id : Nat
  df : Bool
  mf : Bool
  off : Int
  ttl : Nat
  proto : Nat
  src : Nat
  dst : Nat
  opts : List Nat

structure Hd.Ok (h : Hd) : Prop where
  tos : h.tos < 256
  id : h.id < 65536
  off : -9223372036854775808 ≤ h.off ∧ h.off ≤ 9223372036854775807
  ttl : h.ttl < 256
  proto : h.proto < 256
  src : h.src < 4294967296
  dst : h.dst < 4294967296

def hdCells (h : Hd) (vo : Value) : Array Value := #[.int .u8 (h.tos : Int), .int .u16 (h.id : Int), .bool h.df, .bool h.mf, .int .i64 h.off, .int .u8 (h.ttl : Int), .int .u8 (h.proto : Int), .int .u32 (h.src : Int), .int .u32 (h.dst : Int), vo]

/-- The word of flags and offset. -/
def flagW (df mf : Bool) (f : Nat) : Nat := f / 8 + (if df then 16384 else 0) + (if mf then 8192 else 0)

def hdBytes (h : Hd) (len sum : Nat) : List Nat :=
  [69 + h.opts.length / 4, h.tos, len / 256, len % 256, h.id / 256, h.id % 256, flagW h.df h.mf h.off.toNat / 256, flagW h.df h.mf h.off.toNat % 256, h.ttl, h.proto, sum / 256, sum % 256,
   h.src / 65536 / 256, h.src / 65536 % 256, h.src % 65536 / 256, h.src % 65536 % 256, h.dst / 65536 / 256, h.dst / 65536 % 256, h.dst % 65536 / 256, h.dst % 65536 % 256] ++ h.opts

theorem hd_at {u : World} {n : Nat} {h : Hd} {vo : Value} {t : TypeId} (hb : u.heap[n]? = some (.cells (hdCells h vo) t)) :
    u.cell? ⟨n, 0, none⟩ = some (.int .u8 (h.tos : Int)) ∧ u.cell? ⟨n, 1, none⟩ = some (.int .u16 (h.id : Int)) ∧ u.cell? ⟨n, 2, none⟩ = some (.bool h.df) ∧ u.cell? ⟨n, 3, none⟩ = some (.bool h.mf) ∧ u.cell? ⟨n, 4, none⟩ = some (.int .i64 h.off) ∧
    u.cell? ⟨n, 5, none⟩ = some (.int .u8 (h.ttl : Int)) ∧ u.cell? ⟨n, 6, none⟩ = some (.int .u8 (h.proto : Int)) ∧ u.cell? ⟨n, 7, none⟩ = some (.int .u32 (h.src : Int)) ∧ u.cell? ⟨n, 8, none⟩ = some (.int .u32 (h.dst : Int)) ∧ u.cell? ⟨n, 9, none⟩ = some vo := by
  refine ⟨?_, ?_, ?_, ?_, ?_, ?_, ?_, ?_, ?_, ?_⟩ <;> (rw [cell_of_row u _ _ _ _ _ hb]; rfl)

end Go.Proofs.YthpokoiclfbddaaDoor.N

namespace Go.Proofs.YthpokoiclfbddaaDoor.N.M

/-- How many bytes the first option of the rest of an area has, 0 if it is none. -/
def opt : List Nat → Nat
  | [] => 0
  | [x] => if x = 1 then 1 else 0
  | x :: y :: t => if x = 1 then 1 else if y < 2 ∨ t.length + 2 < y then 0 else y

/-- How many bytes are read at the head of the rest of an area; none: it is no area. -/
def nxt (r : List Nat) : Option Nat :=
  if r.head? = some 0 then (if r.all (· == 0) then some r.length else none) else if opt r = 0 then none else some (opt r)

theorem nxt_pos {r : List Nat} {k : Nat} (h : nxt r = some k) (hr : r ≠ []) : 0 < k := by
  unfold nxt at h
  split at h
  · split at h
    · simp at h; subst h; exact List.length_pos_iff.2 hr
    · cases h
  · split at h
    · cases h
    · simp at h; omega

theorem opt_le (r : List Nat) : opt r ≤ r.length := by
  match r with
  | [] => simp [opt]
  | [x] => simp only [opt]; split <;> simp
  | x :: y :: t => simp only [opt, List.length_cons]; split <;> (try split) <;> omega

theorem nxt_le {r : List Nat} {k : Nat} (h : nxt r = some k) : k ≤ r.length := by
  unfold nxt at h
  split at h
  · split at h
    · simp at h; omega
    · cases h
  · split at h
    · cases h
    · simp at h; have := opt_le r; omega

def okO (r : List Nat) : Bool :=
  if _hr : r = [] then true
  else match _h : nxt r with
    | none => false
    | some k => okO (r.drop k)
termination_by r.length
decreasing_by
  have h1 := nxt_pos _h _hr
  have h2 := List.length_pos_iff.2 _hr
  rw [List.length_drop]; omega

theorem okO_nil : okO [] = true := by rw [okO]; simp

theorem okO_none {r : List Nat} (hr : r ≠ []) (h : nxt r = none) : okO r = false := by
  rw [okO, dif_neg hr]
  split
  · rfl
  · rename_i k hk; rw [h] at hk; cases hk

theorem okO_some {r : List Nat} {k : Nat} (hr : r ≠ []) (h : nxt r = some k) : okO r = okO (r.drop k) := by
  rw [okO, dif_neg hr]
  split
  · rename_i hk; rw [h] at hk; cases hk
  · rename_i k' hk; rw [h] at hk; cases hk; rfl

def area (o : List Nat) : Bool := decide (o.length ≤ 40) && decide (o.length % 4 = 0) && okO o

/-- The place behind the option at i; -1: none may stand there. -/
def behI (o : List Nat) (i : Nat) : Int := match nxt (o.drop i) with
  | none => -1
  | some k => (i : Int) + (k : Int)

theorem behI_none {o : List Nat} {i : Nat} (h : nxt (o.drop i) = none) : behI o i = -1 := by unfold behI; rw [h]
theorem behI_some {o : List Nat} {i k : Nat} (h : nxt (o.drop i) = some k) : behI o i = (i : Int) + (k : Int) := by unfold behI; rw [h]

theorem nxt_one (t : List Nat) : nxt (1 :: t) = some 1 := by
  cases t <;> simp [nxt, opt]

theorem nxt_zero_ok {t : List Nat} (h : (0 :: t).all (· == 0) = true) : nxt (0 :: t) = some (0 :: t).length := by
  unfold nxt; rw [if_pos (by simp), if_pos h]

theorem nxt_zero_no {t : List Nat} (h : (0 :: t).all (· == 0) = false) : nxt (0 :: t) = none := by
  unfold nxt; rw [if_pos (by simp), if_neg (by rw [h]; simp)]

theorem nxt_last {x : Nat} (h0 : x ≠ 0) (h1 : x ≠ 1) : nxt [x] = none := by
  unfold nxt; rw [if_neg (by simp [h0])]; simp [opt, h1]

theorem nxt_bad {x y : Nat} {t : List Nat} (h0 : x ≠ 0) (h1 : x ≠ 1) (h : y < 2 ∨ t.length + 2 < y) : nxt (x :: y :: t) = none := by
  have e : opt (x :: y :: t) = 0 := by simp only [opt]; rw [if_neg h1, if_pos h]
  unfold nxt; rw [if_neg (by simp [h0]), if_pos e]

theorem nxt_good {x y : Nat} {t : List Nat} (h0 : x ≠ 0) (h1 : x ≠ 1) (h : ¬ (y < 2 ∨ t.length + 2 < y)) : nxt (x :: y :: t) = some y := by
  have e : opt (x :: y :: t) = y := by simp only [opt]; rw [if_neg h1, if_neg h]
  unfold nxt; rw [if_neg (by simp [h0]), if_neg (by rw [e]; omega), e]

def pieceOk (off : Int) (n : Nat) (more : Bool) : Bool :=
  decide (0 ≤ off) && decide (off ≤ 65528) && decide (off % 8 = 0) && decide (off + n ≤ 65535) && (!more || (decide (0 < n) && decide (n % 8 = 0)))

end Go.Proofs.YthpokoiclfbddaaDoor.N.M

namespace Go.Proofs.YthpokoiclfbddaaDoor.N
open Go.ChangeShapes Go.WideShapes Go.ChangeAt Go.RowKit
set_option maxHeartbeats 400000
set_option maxRecDepth 100000

theorem drop_at {L : List Nat} {i x : Nat} (h : L[i]? = some x) : L.drop i = x :: L.drop (i + 1) := by
  obtain ⟨hi, rfl⟩ := List.getElem?_eq_some_iff.1 h
  exact List.drop_eq_getElem_cons hi

def msr (n : Nat) (i : Int) : Nat := if i < 0 then 0 else n + 1 - i.toNat
theorem msr_neg {n : Nat} : msr n (-1) = 0 := rfl
theorem msr_pos {n : Nat} {i : Int} (h : 0 ≤ i) : msr n i = n + 1 - i.toNat := by unfold msr; rw [if_neg (by omega)]

end Go.Proofs.YthpokoiclfbddaaDoor.N

namespace Go.Proofs.YthpokoiclfbddaaDoor.N
open Go.ChangeShapes Go.WideShapes Go.ChangeAt Go.RowKit
set_option maxHeartbeats 400000
set_option maxRecDepth 100000

/-- A cut 'x[:m]': its address is kept a letter. -/
theorem SeesB.high {w : World} {ao : Option Addr} {n cap : Nat} {L : List Nat} (h : SeesB w (.slice ao n cap) L) (m : Nat) (i : Int) (hi : i = m) (hm : m ≤ n) :
    ∃ ao', Hid (SeesB w (.slice ao' m cap) (L.take m)) ∧ ∀ u : World, (Instr.sliceAt 32 (.slice ao n cap) none (some (.int .i64 i)) none).run Tryd.prog u = .ok (.slice ao' m cap) u := by
  subst hi
  have h0 := h
  obtain ⟨ao1, cap1, hv, h1, h2, h3⟩ := h
  simp at hv
  obtain ⟨rfl, hlen, rfl⟩ := hv
  refine ⟨ao, ?_, fun u => ?_⟩
  · refine ⟨ao, cap, by rw [List.length_take]; congr 1; omega, ⟨by rw [List.length_take]; omega, h1.2⟩, h2, fun j hj => ?_⟩
    rw [List.length_take] at hj
    obtain ⟨g, off, ha, hg, hc, hb⟩ := h3 j (by omega)
    exact ⟨g, off, ha, hg, by rw [List.getElem_take]; exact hc, by rw [List.getElem_take]; exact hb⟩
  · have hu : Tryd.prog.underlying 32 = some (.slice (Tryd.prog.elem 32)) := by kernel_rfl
    have hsz : (sizeOf (Tryd.prog.elem 32)).run Tryd.prog u = .ok 1 u := by kernel_rfl
    rw [run_sliceAt_slice (h := hu), run_slice_h (ht := hu) (h0 := by omega) (h2 := by omega), hsz]
    simp [Result.andThen, sliced]
    intro _
    cases ao <;> simp [Addr.add]

theorem optionSize_any (v : Value) (L : List Nat) (w : World) (hv : SeesB w v L) (hne : L ≠ []) (hl : L.length ≤ 1099511627776) :
    Calls Tryd.prog 82 #[v] w fun e w' => e = .returned (.int .i64 ((M.opt L : Nat) : Int)) ∧ w' = w := by
  obtain ⟨ao, n, cap, rfl, HN, hn1, hn2⟩ := hv.shape
  unfold maxLen at hn2
  obtain ⟨R, hR⟩ : ∃ R, R = M.opt L := ⟨_, rfl⟩
  have HR := hid hR
  rw [← hR]
  clear hR
  match L, hne with
  | x :: t, _ =>
    have hn0 : 0 < n := by have := HN.out; simp at this; omega
    obtain ⟨g, off, x', rfl, hg, hc, hx, HX⟩ := hv.at 0 hn0
    have hxe : x' = x := by have := HX.out; simpa using this.symm
    subst hxe
    rw [Nat.add_zero] at hc
    by_cases h1 : x' = 1
    · have HE : Hid (R = 1) := by unfold Hid; rw [HR.out, h1]; cases t <;> simp [M.opt]
      have hq : ((x' : Int) == 1) = true := by simp [h1]
      clear h1 hv HX
      go_enter Tryd.func82, Tryd.ntmps82
      go_wp2_with fail
      go_ret
      exact ⟨ret_int (by rw [HE.out]; rfl), rfl⟩
    · have hq : ((x' : Int) == 1) = false := by simp; omega
      match t with
      | [] =>
        have HE : Hid (R = 0) := by unfold Hid; rw [HR.out]; simp [M.opt, h1]
        obtain rfl : n = 1 := by have := HN.out; simpa using this
        clear h1 hv HX
        go_enter Tryd.func82, Tryd.ntmps82
        go_wp2_with fail
        go_ret
        exact ⟨ret_int (by rw [HE.out]; rfl), rfl⟩
      | y :: t =>
        have hn2' : 2 ≤ n := by have := HN.out; simp at this; omega
        obtain ⟨g', off', y', he, hg', hcy, hy, HY⟩ := hv.at 1 (by omega)
        simp at he
        obtain ⟨rfl, rfl⟩ := he
        have hye : y' = y := by have := HY.out; simpa using this.symm
        subst hye
        have HNT : Hid (t.length + 2 = n) := by have := HN.out; simp at this; unfold Hid; omega
        have hnl : n ≤ 1099511627776 := by have := HNT.out; simp at hl; omega
        by_cases hy2 : y' < 2
        · have HE : Hid (R = 0) := by unfold Hid; rw [HR.out]; simp only [M.opt]; rw [if_neg h1, if_pos (.inl hy2)]
          clear h1 hv HX HY hl
          go_enter Tryd.func82, Tryd.ntmps82
          go_wp2_with fail
          go_ret
          exact ⟨ret_int (by rw [HE.out]; rfl), rfl⟩
        · by_cases hy3 : n < y'
          · have HE : Hid (R = 0) := by unfold Hid; rw [HR.out]; simp only [M.opt]; rw [if_neg h1, if_pos (.inr (by have := HNT.out; omega))]
            clear h1 hv HX HY hl
            go_enter Tryd.func82, Tryd.ntmps82
            go_wp2_with fail
            go_ret
            exact ⟨ret_int (by rw [HE.out]; rfl), rfl⟩
          · have HE : Hid (R = y') := by unfold Hid; rw [HR.out]; simp only [M.opt]; rw [if_neg h1, if_neg (by have := HNT.out; omega)]
            clear h1 hv HX HY hl
            go_enter Tryd.func82, Tryd.ntmps82
            go_wp2_with fail
            go_ret
            exact ⟨ret_int (by rw [HE.out]), rfl⟩

theorem allZero_any (v : Value) (L : List Nat) (w : World) (hv : SeesB w v L) :
    Calls Tryd.prog 83 #[v] w fun e w' => e = .returned (.bool (L.all (· == 0))) ∧ w' = w := by
  obtain ⟨ao, n, cap, rfl, HN, hn1, hn2⟩ := hv.shape
  unfold maxLen at hn2
  obtain ⟨R, hR⟩ : ∃ R, R = L.all (· == 0) := ⟨_, rfl⟩
  have HR := hid hR
  have HV := hid hv
  rw [← hR]
  clear hR hv
  go_enter Tryd.func83, Tryd.ntmps83
  go_wp2_with fail
  go_loop [4, 7] (fun _ i => ∃ k : Nat, i = .int .i64 k ∧ k ≤ n ∧ Hid (∀ m, m < k → L[m]? = some 0)) (fun _ i => n - (intOf i).toNat)
  case atStart => exact ⟨0, rfl, by omega, fun m h => absurd h (by omega)⟩
  case round =>
    obtain ⟨k, rfl, hk, HZ⟩ := hrel
    by_cases hlt : k < n
    · obtain ⟨g, off, y, rfl, hg, hc, hy, HY⟩ := HV.out.at k hlt
      by_cases hy0 : y = 0
      · have hq : ((y : Int) != 0) = false := by simp [hy0]
        have HZ2 : Hid (∀ m, m < k + 1 → L[m]? = some 0) := fun m h2 => by
          by_cases h3 : m < k
          · exact HZ.out m h3
          · rw [show m = k by omega, HY.out, hy0]
        clear hy0
        go_wp2_with fail
        go_round
        case rel => exact ⟨k + 1, by go_num, by omega, HZ2⟩
        case measure => simp [intOf]; omega
      · have hq : ((y : Int) != 0) = true := by simp; omega
        have HE : Hid (R = false) := by
          unfold Hid; rw [HR.out, List.all_eq_false]
          exact ⟨y, List.mem_iff_getElem?.2 ⟨k, HY.out⟩, by simpa using hy0⟩
        clear hy0
        go_wp2_with fail
        go_ret
        exact ⟨ret_bool (by rw [HE.out]), rfl⟩
    · have HE : Hid (R = true) := by
        unfold Hid; rw [HR.out, List.all_eq_true]
        intro z hz
        obtain ⟨m, hm⟩ := List.mem_iff_getElem?.1 hz
        have h3 : m < n := by have := (List.getElem?_eq_some_iff.1 hm).1; have := HN.out; omega
        have h4 := HZ.out m (by omega)
        rw [h4] at hm; simp at hm; simp [← hm]
      go_wp2_with fail
      go_ret
      exact ⟨ret_bool (by rw [HE.out]), rfl⟩

theorem okO_zero {t : List Nat} : M.okO (0 :: t) = (0 :: t).all (· == 0) := by
  cases h : (0 :: t).all (· == 0) with
  | true => rw [M.okO_some (by simp) (M.nxt_zero_ok h), List.drop_length, M.okO_nil]
  | false => exact M.okO_none (by simp) (M.nxt_zero_no h)

theorem okO_step {r : List Nat} (hr : r ≠ []) (h0 : r.head? ≠ some 0) : M.okO r = if M.opt r = 0 then false else M.okO (r.drop (M.opt r)) := by
  by_cases h : M.opt r = 0
  · rw [if_pos h]; exact M.okO_none hr (by unfold M.nxt; rw [if_neg h0, if_pos h])
  · rw [if_neg h]; exact M.okO_some hr (by unfold M.nxt; rw [if_neg h0, if_neg h])

theorem show_any (v : Value) (w : World) : Calls Tryd.prog 67 #[v] w fun e w' => e = .returned (.tuple #[]) ∧ w' = w := by
  go_enter Tryd.func67, Tryd.ntmps67
  go_wp2_with fail
  exact bodyPost_end (results_none Tryd.results67 _ _ _) rfl ⟨rfl, rfl⟩

theorem walkO_any (v : Value) (L : List Nat) (w : World) (hv : SeesB w v L) :
    Calls Tryd.prog 66 #[v, .func (.func 67) #[] #[]] w fun e w' => e = .returned (.bool (M.area L)) ∧ w' = w := by
  obtain ⟨ao, n, cap, rfl, HN, hn1, hn2⟩ := hv.shape
  unfold maxLen at hn2
  have HV := hid hv
  clear hv
  obtain ⟨R, hR⟩ : ∃ R, R = M.area L := ⟨_, rfl⟩
  have HR := hid hR
  rw [← hR]
  clear hR
  by_cases h40 : 40 < n
  · have HE : Hid (R = false) := by
      unfold Hid; rw [HR.out]; unfold M.area; have := HN.out; rw [decide_eq_false (by omega)]; rfl
    go_enter Tryd.func66, Tryd.ntmps66
    go_wp2_with fail
    go_ret
    exact ⟨ret_bool (by rw [HE.out]), rfl⟩
  · by_cases h4 : n % 4 = 0
    · have hq : ((n : Int) % 4 != 0) = false := by simp; omega
      have HA : Hid (R = M.okO L) := by
        unfold Hid; rw [HR.out]; unfold M.area; have := HN.out; rw [decide_eq_true (by omega), decide_eq_true (by omega)]; rfl
      have HN40 : Hid (L.length ≤ 40) := by have := HN.out; unfold Hid; omega
      clear h4 HR
      go_enter Tryd.func66, Tryd.ntmps66
      go_wp2_with fail
      go_loop [0, 5] (fun p _ => ∃ r : List Nat, Hid (SeesB w p r) ∧ Hid (R = M.okO r) ∧ Hid (r.length ≤ 40)) (fun p _ => lenOf p)
      case atStart => exact ⟨L, HV, HA, HN40⟩
      case round =>
        clear HV HN HA HN40 h40
        obtain ⟨r, HV, HA, H40⟩ := hrel
        obtain ⟨ar, nr, capr, rfl, HNR, hr1, hr2⟩ := HV.out.shape
        unfold maxLen at hr2
        by_cases h0 : 0 < nr
        · obtain ⟨g, off, x, rfl, hg, hc, hx, HX⟩ := HV.out.at 0 h0
          rw [Nat.add_zero] at hc
          have hne : r ≠ [] := by intro e; have := HNR.out; rw [e] at this; simp at this; omega
          have hhd : r.head? = some x := by rw [List.head?_eq_getElem?]; exact HX.out
          by_cases hx0 : x = 0
          · have hq2 : ((x : Int) != 0) = false := by simp [hx0]
            have HE : Hid (R = r.all (· == 0)) := by
              unfold Hid; rw [HA.out]
              cases r with
              | nil => exact absurd rfl hne
              | cons y t => simp at hhd; rw [hhd, hx0]; exact okO_zero
            clear hx0 hne hhd
            go_wp2_with fail
            refine (allZero_any _ r _ HV.out).mono ?_
            rintro _ _ ⟨rfl, rfl⟩
            go_wp2_with fail
            go_ret
            exact ⟨ret_bool (by rw [HE.out]), rfl⟩
          · have hq2 : ((x : Int) != 0) = true := by simp; omega
            have hstep := okO_step hne (by rw [hhd]; simp; exact hx0)
            have HC := hid (optionSize_any _ r w HV.out hne (by have := H40.out; omega))
            have hole : M.opt r ≤ nr := by have := M.opt_le r; have := HNR.out; omega
            obtain ⟨z, hz⟩ : ∃ z, z = M.opt r := ⟨_, rfl⟩
            rw [← hz] at hstep HC hole
            by_cases hz0 : z = 0
            · have HE : Hid (R = false) := by unfold Hid; rw [HA.out, hstep, if_pos hz0]
              have hq3 : ((z : Int) == 0) = true := by simp [hz0]
              clear hz hz0 hstep hx0 hne hhd
              go_wp2_with fail
              refine HC.out.mono ?_
              rintro _ _ ⟨rfl, rfl⟩
              go_wp2_with fail
              go_ret
              exact ⟨ret_bool (by rw [HE.out]), rfl⟩
            · have HE : Hid (R = M.okO (r.drop z)) := by unfold Hid; rw [HA.out, hstep, if_neg hz0]
              have hq3 : ((z : Int) == 0) = false := by simp; omega
              have HZ := hid (show 0 < z by omega)
              obtain ⟨ah, HSH, hhigh⟩ := HV.out.high z (z : Int) rfl hole
              obtain ⟨al, HSL, hlow⟩ := HV.out.low z (z : Int) rfl hole
              have HD40 : Hid ((r.drop z).length ≤ 40) := by have := H40.out; unfold Hid; rw [List.length_drop]; omega
              clear hz hz0 hstep hx0 hne hhd
              go_wp2_with fail
              refine HC.out.mono ?_
              rintro _ _ ⟨rfl, rfl⟩
              go_wp2_with fail
              refine (show_any _ _).mono ?_
              rintro _ _ ⟨rfl, rfl⟩
              go_wp2_with fail
              go_round
              case rel => exact ⟨r.drop z, HSL, HE, HD40⟩
              case measure => (have := HZ.out; simp [lenOf]; omega)
        · have HE : Hid (R = r.all (· == 0)) := by
            have h1 : r = [] := List.eq_nil_of_length_eq_zero (by have := HNR.out; omega)
            unfold Hid; rw [HA.out, h1, M.okO_nil]; rfl
          go_wp2_with fail
          refine (allZero_any _ r _ HV.out).mono ?_
          rintro _ _ ⟨rfl, rfl⟩
          go_wp2_with fail
          go_ret
          exact ⟨ret_bool (by rw [HE.out]), rfl⟩
    · have hq : ((n : Int) % 4 != 0) = true := by simp; omega
      have HE : Hid (R = false) := by
        unfold Hid; rw [HR.out]; unfold M.area; have := HN.out; rw [decide_eq_false (p := L.length % 4 = 0) (by omega)]; simp
      clear h4 HR
      go_enter Tryd.func66, Tryd.ntmps66
      go_wp2_with fail
      go_ret
      exact ⟨ret_bool (by rw [HE.out]), rfl⟩

theorem area_code (v : Value) (L : List Nat) (w : World) (hv : SeesB w v L) :
    Calls Tryd.prog 46 #[v] w fun e w' => e = .returned (.bool (M.area L)) ∧ w' = w := by
  go_enter Tryd.func46, Tryd.ntmps46
  go_wp2_with fail
  refine (walkO_any v L w hv).mono ?_
  rintro _ _ ⟨rfl, rfl⟩
  go_wp2_with fail
  go_ret
  exact ⟨rfl, rfl⟩

theorem piece_code (off : Int) (n : Nat) (more : Bool) (w : World) (ho : -9223372036854775808 ≤ off ∧ off ≤ 9223372036854775807) (hn : n ≤ 4611686018427387904) :
    Calls Tryd.prog 47 #[.int .i64 off, .int .i64 n, .bool more] w fun e w' => e = .returned (.bool (M.pieceOk off n more)) ∧ w' = w := by
  obtain ⟨R, hR⟩ : ∃ R, R = M.pieceOk off n more := ⟨_, rfl⟩
  have HR := hid hR
  rw [← hR]
  clear hR
  obtain ⟨ho1, ho2⟩ := ho
  by_cases h1 : off < 0
  · have HE : Hid (R = false) := by
      unfold Hid; rw [HR.out]; unfold M.pieceOk; rw [decide_eq_false (p := 0 ≤ off) (by omega)]; rfl
    go_enter Tryd.func47, Tryd.ntmps47
    go_wp2_with fail
    go_ret
    exact ⟨ret_bool (by rw [HE.out]), rfl⟩
  · by_cases h2 : 65528 < off
    · have HE : Hid (R = false) := by
        unfold Hid; rw [HR.out]; unfold M.pieceOk; rw [decide_eq_false (p := off ≤ 65528) (by omega)]; simp
      go_enter Tryd.func47, Tryd.ntmps47
      go_wp2_with fail
      go_ret
      exact ⟨ret_bool (by rw [HE.out]), rfl⟩
    · by_cases h3 : off % 8 = 0
      · have hq : (off % 8 != 0) = false := by simp [h3]
        by_cases h4 : 65535 - off < n
        · have HE : Hid (R = false) := by
            unfold Hid; rw [HR.out]; unfold M.pieceOk; rw [decide_eq_false (p := off + n ≤ 65535) (by omega)]; simp
          clear h3
          go_enter Tryd.func47, Tryd.ntmps47
          go_wp2_with fail
          go_ret
          exact ⟨ret_bool (by rw [HE.out]), rfl⟩
        · have HE : Hid (R = (!more || (decide (0 < n) && decide (n % 8 = 0)))) := by
            unfold Hid; rw [HR.out]; unfold M.pieceOk; rw [decide_eq_true (p := 0 ≤ off) (by omega), decide_eq_true (p := off ≤ 65528) (by omega), decide_eq_true h3, decide_eq_true (p := off + n ≤ 65535) (by omega)]; simp
          clear h3
          cases more with
          | false =>
            go_enter Tryd.func47, Tryd.ntmps47
            go_wp2_with fail
            go_ret
            exact ⟨ret_bool (by rw [HE.out]; rfl), rfl⟩
          | true =>
            by_cases h5 : 0 < n
            · by_cases h6 : n % 8 = 0
              · have hq2 : ((n : Int) % 8 == 0) = true := by simp; omega
                have HE2 : Hid (R = true) := by unfold Hid; rw [HE.out]; simp [h5, h6]
                clear h6
                go_enter Tryd.func47, Tryd.ntmps47
                go_wp2_with fail
                go_ret
                exact ⟨ret_bool (by rw [HE2.out]), rfl⟩
              · have hq2 : ((n : Int) % 8 == 0) = false := by simp; omega
                have HE2 : Hid (R = false) := by unfold Hid; rw [HE.out]; simp [h6]
                clear h6
                go_enter Tryd.func47, Tryd.ntmps47
                go_wp2_with fail
                go_ret
                exact ⟨ret_bool (by rw [HE2.out]), rfl⟩
            · obtain rfl : n = 0 := by omega
              have HE2 : Hid (R = false) := by unfold Hid; rw [HE.out]; simp
              go_enter Tryd.func47, Tryd.ntmps47
              go_wp2_with fail
              go_ret
              exact ⟨ret_bool (by rw [HE2.out]), rfl⟩
      · have hq : (off % 8 != 0) = true := by simp; omega
        have HE : Hid (R = false) := by
          unfold Hid; rw [HR.out]; unfold M.pieceOk; rw [decide_eq_false h3]; simp
        clear h3
        go_enter Tryd.func47, Tryd.ntmps47
        go_wp2_with fail
        go_ret
        exact ⟨ret_bool (by rw [HE.out]), rfl⟩
end Go.Proofs.YthpokoiclfbddaaDoor.N

namespace Go.Proofs.YthpokoiclfbddaaDoor.N
open Go.ChangeShapes Go.WideShapes Go.ChangeAt Go.RowKit
set_option maxHeartbeats 400000
set_option maxRecDepth 100000

def pkCells (h : Hd) (vo vb : Value) : Array Value := #[.int .u8 (h.tos : Int), .int .u16 (h.id : Int), .bool h.df, .bool h.mf, .int .i64 h.off, .int .u8 (h.ttl : Int), .int .u8 (h.proto : Int), .int .u32 (h.src : Int), .int .u32 (h.dst : Int), vo, vb]

def refE (h : Hd) (nb : Nat) : Int := if M.area h.opts then (if M.pieceOk h.off nb h.mf then (if 20 + h.opts.length + nb ≤ 65535 then 0 else 37) else 36) else 34

theorem pk_at {u : World} {n : Nat} {h : Hd} {vo vb : Value} {t : TypeId} (hb : u.heap[n]? = some (.cells (pkCells h vo vb) t)) (i : Nat) (hi : i < 11) : u.cell? ⟨n, i, none⟩ = some ((pkCells h vo vb)[i]'hi) := by
  rw [cell_of_row u _ _ _ _ _ hb, Array.getElem?_eq_getElem hi]

theorem und29 : ∃ fs, Tryd.prog.underlying 36 = some (.struct fs) := ⟨_, Tryd.underlying36⟩
theorem und27 : ∃ fs, Tryd.prog.underlying 34 = some (.struct fs) := ⟨_, Tryd.underlying34⟩

theorem pk_load {u : World} {n : Nat} {h : Hd} {vo vb : Value} {t : TypeId} (hb : u.heap[n]? = some (.cells (pkCells h vo vb) t)) : (Instr.loadAt 36 (.pointer (some ⟨n, 0, none⟩))).run Tryd.prog u = .ok (.agg (pkCells h vo vb)) u := by
  obtain ⟨fs, hu⟩ := und29
  refine run_loadAt_mid u n 0 36 (pkCells h vo vb).toList (.struct fs) (fun j v hv => ?_) hu rfl (by rw [show (Tryd.prog.info? 36).map (·.size) = some 11 from by kernel_rfl]; rfl)
  have hj : j < 11 := (List.getElem?_eq_some_iff.1 hv).1
  rw [Nat.zero_add, pk_at hb j hj]
  rw [List.getElem?_eq_getElem hj] at hv
  exact hv

theorem pk_loadH {u : World} {n : Nat} {h : Hd} {vo vb : Value} {t : TypeId} (hb : u.heap[n]? = some (.cells (pkCells h vo vb) t)) : (Instr.loadAt 34 (.pointer (some ⟨n, 0, none⟩))).run Tryd.prog u = .ok (.agg (hdCells h vo)) u := by
  obtain ⟨fs, hu⟩ := und27
  refine run_loadAt_mid u n 0 34 (hdCells h vo).toList (.struct fs) (fun j v hv => ?_) hu rfl (by rw [show (Tryd.prog.info? 34).map (·.size) = some 10 from by kernel_rfl]; rfl)
  have hj : j < 10 := (List.getElem?_eq_some_iff.1 hv).1
  rw [Nat.zero_add, pk_at hb j (by omega)]
  have e : ∀ j (hj : j < 10), (hdCells h vo).toList[j]? = some ((pkCells h vo vb)[j]'(Nat.lt_of_lt_of_le hj (show 10 ≤ 11 by decide))) := by
    intro j hj
    match j, hj with
    | 0, _ => rfl
    | 1, _ => rfl
    | 2, _ => rfl
    | 3, _ => rfl
    | 4, _ => rfl
    | 5, _ => rfl
    | 6, _ => rfl
    | 7, _ => rfl
    | 8, _ => rfl
    | 9, _ => rfl
  rw [e j hj] at hv
  exact hv

/-- The step that reads a struct whole, guarded or not. -/
theorem wpList_ld {ops : Array Oper} {Q : Exit → Act → World → Prop} {a : Act} {w : World} {rest : List Oper} {o : Oper} {v : Value} (T : TypeId) (p : Addr) (x : Operand) (ho : o.op = .load T x) (hx : a.eval x = .pointer (some p))
    (hr : (Instr.loadAt T (.pointer (some p))).run Tryd.prog w = .ok v w) (hw : Region.wanted o (yielded ops a.tmps) = true) (h : wpList Tryd.prog ops Q rest (a.put o.dst v) w) : wpList Tryd.prog ops Q (o :: rest) a w := by
  refine wpList_step fun K hK => ?_
  rw [if_pos hw]
  unfold Oper.wp execOp
  simp only [ho, hx, Sem.run_bind, hr, Result.andThen_ok, Sem.run_pure]
  exact hK _ _ h

end Go.Proofs.YthpokoiclfbddaaDoor.N

namespace Go.Proofs.YthpokoiclfbddaaDoor.N
open Go.ChangeShapes Go.WideShapes Go.ChangeAt Go.RowKit
set_option maxHeartbeats 400000
set_option maxRecDepth 100000

theorem and_bit (f k : Nat) : f &&& 2 ^ k = 2 ^ k * (f / 2 ^ k % 2) := by
  apply Nat.eq_of_testBit_eq
  intro i
  rw [Nat.testBit_and, Nat.testBit_two_pow, Nat.testBit_two_pow_mul]
  have e : f / 2 ^ k % 2 = f / 2 ^ k % 2 ^ 1 := rfl
  rw [e, Nat.testBit_mod_two_pow, Nat.testBit_div_two_pow]
  by_cases h : k = i
  · subst h; simp
  · by_cases g : k < i
    · have h1 : ¬ i - k < 1 := by omega
      simp [h, h1]
    · have h1 : ¬ i ≥ k := by omega
      simp [h, h1]

theorem and_u16_bit (f k : Nat) (hf : f < 65536) (hk : k < 16) : bits .and .u16 (f : Int) ((2 ^ k : Nat) : Int) = ((2 ^ k * (f / 2 ^ k % 2) : Nat) : Int) := by
  have h1 : 2 ^ k < 65536 := by
    have := Nat.pow_lt_pow_right (a := 2) (by omega) hk
    simpa using this
  rw [u16_and_nat f (2 ^ k) hf h1, and_bit]

theorem and_u16_mask (f : Nat) (hf : f < 65536) : bits .and .u16 (f : Int) 8191 = ((f % 8192 : Nat) : Int) := by
  have := u16_and_nat f 8191 hf (by decide)
  rw [show (f &&& 8191) = f % 8192 from Nat.and_two_pow_sub_one_eq_mod f 13] at this
  exact this

theorem and_u8_mask (f : Nat) (hf : f < 256) : bits .and .u8 (f : Int) 15 = ((f % 16 : Nat) : Int) := by
  have := u8_and_nat f 15 hf (by decide)
  rw [show (f &&& 15) = f % 16 from Nat.and_two_pow_sub_one_eq_mod f 4] at this
  exact this

theorem or_u32 (x y : Nat) (hx : x < 65536) (hy : y < 65536) : bits .or .u32 ((x * 65536 : Nat) : Int) (y : Int) = ((x * 65536 + y : Nat) : Int) := by
  rw [u32_or_nat (x * 65536) y (by omega) (by omega)]
  congr 1
  have := Nat.two_pow_add_eq_or_of_lt (i := 16) (b := y) (by omega) x
  rw [Nat.mul_comm x 65536]
  exact this.symm

def byt (L : List Nat) (i : Nat) : Nat := L.getD i 0
def w16 (L : List Nat) (i : Nat) : Nat := byt L i * 256 + byt L (i + 1)
def w32 (L : List Nat) (i : Nat) : Nat := w16 L i * 65536 + w16 L (i + 2)

theorem byt_some {L : List Nat} {i x : Nat} (h : L[i]? = some x) : byt L i = x := by unfold byt; rw [List.getD_eq_getElem?_getD, h]; rfl

theorem byt_lt {L : List Nat} (h : ∀ x ∈ L, x < 256) (i : Nat) : byt L i < 256 := by
  unfold byt
  rw [List.getD_eq_getElem?_getD]
  cases e : L[i]? with
  | none => simp
  | some x => simpa using h x (List.mem_of_getElem? e)

theorem w16_lt {L : List Nat} (h : ∀ x ∈ L, x < 256) (i : Nat) : w16 L i < 65536 := by
  have h1 := byt_lt h i
  have h2 := byt_lt h (i + 1)
  unfold w16; omega

theorem SeesB.atB {w : World} {ao : Option Addr} {n cap : Nat} {L : List Nat} (h : SeesB w (.slice ao n cap) L) (j : Nat) (hj : j < n) : ∃ (g off : Nat), ao = some ⟨g, off, none⟩ ∧ g < w.heap.size ∧ w.cell? ⟨g, off + j, none⟩ = some (.int .u8 ((byt L j : Nat) : Int)) := by
  obtain ⟨g, off, p, ha, hg, hc, hp, HP⟩ := h.at j hj
  exact ⟨g, off, ha, hg, by rw [hc, byt_some HP.out]⟩

theorem below_drewN {B : Nat} {a w : World} (h : Below B a w) (n : Nat) : Below B a (w.drewN n) := ⟨h.os, h.tape, h.output, h.size, h.block⟩

/-- Two bytes at a slice's head: one draw. -/
theorem read16_x (v : Value) (L : List Nat) (w : World) (hv : SeesB w v L) (hl : 2 ≤ L.length) :
    Calls Tryd.prog 75 #[v] w fun e w' => e = .returned (.int .u16 ((w16 L 0 : Nat) : Int)) ∧ w' = w.drew := by
  obtain ⟨ao, n, cap, rfl, HN, hn1, hn2⟩ := hv.shape
  have h2 : 2 ≤ n := by have := HN.out; omega
  obtain ⟨g, off, rfl, hg, hc0⟩ := hv.atB 0 (by omega)
  obtain ⟨g', off', he, hg', hc1⟩ := hv.atB 1 (by omega)
  simp at he
  obtain ⟨rfl, rfl⟩ := he
  have hp := byt_lt hv.bytes 0
  have hq := byt_lt hv.bytes 1
  have HR : Hid (bits .or .u16 ((byt L 0 * 256 : Nat) : Int) (byt L 1 : Int) = ((w16 L 0 : Nat) : Int)) := by unfold Hid; rw [or_u16 _ _ hp hq]; rfl
  generalize w16 L 0 = r at *
  generalize byt L 0 = p at *
  generalize byt L 1 = q at *
  clear hv
  rw [Nat.add_zero] at hc0
  have b0 : 0 < n := by omega
  have b1 : 1 < n := by omega
  go_enter Tryd.func75, Tryd.ntmps75
  go_wp2
  go_region
  go_wp2
  go_ret
  exact ⟨ret_int (by rw [← HR.out]; simp), rfl⟩

theorem w16_drop (L : List Nat) (i j : Nat) : w16 (L.drop i) j = w16 L (i + j) := by
  unfold w16 byt
  simp only [List.getD_eq_getElem?_getD, List.getElem?_drop, Nat.add_assoc]

theorem sees_drew {w : World} {v : Value} {L : List Nat} (h : SeesB w v L) : SeesB w.drew v L := h.below (below_drew (Below.refl _ _))

end Go.Proofs.YthpokoiclfbddaaDoor.N
