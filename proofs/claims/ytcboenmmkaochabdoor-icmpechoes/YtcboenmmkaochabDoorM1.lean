import Derived.Test.YtcboenmmkaochabDoorRows
import Derived.WalkKit
import Derived.ProofKit
import Derived.OpenShut
import Derived.Deep.QuietTactic
import Derived.BigQuiet
import Derived.Laws.BitsAllLaws
import Derived.Deep.CutRange
import Derived.Laws.AppendOwnNone
import Derived.Deep.MidRow
import Derived.Deep.Slices
import Derived.Deep.Strs
import Derived.SizedLaws
namespace Go.Proofs.YtcboenmmkaochabDoor.N.M

/-- The words of joined bytes, added up; odd: the bytes begin within a word. -/
def tot (odd : Bool) : List Nat → Nat
  | [] => 0
  | x :: r => (if odd then x else 256 * x) + tot (!odd) r

/-- The parity behind n bytes more. -/
def par (o : Bool) (n : Nat) : Bool := if n % 2 = 0 then o else !o

theorem par_zero (o : Bool) : par o 0 = o := rfl

theorem par_succ (o : Bool) (n : Nat) : par (!o) n = par o (n + 1) := by
  unfold par
  by_cases h : n % 2 = 0
  · rw [if_pos h, if_neg (by omega)]
  · rw [if_neg h, if_pos (by omega)]; cases o <;> rfl

theorem par_add (o : Bool) (m n : Nat) : par (par o m) n = par o (m + n) := by
  unfold par
  by_cases h : m % 2 = 0 <;> by_cases g : n % 2 = 0
  · rw [if_pos h, if_pos g, if_pos (by omega)]
  · rw [if_pos h, if_neg g, if_neg (by omega)]
  · rw [if_neg h, if_pos g, if_neg (by omega)]
  · rw [if_neg h, if_neg g, if_pos (by omega)]; cases o <;> rfl

theorem tot_append (A B : List Nat) (o : Bool) : tot o (A ++ B) = tot o A + tot (par o A.length) B := by
  induction A generalizing o with
  | nil => simp [tot, par_zero]
  | cons x A ih => simp only [List.cons_append, tot, List.length_cons]; rw [ih, par_succ]; omega

theorem tot_le (L : List Nat) (o : Bool) (h : ∀ x ∈ L, x < 256) : tot o L ≤ 65280 * L.length := by
  induction L generalizing o with
  | nil => simp [tot]
  | cons x L ih =>
    have h1 := ih (!o) (fun y hy => h y (List.mem_cons_of_mem _ hy))
    have h2 := h x List.mem_cons_self
    simp only [tot, List.length_cons]
    split <;> omega

def fold (t : Nat) : Nat := if t = 0 then 0 else 1 + (t - 1) % 65535

theorem fold_le (t : Nat) : fold t ≤ 65535 := by
  unfold fold; split
  · omega
  · have := Nat.mod_lt (t - 1) (show 0 < 65535 by omega); omega

def csum (L : List Nat) : Nat := 65535 - fold (tot false L)

theorem csum_lt (L : List Nat) : csum L < 65536 := by unfold csum; omega

def adj (s o n : Nat) : Nat := 65535 - fold ((65535 - s) + (65535 - o) + n)

end Go.Proofs.YtcboenmmkaochabDoor.N.M

namespace Go.Proofs.YtcboenmmkaochabDoor.N
open Go.ChangeShapes Go.WideShapes Go.ChangeAt Go.RowKit
set_option maxHeartbeats 400000
set_option maxRecDepth 100000

def lenOf : Value → Nat
  | .slice _ n _ => n
  | _ => 0

theorem hid {p : Prop} (h : p) : Hid p := h
theorem ret_int {k : IntKind} {a b : Int} (h : a = b) : Ending.returned (.int k a) = .returned (.int k b) := by rw [h]
theorem ret_bool {a b : Bool} (h : a = b) : Ending.returned (.bool a) = .returned (.bool b) := by rw [h]

theorem complement_any (t : Nat) (w : World) (ht : t < 9223372036854775808) :
    Calls Tryd.prog 55 #[.int .u64 t] w fun e w' => e = .returned (.int .u16 ((65535 - M.fold t : Nat) : Int)) ∧ w' = w := by
  by_cases h : t = 0
  · subst h
    go_enter Tryd.func55, Tryd.ntmps55
    go_wp2
    go_ret
    exact ⟨rfl, rfl⟩
  · have hq : ((t : Int) == 0) = false := beq_false_of_ne (fun e => h (by exact_mod_cast e))
    have HF : Hid (65535 - M.fold t = 65534 - (t - 1) % 65535) := by unfold Hid M.fold; rw [if_neg h]; omega
    have h1 : 1 ≤ t := by omega
    go_enter Tryd.func55, Tryd.ntmps55
    go_wp2
    go_ret
    refine ⟨ret_int ?_, rfl⟩
    rw [HF.out]
    omega

theorem fold_any (t : Nat) (w : World) (ht : t < 9223372036854775808) :
    Calls Tryd.prog 57 #[.int .i64 t] w fun e w' => e = .returned (.int .i64 ((M.fold t : Nat) : Int)) ∧ w' = w := by
  by_cases h : t = 0
  · subst h
    go_enter Tryd.func57, Tryd.ntmps57
    go_wp2
    go_ret
    exact ⟨rfl, rfl⟩
  · have hq : ((t : Int) == 0) = false := beq_false_of_ne (fun e => h (by exact_mod_cast e))
    have HF : Hid (M.fold t = 1 + (t - 1) % 65535) := by unfold Hid M.fold; rw [if_neg h]
    have h1 : 1 ≤ t := by omega
    go_enter Tryd.func57, Tryd.ntmps57
    go_wp2
    go_ret
    refine ⟨ret_int ?_, rfl⟩
    rw [HF.out]
    omega

/-- The slice value v shows, in the world w, the bytes L. -/
def SeesB (w : World) (v : Value) (L : List Nat) : Prop :=
  ∃ ao cap, v = .slice ao L.length cap ∧ (L.length ≤ cap ∧ (ao = none → cap = 0)) ∧ cap ≤ maxLen ∧
    ∀ j (h : j < L.length), ∃ g off, ao = some ⟨g, off, none⟩ ∧ g < w.heap.size ∧ w.cell? ⟨g, off + j, none⟩ = some (.int .u8 (L[j] : Int)) ∧ L[j] < 256

theorem SeesB.shape {w : World} {v : Value} {L : List Nat} (h : SeesB w v L) : ∃ ao n cap, v = .slice ao n cap ∧ Hid (n = L.length) ∧ n ≤ cap ∧ cap ≤ maxLen := by
  obtain ⟨ao, cap, hv, h1, h2, _⟩ := h
  exact ⟨ao, L.length, cap, hv, rfl, h1.1, h2⟩

theorem SeesB.at {w : World} {ao : Option Addr} {n cap : Nat} {L : List Nat} (h : SeesB w (.slice ao n cap) L) (j : Nat) (hj : j < n) : ∃ (g off p : Nat), ao = some ⟨g, off, none⟩ ∧ g < w.heap.size ∧ w.cell? ⟨g, off + j, none⟩ = some (.int .u8 (p : Int)) ∧ p < 256 ∧ Hid (L[j]? = some p) := by
  obtain ⟨ao', cap', hv, h1, h2, h3⟩ := h
  simp at hv
  obtain ⟨rfl, rfl, rfl⟩ := hv
  obtain ⟨g, off, a, b, c, d⟩ := h3 j hj
  exact ⟨g, off, L[j], a, b, c, d, List.getElem?_eq_getElem hj⟩

theorem SeesB.below {w w' : World} {v : Value} {L : List Nat} (h : SeesB w v L) (hb : Below w.heap.size w w') : SeesB w' v L := by
  obtain ⟨ao, cap, hv, h1, h2, h3⟩ := h
  refine ⟨ao, cap, hv, h1, h2, fun j hj => ?_⟩
  obtain ⟨g, off, ha, hg, c0, c1⟩ := h3 j hj
  exact ⟨g, off, ha, Nat.lt_of_lt_of_le hg hb.size, (hb.cell (p := ⟨g, _, none⟩) hg).trans c0, c1⟩

theorem SeesB.bytes {w : World} {v : Value} {L : List Nat} (h : SeesB w v L) : ∀ x ∈ L, x < 256 := by
  obtain ⟨ao, cap, hv, h1, h2, h3⟩ := h
  intro x hx
  obtain ⟨j, hj, rfl⟩ := List.mem_iff_getElem.1 hx
  obtain ⟨_, _, _, _, _, h⟩ := h3 j hj
  exact h

theorem sees_nil (w : World) : SeesB w (.slice none 0 0) [] := ⟨none, 0, rfl, ⟨by simp, fun _ => rfl⟩, by unfold maxLen; omega, fun j h => absurd h (by simp)⟩

theorem below_drew {B : Nat} {a w : World} (h : Below B a w) : Below B a w.drew := ⟨h.os, h.tape, h.output, h.size, h.block⟩

theorem or_u16 (x y : Nat) (hx : x < 256) (hy : y < 256) : bits .or .u16 ((x * 256 : Nat) : Int) (y : Int) = ((x * 256 + y : Nat) : Int) := by
  rw [u16_or_nat (x * 256) y (by omega) (by omega)]
  congr 1
  have := Nat.two_pow_add_eq_or_of_lt (i := 8) (b := y) (by omega) x
  rw [Nat.mul_comm x 256]
  exact this.symm

/-- Two bytes at a slice's head. -/
theorem read16_any (v : Value) (x y : Nat) (r : List Nat) (w : World) (hv : SeesB w v (x :: y :: r)) :
    Calls Tryd.prog 54 #[v] w fun e w' => e = .returned (.int .u16 ((x * 256 + y : Nat) : Int)) ∧ Below w.heap.size w w' := by
  obtain ⟨ao, n, cap, rfl, HN, hn1, hn2⟩ := hv.shape
  have h2 : 2 ≤ n := by have := HN.out; simp at this; omega
  obtain ⟨g, off, p, rfl, hg, hc0, hp, HP⟩ := hv.at 0 (by omega)
  obtain ⟨g', off', q, he, hg', hc1, hq, HQ⟩ := hv.at 1 (by omega)
  simp at he
  obtain ⟨rfl, rfl⟩ := he
  have HO := or_u16 p q hp hq
  have e1 : p = x := by have := HP.out; simpa using this.symm
  have e2 : q = y := by have := HQ.out; simpa using this.symm
  have HR : Hid (bits .or .u16 ((p * 256 : Nat) : Int) (q : Int) = ((x * 256 + y : Nat) : Int)) := by unfold Hid; rw [HO, e1, e2]
  clear HO e1 e2 HP HQ hv
  rw [Nat.add_zero] at hc0
  have b0 : 0 < n := by omega
  have b1 : 1 < n := by omega
  go_enter Tryd.func54, Tryd.ntmps54
  go_wp2
  go_region
  go_wp2
  go_ret
  exact ⟨ret_int (by rw [← HR.out]; simp), below_drew (Below.refl _ _)⟩

theorem SeesB.back {w : World} {g off n cap : Nat} {L : List Nat} (h : SeesB w (.slice (some ⟨g, off, none⟩) n cap) L) (m : Nat) (hm : m ≤ n) :
    SeesB w (.slice (if cap = m then some ⟨g, off, none⟩ else some ⟨g, off + m, none⟩) (n - m) (cap - m)) (L.drop m) := by
  obtain ⟨ao', cap', hv, h1, h2, h3⟩ := h
  simp at hv
  obtain ⟨rfl, rfl, rfl⟩ := hv
  refine ⟨_, cap - m, by rw [List.length_drop], ⟨by rw [List.length_drop]; omega, fun h => by split at h <;> cases h⟩, by omega, fun j hj => ?_⟩
  rw [List.length_drop] at hj
  obtain ⟨g', off', ha, hg, hc, hb⟩ := h3 (m + j) (by omega)
  simp at ha
  obtain ⟨rfl, rfl⟩ := ha
  refine ⟨g, off + m, by rw [if_neg (by omega)], hg, ?_, ?_⟩
  · rw [List.getElem_drop, Nat.add_assoc]; exact hc
  · rw [List.getElem_drop]; exact hb

/-- A cut 'x[m:]': its value is kept a letter. -/
theorem SeesB.low {w : World} {ao : Option Addr} {n cap : Nat} {L : List Nat} (h : SeesB w (.slice ao n cap) L) (m : Nat) (i : Int) (hi : i = m) (hm : m ≤ n) :
    ∃ ao', Hid (SeesB w (.slice ao' (n - m) (cap - m)) (L.drop m)) ∧ ∀ u : World, (Instr.sliceAt 26 (.slice ao n cap) (some (.int .i64 i)) none none).run Tryd.prog u = .ok (.slice ao' (n - m) (cap - m)) u := by
  subst hi
  have hlen : n = L.length := by obtain ⟨_, _, hv, _⟩ := h; simp at hv; exact hv.2.1
  refine ⟨if cap = m then ao else ao.map (·.add m), ?_, fun u => ?_⟩
  · cases ao with
    | none =>
      have hn : n = 0 := by
        rcases Nat.eq_zero_or_pos n with h0 | h0
        · exact h0
        · obtain ⟨_, _, _, hc, _⟩ := h.at 0 h0; cases hc
      have h2 := h
      obtain ⟨_, _, hv, h1, h3, _⟩ := h
      simp at hv
      obtain ⟨rfl, _, rfl⟩ := hv
      have hL : L.drop m = [] := List.drop_eq_nil_of_le (by omega)
      unfold Hid; rw [hL]
      exact ⟨_, cap - m, by rw [show n - m = 0 by omega]; rfl, ⟨by simp, fun h => by have := h1.2 rfl; omega⟩, by omega, fun j hj => absurd hj (by simp)⟩
    | some a =>
      rcases Nat.eq_zero_or_pos n with h0 | h0
      · obtain ⟨_, _, hv, h1, h3, _⟩ := h
        simp at hv
        obtain ⟨rfl, _, rfl⟩ := hv
        have hL : L.drop m = [] := List.drop_eq_nil_of_le (by omega)
        unfold Hid; rw [hL]
        exact ⟨_, cap - m, by rw [show n - m = 0 by omega]; rfl, ⟨by simp, fun h => by split at h <;> cases h⟩, by omega, fun j hj => absurd hj (by simp)⟩
      · obtain ⟨g, off, _, hc, _⟩ := h.at 0 h0
        simp at hc
        subst hc
        have := h.back m hm
        have ea : (⟨g, off, none⟩ : Addr).add m = ⟨g, off + m, none⟩ := by
          rcases Nat.eq_zero_or_pos m with rfl | h0
          · simp [Addr.add]
          · simp [Addr.add]; omega
        unfold Hid
        rw [Option.map_some, ea]
        exact this
  · have hu : Tryd.prog.underlying 26 = some (.slice (Tryd.prog.elem 26)) := by kernel_rfl
    have hsz : (sizeOf (Tryd.prog.elem 26)).run Tryd.prog u = .ok 1 u := by kernel_rfl
    rw [run_sliceAt_slice (h := hu), run_slice_l (ht := hu) (h0 := by omega) (h1 := by omega), hsz]
    simp [Result.andThen, sliced]

/-- The slice value v shows the lists Ls. -/
def SeesBB (w : World) (v : Value) (Ls : List (List Nat)) : Prop :=
  ∃ ao cap, v = .slice ao Ls.length cap ∧ Ls.length ≤ cap ∧ cap ≤ maxLen ∧
    ∀ j (h : j < Ls.length), ∃ g off u, ao = some ⟨g, off, none⟩ ∧ g < w.heap.size ∧ w.cell? ⟨g, off + j, none⟩ = some u ∧ SeesB w u Ls[j]

theorem SeesBB.shape {w : World} {v : Value} {L : List (List Nat)} (h : SeesBB w v L) : ∃ ao n cap, v = .slice ao n cap ∧ Hid (n = L.length) ∧ n ≤ cap ∧ cap ≤ maxLen := by
  obtain ⟨ao, cap, hv, h1, h2, _⟩ := h
  exact ⟨ao, L.length, cap, hv, rfl, h1, h2⟩

theorem SeesBB.at {w : World} {ao : Option Addr} {n cap : Nat} {L : List (List Nat)} (h : SeesBB w (.slice ao n cap) L) (j : Nat) (hj : j < n) : ∃ (g off : Nat) (u : Value) (l : List Nat), ao = some ⟨g, off, none⟩ ∧ g < w.heap.size ∧ w.cell? ⟨g, off + j, none⟩ = some u ∧ SeesB w u l ∧ Hid (L[j]? = some l) := by
  obtain ⟨ao', cap', hv, h1, h2, h3⟩ := h
  simp at hv
  obtain ⟨rfl, rfl, rfl⟩ := hv
  obtain ⟨g, off, u, a, b, c, d⟩ := h3 j hj
  exact ⟨g, off, u, L[j], a, b, c, d, List.getElem?_eq_getElem hj⟩

theorem SeesBB.below {w w' : World} {v : Value} {L : List (List Nat)} (h : SeesBB w v L) (hb : Below w.heap.size w w') : SeesBB w' v L := by
  obtain ⟨ao, cap, hv, h1, h2, h3⟩ := h
  refine ⟨ao, cap, hv, h1, h2, fun j hj => ?_⟩
  obtain ⟨g, off, u, ha, hg, c0, c1⟩ := h3 j hj
  exact ⟨g, off, u, ha, Nat.lt_of_lt_of_le hg hb.size, (hb.cell (p := ⟨g, _, none⟩) hg).trans c0, c1.below hb⟩
end Go.Proofs.YtcboenmmkaochabDoor.N

namespace Go.Proofs.YtcboenmmkaochabDoor.N
open Go.ChangeShapes Go.WideShapes Go.ChangeAt Go.RowKit
set_option maxHeartbeats 400000
set_option maxRecDepth 100000

theorem take_snoc {α : Type} {L : List α} {j : Nat} {x : α} (h : L[j]? = some x) : L.take (j + 1) = L.take j ++ [x] := by
  rw [List.take_add_one, h]; rfl

/-- What is added up of the first lists. -/
def T (Ls : List (List Nat)) (k : Nat) : Nat := M.tot false (Ls.take k).flatten
def O (Ls : List (List Nat)) (k : Nat) : Bool := M.par false (Ls.take k).flatten.length

theorem T_succ {Ls : List (List Nat)} {k : Nat} {l : List Nat} (h : Ls[k]? = some l) : T Ls (k + 1) = T Ls k + M.tot (O Ls k) l := by
  unfold T O; rw [take_snoc h, List.flatten_append, M.tot_append]; simp

theorem O_succ {Ls : List (List Nat)} {k : Nat} {l : List Nat} (h : Ls[k]? = some l) : O Ls (k + 1) = M.par (O Ls k) l.length := by
  unfold O; rw [take_snoc h, List.flatten_append, List.length_append, M.par_add]; simp

theorem T_le {Ls : List (List Nat)} {k : Nat} (hb : ∀ l ∈ Ls, ∀ x ∈ l, x < 256) (hl : Ls.flatten.length ≤ 1099511627776) : T Ls k ≤ 71776119061217280 := by
  have h1 := M.tot_le (Ls.take k).flatten false (fun x hx => by
    obtain ⟨l, hl, hx⟩ := List.mem_flatten.1 hx
    exact hb l (List.mem_of_mem_take hl) x hx)
  have h2 : (Ls.take k).flatten.length ≤ Ls.flatten.length := by
    conv => rhs; rw [← List.take_append_drop k Ls, List.flatten_append, List.length_append]
    omega
  unfold T; omega

theorem SeesBB.bytes {w : World} {v : Value} {Ls : List (List Nat)} (h : SeesBB w v Ls) : ∀ l ∈ Ls, ∀ x ∈ l, x < 256 := by
  obtain ⟨ao, cap, hv, h1, h2, h3⟩ := h
  intro l hl
  obtain ⟨j, hj, rfl⟩ := List.mem_iff_getElem.1 hl
  obtain ⟨_, _, _, _, _, _, h⟩ := h3 j hj
  exact h.bytes

set_option maxHeartbeats 500000 in
theorem sum_code (v : Value) (Ls : List (List Nat)) (w : World) (hv : SeesBB w v Ls) (hl : Ls.flatten.length ≤ 1099511627776) :
    Calls Tryd.prog 33 #[v] w fun e w' => e = .returned (.int .u16 ((M.csum Ls.flatten : Nat) : Int)) ∧ Below w.heap.size w w' := by
  obtain ⟨ao, n, cap, rfl, HN, hn1, hn2⟩ := hv.shape
  have HT : Hid (∀ k, T Ls k ≤ 71776119061217280) := fun k => T_le hv.bytes hl
  have HV := hid hv
  clear hv hl
  unfold maxLen at hn2
  go_enter Tryd.func33, Tryd.ntmps33
  go_wp2_with fail
  go_loopw [3, 4, 6, 9] (fun t o _ i wr => ∃ (k s : Nat) (b : Bool), i = .int .i64 k ∧ k ≤ n ∧ t = .int .u64 s ∧ o = .bool b ∧ Hid (s = T Ls k ∧ b = O Ls k) ∧ Below w.heap.size w wr) (fun _ _ _ i _ => n - (intOf i).toNat)
  case atStart => exact ⟨0, 0, false, rfl, by omega, rfl, rfl, ⟨rfl, rfl⟩, Below.refl _ _⟩
  case round =>
    obtain ⟨k, s, b, rfl, hk, rfl, rfl, HS, hb⟩ := hrel
    have hs : s ≤ 71776119061217280 := by have := HT.out k; have := HS.out.1; omega
    by_cases hlt : k < n
    · obtain ⟨g, off, u, l, rfl, hg, hc, hu, HL⟩ := (HV.out.below hb).at k hlt
      obtain ⟨ar, nr, capr, rfl, HNR, hr1, hr2⟩ := hu.shape
      unfold maxLen at hr2
      have HU := hid hu
      have HTS : Hid (T Ls (k + 1) = s + M.tot b l ∧ O Ls (k + 1) = M.par b l.length) := by
        have h1 := T_succ HL.out
        have h2 := O_succ HL.out
        rw [← HS.out.1, ← HS.out.2] at h1
        rw [← HS.out.2] at h2
        exact ⟨h1, h2⟩
      clear hu HS
      go_upto_region 6 with fail
      go_cut [3, 4, 6, 9, 18] from 10 to 47 (fun t o p i c wx => i = .int .i64 k ∧ t = .int .u64 s ∧ o = .bool b ∧ p = .slice ar nr capr ∧ (∃ c' : Bool, c = .bool c' ∧ Hid (c' = (b && decide (0 < nr)))) ∧ wx = wr)
      case first =>
        cases b
        · go_wp2_with fail
          go_meet
          case rel => exact ⟨rfl, rfl, rfl, rfl, ⟨false, rfl, rfl⟩, rfl⟩
        · go_wp2_with fail
          go_meet
          case rel => exact ⟨rfl, rfl, rfl, rfl, ⟨decide (0 < nr), by simp, by simp [Hid]⟩, rfl⟩
      case rest =>
        obtain ⟨rfl, rfl, rfl, rfl, ⟨c, rfl, HC⟩, rfl⟩ := hcut
        go_upto_if 18 with fail
        go_cut [3, 4, 6, 9] from 10 to 47 (fun t o p i wx => ∃ (s' : Nat) (b' : Bool) (l' : List Nat), i = .int .i64 k ∧ t = .int .u64 s' ∧ o = .bool b' ∧ Hid (SeesB wx p l') ∧ Hid ((l' = [] ∨ b' = false) ∧ T Ls (k + 1) = s' + M.tot b' l' ∧ O Ls (k + 1) = M.par b' l'.length) ∧ Below w.heap.size w wx)
        case first =>
          cases c with
          | true =>
            obtain ⟨hb1, hnr⟩ : b = true ∧ 0 < nr := by have := HC.out.symm; simpa using this
            obtain ⟨aq, HB, hcut⟩ := HU.out.low 1 1 rfl (by omega)
            obtain ⟨ga, oa, x, rfl, hga, hca, hx, HX⟩ := HU.out.at 0 hnr
            have HR : Hid (T Ls (k + 1) = (s + x) + M.tot false (l.drop 1) ∧ O Ls (k + 1) = M.par false (l.drop 1).length) := by
              have h1 := HTS.out
              have h2 := HX.out
              rw [hb1] at h1
              cases l with
              | nil => simp at h2
              | cons y l =>
                simp at h2; subst h2
                rw [h1.1, h1.2]
                exact ⟨by simp [M.tot]; omega, by simp only [List.length_cons, List.drop_succ_cons, List.drop_zero]; exact (M.par_succ true _).symm⟩
            rw [Nat.add_zero] at hca
            clear hb1 HTS HC HX HU
            go_wp2_with fail
            go_meet
            case rel => exact ⟨s + x, false, l.drop 1, rfl, by go_num, rfl, HB, ⟨.inr rfl, HR.out⟩, hb⟩
          | false =>
            have HR : Hid (l = [] ∨ b = false) := by
              have h1 := HC.out.symm
              cases b with
              | false => exact .inr rfl
              | true => left; simp at h1; have h2 := HNR.out; exact List.eq_nil_of_length_eq_zero (by omega)
            clear HC
            go_wp2_with fail
            go_meet
            case rel => exact ⟨s, b, l, rfl, rfl, rfl, HU, ⟨HR.out, HTS.out⟩, hb⟩
        case rest =>
          obtain ⟨s1, b1, l1, rfl, rfl, rfl, HU1, HR1, hb2⟩ := hcut
          clear HU HTS HC hc hs hg hr1 hr2 HNR
          go_wp2_with fail
          go_loopw [3, 6] (fun t p wx => ∃ (s' : Nat) (l' : List Nat), t = .int .u64 s' ∧ Hid (SeesB wx p l') ∧ Hid ((l' = [] ∨ b1 = false) ∧ T Ls (k + 1) = s' + M.tot b1 l' ∧ O Ls (k + 1) = M.par b1 l'.length) ∧ Below w.heap.size w wx) (fun _ p _ => lenOf p)
          case atStart => exact ⟨s1, l1, rfl, HU1, HR1, hb2⟩
          case round =>
            obtain ⟨s2, l2, rfl, HU2, HR2, hb3⟩ := hrel
            have hs2 : s2 ≤ 71776119061217280 := by have h1 := HT.out (k + 1); have h2 := HR2.out.2.1; omega
            obtain ⟨a2, n2, cap2, rfl, HN2, hr1, hr2⟩ := HU2.out.shape
            unfold maxLen at hr2
            by_cases hge : 2 ≤ n2
            · obtain ⟨x, y, r, hl2⟩ : ∃ x y r, l2 = x :: y :: r := by
                have h1 := HN2.out
                match l2, h1 with
                | [], h1 => simp at h1; omega
                | [x], h1 => simp at h1; omega
                | x :: y :: r, _ => exact ⟨x, y, r, rfl⟩
              subst hl2
              obtain ⟨aq, HB, hcut⟩ := HU2.out.low 2 2 rfl hge
              have HC := fun u (hu : Below _ _ u) => read16_any _ x y r u (HU2.out.below hu)
              obtain ⟨ga, oa, x', rfl, hga, hca, hx, HX⟩ := HU2.out.at 0 (by omega)
              obtain ⟨g', o', y', he, _, hcy, hy, HY⟩ := HU2.out.at 1 (by omega)
              clear hcy he
              have hxe : x' = x := by have := HX.out; simpa using this.symm
              have hye : y' = y := by have := HY.out; simpa using this.symm
              subst hxe hye
              have HR3 : Hid (((r = [] ∨ b1 = false) ∧ T Ls (k + 1) = (s2 + (x' * 256 + y')) + M.tot b1 r ∧ O Ls (k + 1) = M.par b1 r.length)) := by
                obtain ⟨h1, h2, h3⟩ := HR2.out
                have hb1 : b1 = false := by rcases h1 with h1 | h1; · cases h1
                                            · exact h1
                rw [hb1] at h2 h3 ⊢
                refine ⟨.inr rfl, by rw [h2]; simp [M.tot]; omega, by rw [h3]; simp only [List.length_cons]; rw [← M.par_succ, ← M.par_succ]; rfl⟩
              rw [List.drop_succ_cons, List.drop_succ_cons, List.drop_zero] at HB
              obtain ⟨z, hz⟩ : ∃ z, z = x' * 256 + y' := ⟨_, rfl⟩
              rw [← hz] at HC HR3
              have hz1 : z < 65536 := by omega
              clear HX HY hz hca hx hy
              go_wp2_with fail
              refine (HC _ (Below.refl _ _)).mono ?_
              rintro _ w3 ⟨rfl, hb4⟩
              clear HC
              have HB3 := hid (SeesB.below HB.out hb4)
              have hb5 := hb3.trans (hb4.mono hb3.size)
              clear HB hb4
              go_wp2_with fail
              go_roundw
              case rel => exact ⟨s2 + z, r, by go_num, HB3, HR3, hb5⟩
              case measure => simp [lenOf]; omega
            · by_cases h1 : n2 = 1
              · obtain ⟨x, hl2⟩ : ∃ x, l2 = [x] := by
                  have h2 := HN2.out
                  match l2, h2 with
                  | [], h2 => simp at h2; omega
                  | [x], _ => exact ⟨x, rfl⟩
                  | x :: y :: r, h2 => simp at h2; omega
                subst hl2
                obtain ⟨ga, oa, x', rfl, hga, hca, hx, HX⟩ := HU2.out.at 0 (by omega)
                have hxe : x' = x := by have := HX.out; simpa using this.symm
                subst hxe
                have HR3 : Hid (s2 + x' * 256 = T Ls (k + 1) ∧ true = O Ls (k + 1)) := by
                  obtain ⟨h2, h3, h4⟩ := HR2.out
                  have hb1 : b1 = false := by rcases h2 with h2 | h2; · cases h2
                                              · exact h2
                  rw [hb1] at h3 h4
                  exact ⟨by rw [h3]; simp [M.tot]; omega, by rw [h4]; rfl⟩
                rw [Nat.add_zero] at hca
                subst h1
                clear HX HR2 HU2 HN2
                go_wp2_with fail
                go_roundw
                case rel => exact ⟨k + 1, s2 + x' * 256, true, by go_num, by omega, by go_num, rfl, HR3, hb3⟩
                case measure => simp [intOf]; omega
              · obtain rfl : n2 = 0 := by omega
                have HR3 : Hid (s2 = T Ls (k + 1) ∧ b1 = O Ls (k + 1)) := by
                  obtain ⟨h2, h3, h4⟩ := HR2.out
                  have h5 : l2 = [] := List.eq_nil_of_length_eq_zero HN2.out.symm
                  rw [h5] at h3 h4
                  exact ⟨by rw [h3]; simp [M.tot], by rw [h4]; rfl⟩
                clear HR2 HU2 HN2
                go_wp2_with fail
                go_roundw
                case rel => exact ⟨k + 1, s2, b1, by go_num, by omega, rfl, rfl, HR3, hb3⟩
                case measure => simp [intOf]; omega
    · have HE : Hid (M.csum Ls.flatten = 65535 - M.fold s) := by
        unfold Hid M.csum
        rw [HS.out.1]
        unfold T
        rw [List.take_of_length_le (by have := HN.out; omega)]
      go_wp2_with fail
      refine (complement_any s _ (by omega)).mono ?_
      rintro _ _ ⟨rfl, rfl⟩
      go_wp2_with fail
      go_ret
      exact ⟨ret_int (by rw [HE.out]), hb⟩
end Go.Proofs.YtcboenmmkaochabDoor.N

namespace Go.Proofs.YtcboenmmkaochabDoor.N
open Go.ChangeShapes Go.WideShapes Go.ChangeAt Go.RowKit
set_option maxHeartbeats 400000
set_option maxRecDepth 100000

def bs (L : List Nat) : List Value := L.map fun (x : Nat) => Value.int .u8 (x : Int)

/-- v is a list of bytes of the call's own, in a block not below base. -/
def OwnB (w : World) (base : Nat) (v : Value) (L : List Nat) : Prop := w.ownsRow base 5 1 v L.length (bs L)

theorem Tryd.info5 : (Tryd.prog.info? 5).map (fun i => (i.zero, i.size, i.bytes)) = some (some (.int .u8 0), 1, 1) := by kernel_rfl

theorem ownB_nil (w : World) (base : Nat) : OwnB w base (.slice none 0 0) [] := World.ownsRow_nil _ _ _ _

theorem OwnB.sees {w : World} {base : Nat} {v : Value} {L : List Nat} (h : OwnB w base v L) (hb : ∀ x ∈ L, x < 256) : SeesB w v L := by
  rcases h.2 with ⟨rfl, hn⟩ | ⟨g, cap, cur, rfl, hbg, hg, hnc, hcm, hcs, htake⟩
  · have : L = [] := List.eq_nil_of_length_eq_zero hn
    subst this
    exact sees_nil w
  · refine ⟨some ⟨g, 0, none⟩, cap, rfl, ⟨hnc, fun h => by cases h⟩, hcm, fun j hj => ⟨g, 0, rfl, (Array.getElem?_eq_some_iff.1 hg).1, ?_, hb _ (List.getElem_mem hj)⟩⟩
    rw [Nat.zero_add, World.ownsRow.cellAt h j (by omega)]
    simp [bs, hj]

theorem below_grown {w w' : World} (h : Below w.heap.size w w') (row : Option Nat) : w.grownBy w' row := ⟨h.os, h.tape, h.output, h.size, fun k hk _ => h.block k hk⟩

theorem OwnB.below {w w' : World} {base : Nat} {v : Value} {L : List Nat} (h : OwnB w base v L) (hb : Below w.heap.size w w') : OwnB w' base v L :=
  World.ownsRow.kept h (below_grown hb none) (by cases hv : v.ownBlock <;> simp)

theorem below_of_grown {base : Nat} {w w' : World} {v : Value} {L : List Nat} (h : OwnB w base v L) (hbase : base ≤ w.heap.size) (hg : w.grownBy w' v.ownBlock) : Below base w w' :=
  (Below.refl _ _).grown hg hbase (fun k hk => (World.ownsRow.lt h k hk).1)

theorem wpList_append_bytes {w : World} {ops : Array Oper} {rest : List Oper} {o : Oper} {a : Act} {Q : Exit → Act → World → Prop} (hgd : o.guard = none) (s x : Operand)
    (ho : o.op = .call { callee := .builtin .append, args := #[s, x], argTypes := #[26, 26] })
    (base : Nat) (v : Value) (M : List Nat) (hs : a.eval s = v) (hown : OwnB w base v M) (u : Value) (L : List Nat) (hx : a.eval x = u) (hu : SeesB w u L)
    (hbytes : M.length + L.length ≤ 140737488355328) (hbase : base ≤ w.heap.size)
    (h : ∀ v' w', OwnB w' base v' (M ++ L) → Below base w w' → wpList Tryd.prog ops Q rest (a.put o.dst v') w') : wpList Tryd.prog ops Q (o :: rest) a w := by
  obtain ⟨i0, hi0, hz0, hz1, hz2⟩ := info_parts Tryd.info5
  have hu0 := hu
  obtain ⟨ao, cap, rfl, h1, h2, h3⟩ := hu
  cases ao with
  | none =>
    have hL : L = [] := by
      cases L with
      | nil => rfl
      | cons y L => obtain ⟨_, _, hc, _⟩ := h3 0 (by simp); cases hc
    subst hL
    have := h1.2 rfl
    subst this
    refine wpList_append_own_none hgd s x 26 ho base 5 i0 1 Tryd.underlying26 hi0 v _ _ hs hown hx ?_
    exact h v w (by rw [List.append_nil]; exact hown) (Below.refl _ _)
  | some ad =>
    refine wpList_append_own w hgd s x 26 ho base 5 i0 (.int .u8 0) 1 1 Tryd.underlying26 hi0 hz0 hz1 hz2 rfl (by decide) v _ _ hs hown ad L.length cap (bs L) hx (by simp [bs]) ?_ ?_ ?_ (by omega) hbase ?_
    · intro j q hj
      have hjl : j < L.length := by
        have := (List.getElem?_eq_some_iff.1 hj).1; simpa [bs] using this
      obtain ⟨g, off, hc, hg, hcell, _⟩ := h3 j hjl
      simp at hc; subst hc
      have e : (⟨g, off, none⟩ : Addr).add j = ⟨g, off + j, none⟩ := by
        rcases Nat.eq_zero_or_pos j with rfl | h0
        · simp [Addr.add]
        · simp [Addr.add]; omega
      rw [e, hcell]
      simp [bs, hjl] at hj
      rw [hj]
    · intro q hq
      obtain ⟨y, _, rfl⟩ := List.mem_map.1 hq
      rfl
    · unfold maxLen; omega
    · intro v' w' ho' hg _
      exact h v' w' (by unfold OwnB; rw [List.length_append, show bs (M ++ L) = bs M ++ bs L by simp [bs]]; exact ho') (below_of_grown hown hbase hg)

theorem total_any (v : Value) (L : List Nat) (w : World) (hv : SeesB w v L) (hl : L.length ≤ 1099511627776) :
    Calls Tryd.prog 56 #[v] w fun e w' => e = .returned (.int .i64 ((M.tot false L : Nat) : Int)) ∧ w' = w := by
  obtain ⟨ao, n, cap, rfl, HN, hn1, hn2⟩ := hv.shape
  have HT : Hid (∀ k, M.tot false (L.take k) ≤ 71776119061217280) := fun k => by
    have h1 := M.tot_le (L.take k) false (fun x hx => hv.bytes x (List.mem_of_mem_take hx))
    have h2 : (L.take k).length ≤ L.length := by rw [List.length_take]; omega
    omega
  have HV := hid hv
  clear hv hl
  unfold maxLen at hn2
  go_enter Tryd.func56, Tryd.ntmps56
  go_wp2_with fail
  go_loop [3, 4] (fun t i => ∃ (k s : Nat), i = .int .i64 k ∧ k ≤ n ∧ t = .int .i64 s ∧ Hid (s = M.tot false (L.take k))) (fun _ i => n - (intOf i).toNat)
  case atStart => exact ⟨0, 0, rfl, by omega, rfl, rfl⟩
  case round =>
    obtain ⟨k, s, rfl, hk, rfl, HS⟩ := hrel
    have hs : s ≤ 71776119061217280 := by have := HT.out k; have := HS.out; omega
    by_cases hlt : k < n
    · obtain ⟨g, off, x, rfl, hg, hc, hx, HX⟩ := HV.out.at k hlt
      have HS2 : Hid (M.tot false (L.take (k + 1)) = s + M.tot (M.par false k) [x]) := by
        unfold Hid; rw [take_snoc HX.out, M.tot_append, HS.out, List.length_take, Nat.min_eq_left (by have := HN.out; omega)]
      by_cases hp : k % 2 = 0
      · have hq : ((k : Int) % 2 == 0) = true := by simp; omega
        have HS3 : Hid (s + x * 256 = M.tot false (L.take (k + 1))) := by
          unfold Hid; rw [HS2.out]; simp [M.tot, M.par, hp]; omega
        clear HS2 HS hp
        go_wp2_with fail
        go_round
        case rel => exact ⟨k + 1, s + x * 256, by go_num, by omega, by go_num, HS3⟩
        case measure => simp [intOf]; omega
      · have hq : ((k : Int) % 2 == 0) = false := by simp; omega
        have HS3 : Hid (s + x = M.tot false (L.take (k + 1))) := by
          unfold Hid; rw [HS2.out]; simp [M.tot, M.par, hp]
        clear HS2 HS hp
        go_wp2_with fail
        go_round
        case rel => exact ⟨k + 1, s + x, by go_num, by omega, by go_num, HS3⟩
        case measure => simp [intOf]; omega
    · have HE : Hid (s = M.tot false L) := by
        have := HS.out
        rw [List.take_of_length_le (by have := HN.out; omega)] at this
        exact this
      go_wp2_with fail
      go_ret
      exact ⟨ret_int (by rw [HE.out]), rfl⟩

theorem flat_take_le {Ls : List (List Nat)} {k : Nat} : (Ls.take k).flatten.length ≤ Ls.flatten.length := by
  conv => rhs; rw [← List.take_append_drop k Ls, List.flatten_append, List.length_append]
  omega

theorem sum_ref (v : Value) (Ls : List (List Nat)) (w : World) (hv : SeesBB w v Ls) (hl : Ls.flatten.length ≤ 1099511627776) :
    Calls Tryd.prog 35 #[v] w fun e w' => e = .returned (.int .u16 ((M.csum Ls.flatten : Nat) : Int)) ∧ Below w.heap.size w w' := by
  obtain ⟨ao, n, cap, rfl, HN, hn1, hn2⟩ := hv.shape
  have HV := hid hv
  have HL := hid hl
  clear hv hl
  unfold maxLen at hn2
  go_enter Tryd.func35, Tryd.ntmps35
  go_wp2_with fail
  go_loopw [3, 4] (fun t i wr => ∃ (k : Nat), i = .int .i64 k ∧ k ≤ n ∧ Hid (OwnB wr w.heap.size t (Ls.take k).flatten) ∧ Below w.heap.size w wr) (fun _ i _ => n - (intOf i).toNat)
  case atStart => exact ⟨0, rfl, by omega, ownB_nil _ _, Below.refl _ _⟩
  case round =>
    obtain ⟨k, rfl, hk, HO, hb⟩ := hrel
    by_cases hlt : k < n
    · obtain ⟨g, off, u, l, rfl, hg, hc, hu, HU⟩ := (HV.out.below hb).at k hlt
      have HS := hid hu
      obtain ⟨ar, nr, capr, rfl, _, _, _⟩ := hu.shape
      clear hu
      have HF : Hid ((Ls.take k).flatten ++ l = (Ls.take (k + 1)).flatten) := by unfold Hid; rw [take_snoc HU.out]; simp
      have HF2 : Hid ((Ls.take k).flatten.length + l.length ≤ 1099511627776) := by
        have h1 : (Ls.take (k + 1)).flatten.length ≤ Ls.flatten.length := flat_take_le
        rw [← HF.out, List.length_append] at h1
        have := HL.out
        unfold Hid; omega
      go_wp2_with (at_builtin; refine wpList_append_bytes rfl _ _ rfl w.heap.size _ _ rfl HO.out _ l rfl HS.out ?c1 ?c2 ?_)
      case c1 => have := HF2.out; omega
      case c2 => exact hb.size
      · intro v' w2 ho hb2
        rw [HF.out] at ho
        have HO2 := hid ho
        have hb3 := hb.trans hb2
        clear ho hb2
        go_wp2_with fail
        go_roundw
        case rel => exact ⟨k + 1, by go_num, by omega, HO2, hb3⟩
        case measure => simp [intOf]; omega
    · have HE : Hid ((Ls.take k).flatten = Ls.flatten) := by
        unfold Hid; rw [List.take_of_length_le (by have := HN.out; omega)]
      rw [HE.out] at HO
      have HY : Hid (∀ x ∈ Ls.flatten, x < 256) := fun x hx => by
        obtain ⟨l, hl, hx⟩ := List.mem_flatten.1 hx
        exact HV.out.bytes l hl x hx
      have HC : Hid (M.csum Ls.flatten = 65535 - M.fold (M.tot false Ls.flatten)) := rfl
      have HTL : M.tot false Ls.flatten ≤ 71776119061217280 := by
        have := M.tot_le Ls.flatten false HY.out; have := HL.out; omega
      have HFL := M.fold_le (M.tot false Ls.flatten)
      go_wp2_with fail
      refine (total_any _ _ _ (HO.out.sees HY.out) HL.out).mono ?_
      rintro _ _ ⟨rfl, rfl⟩
      generalize M.tot false Ls.flatten = t at *
      go_wp2_with fail
      refine (fold_any t _ (by omega)).mono ?_
      rintro _ _ ⟨rfl, rfl⟩
      generalize M.fold t = f at *
      go_wp2_with fail
      go_ret
      exact ⟨ret_int (by rw [HC.out]; omega), hb⟩
end Go.Proofs.YtcboenmmkaochabDoor.N

namespace Go.Proofs.YtcboenmmkaochabDoor.N
open Go.ChangeShapes Go.WideShapes Go.ChangeAt Go.RowKit
set_option maxHeartbeats 400000
set_option maxRecDepth 100000

theorem sees_one {w : World} {n : Nat} (hn : w.heap.size = n) (x : Nat) (hx : x < 256) (t : TypeId) : SeesB (w.alloc (.cells #[.int .u8 (x : Int)] t)) (.slice (some ⟨n, 0, none⟩) 1 1) [x] := by
  subst hn
  refine ⟨some ⟨w.heap.size, 0, none⟩, 1, rfl, ⟨by simp, fun h => by cases h⟩, by unfold maxLen; omega, fun j hj => ⟨w.heap.size, 0, rfl, by simp, ?_, ?_⟩⟩
  · match j, hj with
    | 0, _ => simp
  · match j, hj with
    | 0, _ => exact hx

theorem sees_two {w : World} {n : Nat} (hn : w.heap.size = n) (x y : Nat) (hx : x < 256) (hy : y < 256) (t : TypeId) : SeesB (w.alloc (.cells #[.int .u8 (x : Int), .int .u8 (y : Int)] t)) (.slice (some ⟨n, 0, none⟩) 2 2) [x, y] := by
  subst hn
  refine ⟨some ⟨w.heap.size, 0, none⟩, 2, rfl, ⟨by simp, fun h => by cases h⟩, by unfold maxLen; omega, fun j hj => ⟨w.heap.size, 0, rfl, by simp, ?_, ?_⟩⟩
  · match j, hj with
    | 0, _ => simp
    | 1, _ => simp
  · match j, hj with
    | 0, _ => exact hx
    | 1, _ => exact hy

theorem OwnB.alloc {w : World} {base : Nat} {v : Value} {L : List Nat} (h : OwnB w base v L) (o : Obj) : OwnB (w.alloc o) base v L :=
  h.below ((Below.refl _ _).alloc (Nat.le_refl _) _)

theorem OwnB.mono {w : World} {b b' : Nat} {v : Value} {L : List Nat} (h : OwnB w b v L) (hb : b' ≤ b) : OwnB w b' v L := by
  refine ⟨h.1, ?_⟩
  rcases h.2 with h | ⟨g, cap, cur, h1, h2, h3⟩
  · exact .inl h
  · exact .inr ⟨g, cap, cur, h1, by omega, h3⟩

theorem put2_any (v : Value) (i : Int) (n base : Nat) (L : List Nat) (w : World) (hO : OwnB w base v L) (hi : i = (n : Int)) (hn : n < 65536) (hbase : base ≤ w.heap.size) (hl : L.length ≤ 1000000) :
    Calls Tryd.prog 72 #[v, .int .i64 i] w fun e w' => ∃ v', e = .returned v' ∧ OwnB w' base v' (L ++ [n / 256, n % 256]) ∧ Below base w w' := by
  subst hi
  have HO := hid hO
  clear hO
  obtain ⟨a, ha⟩ : ∃ a, a = n / 256 := ⟨_, rfl⟩
  obtain ⟨b, hb⟩ : ∃ b, b = n % 256 := ⟨_, rfl⟩
  have ea : (n : Int) / 256 = (a : Int) := by omega
  have eb : (n : Int) % 256 = (b : Int) := by omega
  have ha1 : a < 256 := by omega
  have hb1 : b < 256 := by omega
  rw [← ha, ← hb]
  clear ha hb
  go_enter Tryd.func72, Tryd.ntmps72
  go_wp2_with (at_builtin; refine wpList_append_bytes rfl _ _ rfl base _ _ rfl (HO.out.alloc _) _ [a, b] rfl (sees_two rfl a b ha1 hb1 _) ?c1 ?c2 ?_)
  case c1 => simp only [List.length_cons, List.length_nil]; omega
  case c2 => simp; omega
  · intro v' w2 ho hb2
    have HO2 := hid ho
    have hb3 := ((Below.refl base w).alloc hbase _).trans hb2
    clear ho hb2
    go_wp2_with fail
    go_ret
    exact ⟨v', rfl, HO2.out, hb3⟩
end Go.Proofs.YtcboenmmkaochabDoor.N

namespace Go.Proofs.YtcboenmmkaochabDoor.N
open Go.ChangeShapes Go.WideShapes Go.ChangeAt Go.RowKit
set_option maxHeartbeats 400000
set_option maxRecDepth 100000

/-- A packet's header: what its fields hold. -/
structure Hd where
  tos : Nat
  id : Nat
  df : Bool
  mf : Bool
  off : Int
  ttl : Nat
  proto : Nat
  src : Nat
  dst : Nat
  opts : List Nat

structure Hd.Ok (h : Hd) : Prop where
  tos : h.tos < 256
  id : h.id < 65536
  off : -9223372036854775808 ≤ h.off ∧ h.off ≤ 9223372036854775807
  ttl : h.ttl < 256
  proto : h.proto < 256
  src : h.src < 4294967296
  dst : h.dst < 4294967296

def hdCells (h : Hd) (vo : Value) : Array Value := #[.int .u8 (h.tos : Int), .int .u16 (h.id : Int), .bool h.df, .bool h.mf, .int .i64 h.off, .int .u8 (h.ttl : Int), .int .u8 (h.proto : Int), .int .u32 (h.src : Int), .int .u32 (h.dst : Int), vo]

/-- The word of flags and offset. -/
def flagW (df mf : Bool) (f : Nat) : Nat := f / 8 + (if df then 16384 else 0) + (if mf then 8192 else 0)

def hdBytes (h : Hd) (len sum : Nat) : List Nat :=
  [69 + h.opts.length / 4, h.tos, len / 256, len % 256, h.id / 256, h.id % 256, flagW h.df h.mf h.off.toNat / 256, flagW h.df h.mf h.off.toNat % 256, h.ttl, h.proto, sum / 256, sum % 256,
   h.src / 65536 / 256, h.src / 65536 % 256, h.src % 65536 / 256, h.src % 65536 % 256, h.dst / 65536 / 256, h.dst / 65536 % 256, h.dst % 65536 / 256, h.dst % 65536 % 256] ++ h.opts

theorem hd_at {u : World} {n : Nat} {h : Hd} {vo : Value} {t : TypeId} (hb : u.heap[n]? = some (.cells (hdCells h vo) t)) :
    u.cell? ⟨n, 0, none⟩ = some (.int .u8 (h.tos : Int)) ∧ u.cell? ⟨n, 1, none⟩ = some (.int .u16 (h.id : Int)) ∧ u.cell? ⟨n, 2, none⟩ = some (.bool h.df) ∧ u.cell? ⟨n, 3, none⟩ = some (.bool h.mf) ∧ u.cell? ⟨n, 4, none⟩ = some (.int .i64 h.off) ∧
    u.cell? ⟨n, 5, none⟩ = some (.int .u8 (h.ttl : Int)) ∧ u.cell? ⟨n, 6, none⟩ = some (.int .u8 (h.proto : Int)) ∧ u.cell? ⟨n, 7, none⟩ = some (.int .u32 (h.src : Int)) ∧ u.cell? ⟨n, 8, none⟩ = some (.int .u32 (h.dst : Int)) ∧ u.cell? ⟨n, 9, none⟩ = some vo := by
  refine ⟨?_, ?_, ?_, ?_, ?_, ?_, ?_, ?_, ?_, ?_⟩ <;> (rw [cell_of_row u _ _ _ _ _ hb]; rfl)

set_option maxHeartbeats 4000000 in
theorem header_any (h : Hd) (vo : Value) (i : Int) (len sum f : Nat) (w : World) (hok : h.Ok) (hi : i = (len : Int)) (hlen : len < 65536) (hsum : sum < 65536) (hf : h.off = (f : Int)) (hf1 : f ≤ 65528) (hvo : SeesB w vo h.opts) (hol : h.opts.length ≤ 40) :
    Calls Tryd.prog 53 #[.agg (hdCells h vo), .int .i64 i, .int .u16 (sum : Int)] w fun e w' => ∃ v', e = .returned v' ∧ OwnB w' w.heap.size v' (hdBytes h len sum) ∧ Below w.heap.size w w' := by
  subst hi
  have HVO := hid hvo
  obtain ⟨ao, n, cap, rfl, HN, hn1, hn2⟩ := hvo.shape
  have hn40 : n ≤ 40 := by have := HN.out; omega
  unfold maxLen at hn2
  obtain ⟨k1, k2, k3, k4, k5, k6, k7⟩ := hok
  have HB : Hid (∀ u, Below (w.heap.size + 1) (w.alloc (.cells (hdCells h (.slice ao n cap)) 33)) u → _) := fun u hu => hd_at (u := u) (n := w.heap.size) (h := h) (vo := .slice ao n cap) (t := 33) (by
    rw [hu.block w.heap.size (by omega)]
    exact heap_alloc_new w _)
  have HX : Hid (hdBytes h len sum = [69 + n / 4, h.tos, len / 256, len % 256, h.id / 256, h.id % 256, flagW h.df h.mf f / 256, flagW h.df h.mf f % 256, h.ttl, h.proto, sum / 256, sum % 256,
   h.src / 65536 / 256, h.src / 65536 % 256, h.src % 65536 / 256, h.src % 65536 % 256, h.dst / 65536 / 256, h.dst / 65536 % 256, h.dst % 65536 / 256, h.dst % 65536 % 256] ++ h.opts) := by
    unfold Hid hdBytes; rw [hf, Int.toNat_natCast, HN.out]
  obtain ⟨W, hW⟩ : ∃ W, W = flagW h.df h.mf f := ⟨_, rfl⟩
  rw [← hW] at HX
  have hW1 : W < 65536 := by rw [hW]; unfold flagW; split <;> split <;> omega
  obtain ⟨tos, id, df, mf, off, ttl, proto, src, dst, opts⟩ := h
  simp only at *
  subst hf
  have HW := hid hW
  clear hW hvo hol
  unfold hdCells at *
  simp only at *
  go_enter Tryd.func53, Tryd.ntmps53
  go_wp2_with (at_builtin; refine wpList_append_bytes rfl _ _ rfl (w.heap.size + 1) _ [] rfl (ownB_nil _ _) _ [69 + n / 4, tos] rfl (sees_two ?c0 (69 + n / 4) tos ?c1 k1 _) ?c2 ?c3 ?_)
  case c0 => simp
  case c1 => omega
  case c2 => simp
  case c3 => simp
  intro v0 w0 hO hb
  have HO0 := hid hO
  have hb0 := ((Below.refl (w.heap.size + 1) _).alloc (by simp) _).trans hb
  clear hO hb
  go_wp2_with fail
  refine (put2_any _ _ (len) (w.heap.size + 1) _ _ HO0.out (by omega) (by omega) (by have := hb0.size; simp at this; omega) (by simp)).mono ?_
  rintro _ w1 ⟨v1, rfl, hO, hb⟩
  have HO1 := hid hO
  have hb1 := hb0.trans hb
  clear hO hb hb0 HO0
  obtain ⟨-, c1, -, -, -, -, -, -, -, -⟩ := HB.out _ hb1
  go_wp2_with fail
  refine (put2_any _ _ (id) (w.heap.size + 1) _ _ HO1.out (by omega) (by omega) (by have := hb1.size; simp at this; omega) (by simp)).mono ?_
  rintro _ w2 ⟨v2, rfl, hO, hb⟩
  have HO2 := hid hO
  have hb2 := hb1.trans hb
  clear hO hb hb1 HO1 c1
  obtain ⟨-, -, c2, c3, c4, -, -, -, -, -⟩ := HB.out _ hb2
  obtain ⟨W1, hW1'⟩ : ∃ W1, W1 = f / 8 + (if df then 16384 else 0) := ⟨_, rfl⟩
  have hW2 : W = W1 + (if mf then 8192 else 0) := by rw [HW.out, hW1']; rfl
  have hW3 : W1 ≤ 24575 := by rw [hW1']; split <;> omega
  have HW1 := hid hW1'
  have HW2 := hid hW2
  clear hW1' hW2 HW
  go_upto_if 33 with fail
  go_cut [8] from 10 (fun x wx => x = .int .i64 (W1 : Int) ∧ w2 = wx)
  case first =>
    have h1 := HW1.out
    cases df
    · simp at h1
      clear HW1
      have h2 := hid h1
      clear h1
      go_wp2_with fail
      go_meet
      case rel => exact ⟨by rw [h2.out]; go_num, rfl⟩
    · simp at h1
      clear HW1
      have h2 := hid h1
      clear h1
      go_wp2_with fail
      go_meet
      case rel => exact ⟨by rw [h2.out]; go_num, rfl⟩
  case rest =>
  obtain ⟨rfl, rfl⟩ := hcut
  go_upto_if 37 with fail
  go_cut [8] from 10 (fun x wx => x = .int .i64 (W : Int) ∧ w2 = wx)
  case first =>
    have h1 := HW2.out
    cases mf
    · simp at h1
      clear HW2
      have h2 := hid h1
      clear h1
      go_wp2_with fail
      go_meet
      case rel => exact ⟨by rw [h2.out], rfl⟩
    · simp at h1
      clear HW2
      have h2 := hid h1
      clear h1
      go_wp2_with fail
      go_meet
      case rel => exact ⟨by rw [h2.out]; go_num, rfl⟩
  case rest =>
  obtain ⟨rfl, rfl⟩ := hcut
  clear c2 c3 c4 HW1 HW2
  go_wp2_with fail
  refine (put2_any _ _ (W) (w.heap.size + 1) _ _ HO2.out (by omega) (by omega) (by have := hb2.size; simp at this; omega) (by simp)).mono ?_
  rintro _ w3 ⟨v3, rfl, hO, hb⟩
  have HO3 := hid hO
  have hb3 := hb2.trans hb
  clear hO hb hb2 HO2
  obtain ⟨-, -, -, -, -, c5, c6, -, -, -⟩ := HB.out _ hb3
  go_wp2_with (at_builtin; refine wpList_append_bytes rfl _ _ rfl (w.heap.size + 1) _ _ rfl (HO3.out.alloc _) _ [ttl, proto] rfl (sees_two rfl ttl proto k4 k5 _) ?c1 ?c2 ?_)
  case c1 => simp
  case c2 => have := hb3.size; simp at this ⊢; omega
  intro v4 w4 hO hb
  have HO4 := hid hO
  have hb4 := (hb3.alloc (by have := hb3.size; simp at this ⊢; omega) _).trans hb
  clear hO hb hb3 HO3 c5 c6
  go_wp2_with fail
  refine (put2_any _ _ (sum) (w.heap.size + 1) _ _ HO4.out (by omega) (by omega) (by have := hb4.size; simp at this; omega) (by simp)).mono ?_
  rintro _ w5 ⟨v5, rfl, hO, hb⟩
  have HO5 := hid hO
  have hb5 := hb4.trans hb
  clear hO hb hb4 HO4
  obtain ⟨-, -, -, -, -, -, -, c7, -, -⟩ := HB.out _ hb5
  go_wp2_with fail
  refine (put2_any _ _ (src / 65536) (w.heap.size + 1) _ _ HO5.out (by omega) (by omega) (by have := hb5.size; simp at this; omega) (by simp)).mono ?_
  rintro _ w6 ⟨v6, rfl, hO, hb⟩
  have HO6 := hid hO
  have hb6 := hb5.trans hb
  clear hO hb hb5 HO5 c7
  obtain ⟨-, -, -, -, -, -, -, c7, -, -⟩ := HB.out _ hb6
  go_wp2_with fail
  refine (put2_any _ _ (src % 65536) (w.heap.size + 1) _ _ HO6.out (by omega) (by omega) (by have := hb6.size; simp at this; omega) (by simp)).mono ?_
  rintro _ w7 ⟨v7, rfl, hO, hb⟩
  have HO7 := hid hO
  have hb7 := hb6.trans hb
  clear hO hb hb6 HO6 c7
  obtain ⟨-, -, -, -, -, -, -, -, c8, -⟩ := HB.out _ hb7
  go_wp2_with fail
  refine (put2_any _ _ (dst / 65536) (w.heap.size + 1) _ _ HO7.out (by omega) (by omega) (by have := hb7.size; simp at this; omega) (by simp)).mono ?_
  rintro _ w8 ⟨v8, rfl, hO, hb⟩
  have HO8 := hid hO
  have hb8 := hb7.trans hb
  clear hO hb hb7 HO7 c8
  obtain ⟨-, -, -, -, -, -, -, -, c8, -⟩ := HB.out _ hb8
  go_wp2_with fail
  refine (put2_any _ _ (dst % 65536) (w.heap.size + 1) _ _ HO8.out (by omega) (by omega) (by have := hb8.size; simp at this; omega) (by simp)).mono ?_
  rintro _ w9 ⟨v9, rfl, hO, hb⟩
  have HO9 := hid hO
  have hb9 := hb8.trans hb
  clear hO hb hb8 HO8 c8
  obtain ⟨P, HP, HPX, HPL⟩ : ∃ P, Hid (OwnB w9 (w.heap.size + 1) v9 P) ∧ Hid (hdBytes { tos := tos, id := id, df := df, mf := mf, off := (f : Int), ttl := ttl, proto := proto, src := src, dst := dst, opts := opts } len sum = P ++ opts) ∧ Hid (P.length = 20) := ⟨_, HO9, by rw [HX.out]; rfl, rfl⟩
  have HBW : Hid (∀ u, Below (w.heap.size + 1) (w.alloc (.cells #[.int .u8 (tos : Int), .int .u16 (id : Int), .bool df, .bool mf, .int .i64 (f : Int), .int .u8 (ttl : Int), .int .u8 (proto : Int), .int .u32 (src : Int), .int .u32 (dst : Int), .slice ao n cap] 33)) u → Below w.heap.size w u) := fun u hu => ((Below.refl w.heap.size w).alloc (Nat.le_refl _) _).trans (hu.mono (by omega))
  clear HX HO9
  obtain ⟨-, -, -, -, -, -, -, -, -, c9⟩ := HB.out _ hb9
  go_wp2_with fail
  go_loopw [7, 9] (fun t i wr => ∃ q : Nat, i = .int .i64 q ∧ q ≤ n ∧ Hid (OwnB wr (w.heap.size + 1) t (P ++ opts.take q)) ∧ Below (w.heap.size + 1) (w.alloc (.cells #[.int .u8 (tos : Int), .int .u16 (id : Int), .bool df, .bool mf, .int .i64 (f : Int), .int .u8 (ttl : Int), .int .u8 (proto : Int), .int .u32 (src : Int), .int .u32 (dst : Int), .slice ao n cap] 33)) wr) (fun _ i _ => n - (intOf i).toNat)
  case atStart => exact ⟨0, rfl, by omega, by rw [List.take_zero, List.append_nil]; exact HP, hb9⟩
  case round =>
    clear c9
    obtain ⟨q, rfl, hq, HO, hb⟩ := hrel
    obtain ⟨-, -, -, -, -, -, -, -, -, c9⟩ := HB.out _ hb
    by_cases hlt : q < n
    · obtain ⟨ga, oa, x, rfl, hga, hca, hx, HX⟩ := (HVO.out.below (HBW.out _ hb)).at q hlt
      have HF : Hid (P ++ (opts.take q ++ [x]) = P ++ opts.take (q + 1)) := by unfold Hid; rw [take_snoc HX.out]
      go_wp2_with (at_builtin; refine wpList_append_bytes rfl _ _ rfl (w.heap.size + 1) _ _ rfl (HO.out.alloc _) _ [x] rfl (sees_one rfl x hx _) ?c1 ?c2 ?_)
      case c1 => have := HPL.out; have := HN.out; rw [List.length_append, List.length_take]; simp only [List.length_cons, List.length_nil]; omega
      case c2 => have := hb.size; simp at this ⊢; omega
      intro v' w2 ho hb2
      rw [HF.out] at ho
      have HO2 := hid ho
      have hb3 := (hb.alloc (by have := hb.size; simp at this ⊢; omega) _).trans hb2
      clear ho hb2 hca c9
      go_wp2_with fail
      go_roundw
      case rel => exact ⟨q + 1, by go_num, by omega, HO2, hb3⟩
      case measure => simp [intOf]; omega
    · have HE : Hid (P ++ opts.take q = P ++ opts) := by
        unfold Hid; rw [List.take_of_length_le (by have := HN.out; omega)]
      rw [HE.out] at HO
      go_wp2_with fail
      go_ret
      exact ⟨_, rfl, by rw [HPX.out]; exact HO.out.mono (by omega), HBW.out _ hb⟩
end Go.Proofs.YtcboenmmkaochabDoor.N

namespace Go.Proofs.YtcboenmmkaochabDoor.N.M

/-- How many bytes the first option of the rest of an area has, 0 if it is none. -/
def opt : List Nat → Nat
  | [] => 0
  | [x] => if x = 1 then 1 else 0
  | x :: y :: t => if x = 1 then 1 else if y < 2 ∨ t.length + 2 < y then 0 else y

/-- How many bytes are read at the head of the rest of an area; none: it is no area. -/
def nxt (r : List Nat) : Option Nat :=
  if r.head? = some 0 then (if r.all (· == 0) then some r.length else none) else if opt r = 0 then none else some (opt r)

theorem nxt_pos {r : List Nat} {k : Nat} (h : nxt r = some k) (hr : r ≠ []) : 0 < k := by
  unfold nxt at h
  split at h
  · split at h
    · simp at h; subst h; exact List.length_pos_iff.2 hr
    · cases h
  · split at h
    · cases h
    · simp at h; omega

theorem opt_le (r : List Nat) : opt r ≤ r.length := by
  match r with
  | [] => simp [opt]
  | [x] => simp only [opt]; split <;> simp
  | x :: y :: t => simp only [opt, List.length_cons]; split <;> (try split) <;> omega

theorem nxt_le {r : List Nat} {k : Nat} (h : nxt r = some k) : k ≤ r.length := by
  unfold nxt at h
  split at h
  · split at h
    · simp at h; omega
    · cases h
  · split at h
    · cases h
    · simp at h; have := opt_le r; omega

def okO (r : List Nat) : Bool :=
  if _hr : r = [] then true
  else match _h : nxt r with
    | none => false
    | some k => okO (r.drop k)
termination_by r.length
decreasing_by
  have h1 := nxt_pos _h _hr
  have h2 := List.length_pos_iff.2 _hr
  rw [List.length_drop]; omega

theorem okO_nil : okO [] = true := by rw [okO]; simp

theorem okO_none {r : List Nat} (hr : r ≠ []) (h : nxt r = none) : okO r = false := by
  rw [okO, dif_neg hr]
  split
  · rfl
  · rename_i k hk; rw [h] at hk; cases hk

theorem okO_some {r : List Nat} {k : Nat} (hr : r ≠ []) (h : nxt r = some k) : okO r = okO (r.drop k) := by
  rw [okO, dif_neg hr]
  split
  · rename_i hk; rw [h] at hk; cases hk
  · rename_i k' hk; rw [h] at hk; cases hk; rfl

def area (o : List Nat) : Bool := decide (o.length ≤ 40) && decide (o.length % 4 = 0) && okO o

/-- The place behind the option at i; -1: none may stand there. -/
def behI (o : List Nat) (i : Nat) : Int := match nxt (o.drop i) with
  | none => -1
  | some k => (i : Int) + (k : Int)

theorem behI_none {o : List Nat} {i : Nat} (h : nxt (o.drop i) = none) : behI o i = -1 := by unfold behI; rw [h]
theorem behI_some {o : List Nat} {i k : Nat} (h : nxt (o.drop i) = some k) : behI o i = (i : Int) + (k : Int) := by unfold behI; rw [h]

theorem nxt_one (t : List Nat) : nxt (1 :: t) = some 1 := by
  cases t <;> simp [nxt, opt]

theorem nxt_zero_ok {t : List Nat} (h : (0 :: t).all (· == 0) = true) : nxt (0 :: t) = some (0 :: t).length := by
  unfold nxt; rw [if_pos (by simp), if_pos h]

theorem nxt_zero_no {t : List Nat} (h : (0 :: t).all (· == 0) = false) : nxt (0 :: t) = none := by
  unfold nxt; rw [if_pos (by simp), if_neg (by rw [h]; simp)]

theorem nxt_last {x : Nat} (h0 : x ≠ 0) (h1 : x ≠ 1) : nxt [x] = none := by
  unfold nxt; rw [if_neg (by simp [h0])]; simp [opt, h1]

theorem nxt_bad {x y : Nat} {t : List Nat} (h0 : x ≠ 0) (h1 : x ≠ 1) (h : y < 2 ∨ t.length + 2 < y) : nxt (x :: y :: t) = none := by
  have e : opt (x :: y :: t) = 0 := by simp only [opt]; rw [if_neg h1, if_pos h]
  unfold nxt; rw [if_neg (by simp [h0]), if_pos e]

theorem nxt_good {x y : Nat} {t : List Nat} (h0 : x ≠ 0) (h1 : x ≠ 1) (h : ¬ (y < 2 ∨ t.length + 2 < y)) : nxt (x :: y :: t) = some y := by
  have e : opt (x :: y :: t) = y := by simp only [opt]; rw [if_neg h1, if_neg h]
  unfold nxt; rw [if_neg (by simp [h0]), if_neg (by rw [e]; omega), e]

def pieceOk (off : Int) (n : Nat) (more : Bool) : Bool :=
  decide (0 ≤ off) && decide (off ≤ 65528) && decide (off % 8 = 0) && decide (off + n ≤ 65535) && (!more || (decide (0 < n) && decide (n % 8 = 0)))

end Go.Proofs.YtcboenmmkaochabDoor.N.M

namespace Go.Proofs.YtcboenmmkaochabDoor.N
open Go.ChangeShapes Go.WideShapes Go.ChangeAt Go.RowKit
set_option maxHeartbeats 400000
set_option maxRecDepth 100000

theorem drop_at {L : List Nat} {i x : Nat} (h : L[i]? = some x) : L.drop i = x :: L.drop (i + 1) := by
  obtain ⟨hi, rfl⟩ := List.getElem?_eq_some_iff.1 h
  exact List.drop_eq_getElem_cons hi

set_option maxHeartbeats 4000000 in
theorem behind_any (v : Value) (i : Nat) (L : List Nat) (w : World) (hv : SeesB w v L) (hi : i < L.length) (hl : L.length ≤ 1099511627776) :
    Calls Tryd.prog 87 #[v, .int .i64 i] w fun e w' => e = .returned (.int .i64 (M.behI L i)) ∧ w' = w := by
  obtain ⟨ao, n, cap, rfl, HN, hn1, hn2⟩ := hv.shape
  have hin : i < n := by have := HN.out; omega
  have hnl : n ≤ 1099511627776 := by have := HN.out; omega
  unfold maxLen at hn2
  obtain ⟨g, off, x, rfl, hg, hc, hx, HX⟩ := hv.at i hin
  have HD := hid (drop_at HX.out)
  have HV := hid hv
  clear hv hi hl
  obtain ⟨R, hR⟩ : ∃ R, R = M.behI L i := ⟨_, rfl⟩
  have HR := hid hR
  rw [← hR]
  clear hR
  by_cases h1 : x = 1
  · have HE : Hid (R = (i : Int) + 1) := by
      unfold Hid; rw [HR.out]
      have h2 : M.nxt (L.drop i) = some 1 := by rw [HD.out, h1]; exact M.nxt_one _
      exact M.behI_some h2
    have hq : ((x : Int) == 1) = true := by simp [h1]
    clear h1 HR HD HX
    go_enter Tryd.func87, Tryd.ntmps87
    go_wp2_with fail
    go_ret
    exact ⟨ret_int (by rw [HE.out]), rfl⟩
  · have hq1 : ((x : Int) == 1) = false := by simp; omega
    by_cases h0 : x = 0
    · have hq0 : ((x : Int) == 0) = true := by simp [h0]
      have HXZ := hid h0
      clear h0 h1
      go_enter Tryd.func87, Tryd.ntmps87
      go_wp2_with fail
      go_loop [5] (fun j => ∃ k : Nat, j = .int .i64 k ∧ i ≤ k ∧ k ≤ n ∧ Hid (∀ m, i ≤ m → m < k → L[m]? = some 0)) (fun j => n - (intOf j).toNat)
      case atStart => exact ⟨i, rfl, by omega, by omega, fun m h1 h2 => absurd h1 (by omega)⟩
      case round =>
        obtain ⟨k, rfl, hk1, hk2, HZ⟩ := hrel
        by_cases hlt : k < n
        · obtain ⟨g', off', y, he, hg', hcy, hy, HY⟩ := HV.out.at k hlt
          simp at he
          obtain ⟨rfl, rfl⟩ := he
          by_cases hy0 : y = 0
          · have hq2 : ((y : Int) != 0) = false := by simp [hy0]
            have HZ2 : Hid (∀ m, i ≤ m → m < k + 1 → L[m]? = some 0) := fun m h1 h2 => by
              by_cases h3 : m < k
              · exact HZ.out m h1 h3
              · rw [show m = k by omega, HY.out, hy0]
            clear hy0
            go_wp2_with fail
            go_round
            case rel => exact ⟨k + 1, by go_num, by omega, by omega, HZ2⟩
            case measure => simp [intOf]; omega
          · have hq2 : ((y : Int) != 0) = true := by simp; omega
            have HE : Hid (R = -1) := by
              unfold Hid; rw [HR.out]
              refine M.behI_none ?_
              have hd : L.drop i = 0 :: L.drop (i + 1) := by rw [HD.out, HXZ.out]
              rw [hd]
              refine M.nxt_zero_no ?_
              rw [← hd, List.all_eq_false]
              refine ⟨y, List.mem_iff_getElem?.2 ⟨k - i, ?_⟩, by simpa using hy0⟩
              rw [List.getElem?_drop, show i + (k - i) = k by omega]; exact HY.out
            clear hy0
            go_wp2_with fail
            go_ret
            exact ⟨ret_int (by rw [HE.out]), rfl⟩
        · have HE : Hid (R = (n : Int)) := by
            unfold Hid; rw [HR.out]
            have h2 : M.nxt (L.drop i) = some (L.drop i).length := by
              have hd : L.drop i = 0 :: L.drop (i + 1) := by rw [HD.out, HXZ.out]
              rw [hd]
              refine M.nxt_zero_ok ?_
              rw [← hd, List.all_eq_true]
              intro z hz
              obtain ⟨m, hm⟩ := List.mem_iff_getElem?.1 hz
              rw [List.getElem?_drop] at hm
              have h3 : i + m < n := by have := (List.getElem?_eq_some_iff.1 hm).1; have := HN.out; omega
              have h4 := HZ.out (i + m) (by omega) (by omega)
              rw [h4] at hm; simp at hm; simp [← hm]
            rw [M.behI_some h2, List.length_drop]; have := HN.out; omega
          go_wp2_with fail
          go_ret
          exact ⟨ret_int (by rw [HE.out]), rfl⟩
    · have hq0 : ((x : Int) == 0) = false := by simp; omega
      by_cases hlast : n ≤ i + 1
      · have HE : Hid (R = -1) := by
          unfold Hid; rw [HR.out]
          refine M.behI_none ?_
          rw [HD.out, List.drop_eq_nil_of_le (by have := HN.out; omega)]
          exact M.nxt_last h0 h1
        clear h0 h1 HR HD HX
        go_enter Tryd.func87, Tryd.ntmps87
        go_wp2_with fail
        go_ret
        exact ⟨ret_int (by rw [HE.out]), rfl⟩
      · obtain ⟨g', off', y, he, hg', hcy, hy, HY⟩ := HV.out.at (i + 1) (by omega)
        simp at he
        obtain ⟨rfl, rfl⟩ := he
        have hcy' := hcy
        rw [← Nat.add_assoc] at hcy'
        have HD2 := hid (drop_at HY.out)
        have HLL : Hid ((L.drop (i + 1 + 1)).length + 2 = n - i) := by unfold Hid; rw [List.length_drop]; have := HN.out; omega
        by_cases hy2 : y < 2
        · have HE : Hid (R = -1) := by
            unfold Hid; rw [HR.out]
            refine M.behI_none ?_
            rw [HD.out, HD2.out]
            exact M.nxt_bad h0 h1 (.inl hy2)
          clear h0 h1 HR HD HX
          go_enter Tryd.func87, Tryd.ntmps87
          go_wp2_with fail
          go_ret
          exact ⟨ret_int (by rw [HE.out]), rfl⟩
        · by_cases hy3 : n < i + y
          · have HE : Hid (R = -1) := by
              unfold Hid; rw [HR.out]
              refine M.behI_none ?_
              rw [HD.out, HD2.out]
              exact M.nxt_bad h0 h1 (.inr (by have := HLL.out; omega))
            clear h0 h1 HR HD HX
            go_enter Tryd.func87, Tryd.ntmps87
            go_wp2_with fail
            go_ret
            exact ⟨ret_int (by rw [HE.out]), rfl⟩
          · have HE : Hid (R = (i : Int) + (y : Int)) := by
              unfold Hid; rw [HR.out]
              have h2 : M.nxt (L.drop i) = some y := by
                rw [HD.out, HD2.out]
                exact M.nxt_good h0 h1 (by have := HLL.out; omega)
              exact M.behI_some h2
            clear h0 h1 HR HD HX
            go_enter Tryd.func87, Tryd.ntmps87
            go_wp2_with fail
            go_ret
            exact ⟨ret_int (by rw [HE.out]), rfl⟩

def msr (n : Nat) (i : Int) : Nat := if i < 0 then 0 else n + 1 - i.toNat
theorem msr_neg {n : Nat} : msr n (-1) = 0 := rfl
theorem msr_pos {n : Nat} {i : Int} (h : 0 ≤ i) : msr n i = n + 1 - i.toNat := by unfold msr; rw [if_neg (by omega)]

theorem area_ref (v : Value) (L : List Nat) (w : World) (hv : SeesB w v L) :
    Calls Tryd.prog 70 #[v] w fun e w' => e = .returned (.bool (M.area L)) ∧ w' = w := by
  obtain ⟨ao, n, cap, rfl, HN, hn1, hn2⟩ := hv.shape
  unfold maxLen at hn2
  have HV := hid hv
  clear hv
  obtain ⟨R, hR⟩ : ∃ R, R = M.area L := ⟨_, rfl⟩
  have HR := hid hR
  rw [← hR]
  clear hR
  by_cases h40 : 40 < n
  · have HE : Hid (R = false) := by
      unfold Hid; rw [HR.out]; unfold M.area; have := HN.out; rw [decide_eq_false (by omega)]; rfl
    go_enter Tryd.func70, Tryd.ntmps70
    go_wp2_with fail
    go_ret
    exact ⟨ret_bool (by rw [HE.out]), rfl⟩
  · by_cases h4 : n % 4 = 0
    · have hq : ((n : Int) % 4 != 0) = false := by simp; omega
      have HA : Hid (R = M.okO L) := by
        unfold Hid; rw [HR.out]; unfold M.area; have := HN.out; rw [decide_eq_true (by omega), decide_eq_true (by omega)]; rfl
      clear h4 HR
      go_enter Tryd.func70, Tryd.ntmps70
      go_wp2_with fail
      go_loop [3] (fun j => (∃ k : Nat, j = .int .i64 k ∧ k ≤ n ∧ Hid (R = M.okO (L.drop k))) ∨ (j = .int .i64 (-1) ∧ Hid (R = false))) (fun j => msr n (intOf j))
      case atStart => exact .inl ⟨0, rfl, by omega, HA⟩
      case round =>
        rcases hrel with ⟨k, rfl, hk, HK⟩ | ⟨rfl, HF⟩
        · by_cases hlt : k < n
          · have HC := hid (behind_any _ k L w HV.out (by have := HN.out; omega) (by have := HN.out; omega))
            have hne : L.drop k ≠ [] := by intro h; have h2 := congrArg List.length h; rw [List.length_drop] at h2; simp at h2; have := HN.out; omega
            cases hnx : M.nxt (L.drop k) with
            | none =>
              rw [M.behI_none hnx] at HC
              have HF : Hid (R = false) := by unfold Hid; rw [HK.out]; exact M.okO_none hne hnx
              clear hnx hne
              go_wp2_with fail
              refine HC.out.mono ?_
              rintro _ _ ⟨rfl, rfl⟩
              go_wp2_with fail
              go_round
              case rel => exact .inr ⟨rfl, HF⟩
              case measure => (simp [intOf]; rw [msr_neg, msr_pos (by omega)]; omega)
            | some m =>
              rw [M.behI_some hnx] at HC
              have hm0 := M.nxt_pos hnx hne
              have hm1 : k + m ≤ n := by have h1 := M.nxt_le hnx; rw [List.length_drop] at h1; have := HN.out; omega
              have HF : Hid (R = M.okO (L.drop (k + m))) := by unfold Hid; rw [HK.out, M.okO_some hne hnx, List.drop_drop]
              clear hnx hne
              go_wp2_with fail
              refine HC.out.mono ?_
              rintro _ _ ⟨rfl, rfl⟩
              go_wp2_with fail
              go_round
              case rel => exact .inl ⟨k + m, by go_num, hm1, HF⟩
              case measure => (simp [intOf]; rw [msr_pos (by omega), msr_pos (by omega)]; omega)
          · have HE : Hid (R = true) := by
              unfold Hid; rw [HK.out, List.drop_eq_nil_of_le (by have := HN.out; omega)]; exact M.okO_nil
            go_wp2_with fail
            go_ret
            exact ⟨ret_bool (by rw [HE.out]), rfl⟩
        · go_wp2_with fail
          go_ret
          exact ⟨ret_bool (by rw [HF.out]), rfl⟩
    · have hq : ((n : Int) % 4 != 0) = true := by simp; omega
      have HE : Hid (R = false) := by
        unfold Hid; rw [HR.out]; unfold M.area; have := HN.out; rw [decide_eq_false (p := L.length % 4 = 0) (by omega)]; simp
      clear h4 HR
      go_enter Tryd.func70, Tryd.ntmps70
      go_wp2_with fail
      go_ret
      exact ⟨ret_bool (by rw [HE.out]), rfl⟩

theorem piece_ref (off : Int) (n : Nat) (more : Bool) (w : World) (ho : -9223372036854775808 ≤ off ∧ off ≤ 9223372036854775807) (hn : n ≤ 4611686018427387904) :
    Calls Tryd.prog 71 #[.int .i64 off, .int .i64 n, .bool more] w fun e w' => e = .returned (.bool (M.pieceOk off n more)) ∧ w' = w := by
  obtain ⟨R, hR⟩ : ∃ R, R = M.pieceOk off n more := ⟨_, rfl⟩
  have HR := hid hR
  rw [← hR]
  clear hR
  obtain ⟨ho1, ho2⟩ := ho
  by_cases h1 : off < 0
  · have HE : Hid (R = false) := by
      unfold Hid; rw [HR.out]; unfold M.pieceOk; rw [decide_eq_false (p := 0 ≤ off) (by omega)]; rfl
    go_enter Tryd.func71, Tryd.ntmps71
    go_wp2_with fail
    go_ret
    exact ⟨ret_bool (by rw [HE.out]), rfl⟩
  · by_cases h2 : 65528 < off
    · have HE : Hid (R = false) := by
        unfold Hid; rw [HR.out]; unfold M.pieceOk; rw [decide_eq_false (p := off ≤ 65528) (by omega)]; simp
      go_enter Tryd.func71, Tryd.ntmps71
      go_wp2_with fail
      go_ret
      exact ⟨ret_bool (by rw [HE.out]), rfl⟩
    · by_cases h3 : off % 8 = 0
      · have hq : (off % 8 != 0) = false := by simp [h3]
        by_cases h4 : 65535 < off + n
        · have HE : Hid (R = false) := by
            unfold Hid; rw [HR.out]; unfold M.pieceOk; rw [decide_eq_false (p := off + n ≤ 65535) (by omega)]; simp
          clear h3
          go_enter Tryd.func71, Tryd.ntmps71
          go_wp2_with fail
          go_ret
          exact ⟨ret_bool (by rw [HE.out]), rfl⟩
        · have HE : Hid (R = (!more || (decide (0 < n) && decide (n % 8 = 0)))) := by
            unfold Hid; rw [HR.out]; unfold M.pieceOk; rw [decide_eq_true (p := 0 ≤ off) (by omega), decide_eq_true (p := off ≤ 65528) (by omega), decide_eq_true h3, decide_eq_true (p := off + n ≤ 65535) (by omega)]; simp
          clear h3
          cases more with
          | false =>
            go_enter Tryd.func71, Tryd.ntmps71
            go_wp2_with fail
            go_ret
            exact ⟨ret_bool (by rw [HE.out]; rfl), rfl⟩
          | true =>
            by_cases h5 : 0 < n
            · by_cases h6 : n % 8 = 0
              · have hq2 : ((n : Int) % 8 == 0) = true := by simp; omega
                have HE2 : Hid (R = true) := by unfold Hid; rw [HE.out]; simp [h5, h6]
                clear h6
                go_enter Tryd.func71, Tryd.ntmps71
                go_wp2_with fail
                go_ret
                exact ⟨ret_bool (by rw [HE2.out]), rfl⟩
              · have hq2 : ((n : Int) % 8 == 0) = false := by simp; omega
                have HE2 : Hid (R = false) := by unfold Hid; rw [HE.out]; simp [h6]
                clear h6
                go_enter Tryd.func71, Tryd.ntmps71
                go_wp2_with fail
                go_ret
                exact ⟨ret_bool (by rw [HE2.out]), rfl⟩
            · obtain rfl : n = 0 := by omega
              have HE2 : Hid (R = false) := by unfold Hid; rw [HE.out]; simp
              go_enter Tryd.func71, Tryd.ntmps71
              go_wp2_with fail
              go_ret
              exact ⟨ret_bool (by rw [HE2.out]), rfl⟩
      · have hq : (off % 8 != 0) = true := by simp; omega
        have HE : Hid (R = false) := by
          unfold Hid; rw [HR.out]; unfold M.pieceOk; rw [decide_eq_false h3]; simp
        clear h3
        go_enter Tryd.func71, Tryd.ntmps71
        go_wp2_with fail
        go_ret
        exact ⟨ret_bool (by rw [HE.out]), rfl⟩
end Go.Proofs.YtcboenmmkaochabDoor.N

namespace Go.Proofs.YtcboenmmkaochabDoor.N
open Go.ChangeShapes Go.WideShapes Go.ChangeAt Go.RowKit
set_option maxHeartbeats 400000
set_option maxRecDepth 100000

def pkCells (h : Hd) (vo vb : Value) : Array Value := #[.int .u8 (h.tos : Int), .int .u16 (h.id : Int), .bool h.df, .bool h.mf, .int .i64 h.off, .int .u8 (h.ttl : Int), .int .u8 (h.proto : Int), .int .u32 (h.src : Int), .int .u32 (h.dst : Int), vo, vb]

def refE (h : Hd) (nb : Nat) : Int := if M.area h.opts then (if M.pieceOk h.off nb h.mf then (if 20 + h.opts.length + nb ≤ 65535 then 0 else 37) else 36) else 34

theorem pk_at {u : World} {n : Nat} {h : Hd} {vo vb : Value} {t : TypeId} (hb : u.heap[n]? = some (.cells (pkCells h vo vb) t)) (i : Nat) (hi : i < 11) : u.cell? ⟨n, i, none⟩ = some ((pkCells h vo vb)[i]'hi) := by
  rw [cell_of_row u _ _ _ _ _ hb, Array.getElem?_eq_getElem hi]

theorem und29 : ∃ fs, Tryd.prog.underlying 35 = some (.struct fs) := ⟨_, Tryd.underlying35⟩
theorem und27 : ∃ fs, Tryd.prog.underlying 33 = some (.struct fs) := ⟨_, Tryd.underlying33⟩

theorem pk_load {u : World} {n : Nat} {h : Hd} {vo vb : Value} {t : TypeId} (hb : u.heap[n]? = some (.cells (pkCells h vo vb) t)) : (Instr.loadAt 35 (.pointer (some ⟨n, 0, none⟩))).run Tryd.prog u = .ok (.agg (pkCells h vo vb)) u := by
  obtain ⟨fs, hu⟩ := und29
  refine run_loadAt_mid u n 0 35 (pkCells h vo vb).toList (.struct fs) (fun j v hv => ?_) hu rfl (by rw [show (Tryd.prog.info? 35).map (·.size) = some 11 from by kernel_rfl]; rfl)
  have hj : j < 11 := (List.getElem?_eq_some_iff.1 hv).1
  rw [Nat.zero_add, pk_at hb j hj]
  rw [List.getElem?_eq_getElem hj] at hv
  exact hv

theorem pk_loadH {u : World} {n : Nat} {h : Hd} {vo vb : Value} {t : TypeId} (hb : u.heap[n]? = some (.cells (pkCells h vo vb) t)) : (Instr.loadAt 33 (.pointer (some ⟨n, 0, none⟩))).run Tryd.prog u = .ok (.agg (hdCells h vo)) u := by
  obtain ⟨fs, hu⟩ := und27
  refine run_loadAt_mid u n 0 33 (hdCells h vo).toList (.struct fs) (fun j v hv => ?_) hu rfl (by rw [show (Tryd.prog.info? 33).map (·.size) = some 10 from by kernel_rfl]; rfl)
  have hj : j < 10 := (List.getElem?_eq_some_iff.1 hv).1
  rw [Nat.zero_add, pk_at hb j (by omega)]
  have e : ∀ j (hj : j < 10), (hdCells h vo).toList[j]? = some ((pkCells h vo vb)[j]'(Nat.lt_of_lt_of_le hj (show 10 ≤ 11 by decide))) := by
    intro j hj
    match j, hj with
    | 0, _ => rfl
    | 1, _ => rfl
    | 2, _ => rfl
    | 3, _ => rfl
    | 4, _ => rfl
    | 5, _ => rfl
    | 6, _ => rfl
    | 7, _ => rfl
    | 8, _ => rfl
    | 9, _ => rfl
  rw [e j hj] at hv
  exact hv

/-- The step that reads a struct whole, guarded or not. -/
theorem wpList_ld {ops : Array Oper} {Q : Exit → Act → World → Prop} {a : Act} {w : World} {rest : List Oper} {o : Oper} {v : Value} (T : TypeId) (p : Addr) (x : Operand) (ho : o.op = .load T x) (hx : a.eval x = .pointer (some p))
    (hr : (Instr.loadAt T (.pointer (some p))).run Tryd.prog w = .ok v w) (hw : Region.wanted o (yielded ops a.tmps) = true) (h : wpList Tryd.prog ops Q rest (a.put o.dst v) w) : wpList Tryd.prog ops Q (o :: rest) a w := by
  refine wpList_step fun K hK => ?_
  rw [if_pos hw]
  unfold Oper.wp execOp
  simp only [ho, hx, Sem.run_bind, hr, Result.andThen_ok, Sem.run_pure]
  exact hK _ _ h

set_option maxHeartbeats 4000000 in
theorem refused_any (h : Hd) (vo vb : Value) (B : List Nat) (w : World) (hok : h.Ok) (hvo : SeesB w vo h.opts) (hvb : SeesB w vb B) (hB : B.length ≤ 4611686018427387904) :
    Calls Tryd.prog 52 #[.agg (pkCells h vo vb)] w fun e w' => e = .returned (.int .i64 (refE h B.length)) ∧ Below w.heap.size w w' := by
  have hb1 : Below w.heap.size w (w.alloc (.cells (pkCells h vo vb) 35)) := (Below.refl _ _).alloc (Nat.le_refl _) _
  have HA := hid (area_ref vo h.opts _ (hvo.below hb1))
  have HP := hid (piece_ref h.off B.length h.mf (w.alloc (.cells (pkCells h vo vb) 35)) hok.off hB)
  obtain ⟨ao, n, cap, rfl, HN, hn1, hn2⟩ := hvo.shape
  obtain ⟨ab, nb, capb, rfl, HNB, hnb1, hnb2⟩ := hvb.shape
  unfold maxLen at hn2 hnb2
  have hBn : nb ≤ 4611686018427387904 := by have := HNB.out; omega
  rw [← HNB.out] at HP ⊢
  obtain ⟨R, hR⟩ : ∃ R, R = refE h nb := ⟨_, rfl⟩
  have HR := hid hR
  rw [← hR]
  clear hR hvo hvb hok hB
  have HAL : Hid (M.area h.opts = true → n ≤ 40) := fun h1 => by
    unfold M.area at h1; simp at h1; have := HN.out; omega
  unfold refE at HR
  rw [← HN.out] at HR
  generalize M.area h.opts = a at *
  generalize M.pieceOk h.off nb h.mf = b at *
  obtain ⟨tos, id, df, mf, off, ttl, proto, src, dst, opts⟩ := h
  unfold pkCells at *
  simp only at *
  have HB1 := hid hb1
  clear hb1
  cases a with
  | false =>
    have HE : Hid (R = 34) := by unfold Hid; rw [HR.out]; rfl
    go_enter Tryd.func52, Tryd.ntmps52
    go_wp2_with fail
    refine HA.out.mono ?_
    rintro _ _ ⟨rfl, rfl⟩
    go_wp2_with fail
    go_ret
    exact ⟨ret_int (by rw [HE.out]), HB1.out⟩
  | true =>
    have hn40 := HAL.out rfl
    cases b with
    | false =>
      have HE : Hid (R = 36) := by unfold Hid; rw [HR.out]; rfl
      go_enter Tryd.func52, Tryd.ntmps52
      go_wp2_with fail
      refine HA.out.mono ?_
      rintro _ _ ⟨rfl, rfl⟩
      go_wp2_with fail
      refine HP.out.mono ?_
      rintro _ _ ⟨rfl, rfl⟩
      go_wp2_with fail
      go_ret
      exact ⟨ret_int (by rw [HE.out]), HB1.out⟩
    | true =>
      by_cases hbig : 20 + n + nb ≤ 65535
      · have HE : Hid (R = 0) := by unfold Hid; rw [HR.out, if_pos rfl, if_pos rfl, if_pos hbig]
        go_enter Tryd.func52, Tryd.ntmps52
        go_wp2_with fail
        refine HA.out.mono ?_
        rintro _ _ ⟨rfl, rfl⟩
        go_wp2_with fail
        refine HP.out.mono ?_
        rintro _ _ ⟨rfl, rfl⟩
        go_wp2_with fail
        go_ret
        exact ⟨ret_int (by rw [HE.out]), HB1.out⟩
      · have HE : Hid (R = 37) := by unfold Hid; rw [HR.out, if_pos rfl, if_pos rfl, if_neg hbig]
        go_enter Tryd.func52, Tryd.ntmps52
        go_wp2_with fail
        refine HA.out.mono ?_
        rintro _ _ ⟨rfl, rfl⟩
        go_wp2_with fail
        refine HP.out.mono ?_
        rintro _ _ ⟨rfl, rfl⟩
        go_wp2_with fail
        go_ret
        exact ⟨ret_int (by rw [HE.out]), HB1.out⟩
end Go.Proofs.YtcboenmmkaochabDoor.N

namespace Go.Proofs.YtcboenmmkaochabDoor.N
open Go.ChangeShapes Go.WideShapes Go.ChangeAt Go.RowKit
set_option maxHeartbeats 400000
set_option maxRecDepth 100000

def lenOfPk (h : Hd) (B : List Nat) : Nat := 20 + h.opts.length + B.length

def builtL (h : Hd) (B : List Nat) : List Nat := if refE h B.length = 0 then hdBytes h (lenOfPk h B) (M.csum (hdBytes h (lenOfPk h B) 0)) ++ B else []

theorem refE_ok {h : Hd} {nb : Nat} (e : refE h nb = 0) : M.area h.opts = true ∧ M.pieceOk h.off nb h.mf = true ∧ 20 + h.opts.length + nb ≤ 65535 := by
  unfold refE at e
  split at e
  · rename_i h1
    split at e
    · rename_i h2
      split at e
      · rename_i h3; exact ⟨h1, h2, h3⟩
      · cases e
    · cases e
  · cases e

theorem area_len {o : List Nat} (h : M.area o = true) : o.length ≤ 40 ∧ o.length % 4 = 0 := by
  unfold M.area at h; simp at h; exact h.1

theorem piece_off {off : Int} {n : Nat} {m : Bool} (h : M.pieceOk off n m = true) : ∃ f : Nat, off = (f : Int) ∧ f ≤ 65528 ∧ f % 8 = 0 := by
  unfold M.pieceOk at h; simp at h
  exact ⟨off.toNat, by omega, by omega, by omega⟩

theorem hdBytes_ok {h : Hd} (hok : h.Ok) (ho : ∀ x ∈ h.opts, x < 256) (hl : h.opts.length ≤ 40) {f : Nat} (hf : h.off = (f : Int)) (hf1 : f ≤ 65528) {len sum : Nat} (h1 : len < 65536) (h2 : sum < 65536) : ∀ x ∈ hdBytes h len sum, x < 256 := by
  obtain ⟨k1, k2, k3, k4, k5, k6, k7⟩ := hok
  have hW : flagW h.df h.mf h.off.toNat < 65536 := by rw [hf, Int.toNat_natCast]; unfold flagW; split <;> split <;> omega
  generalize hw : flagW h.df h.mf h.off.toNat = W at *
  intro x hx
  unfold hdBytes at hx
  rw [hw, List.mem_append] at hx
  rcases hx with hx | hx
  · simp only [List.mem_cons, List.not_mem_nil, or_false] at hx
    rcases hx with rfl | rfl | rfl | rfl | rfl | rfl | rfl | rfl | rfl | rfl | rfl | rfl | rfl | rfl | rfl | rfl | rfl | rfl | rfl | rfl <;> omega
  · exact ho x hx

theorem hdBytes_len (h : Hd) (len sum : Nat) : (hdBytes h len sum).length = 20 + h.opts.length := by
  unfold hdBytes; rw [List.length_append]; rfl

theorem seesBB_one {w : World} {n : Nat} (hn : w.heap.size = n) (v : Value) (L : List Nat) (hv : SeesB w v L) (t : TypeId) : SeesBB (w.alloc (.cells #[v] t)) (.slice (some ⟨n, 0, none⟩) 1 1) [L] := by
  subst hn
  refine ⟨some ⟨w.heap.size, 0, none⟩, 1, rfl, by simp, by unfold maxLen; omega, fun j hj => ⟨w.heap.size, 0, v, rfl, by simp, ?_, ?_⟩⟩
  · match j, hj with
    | 0, _ => simp
  · match j, hj with
    | 0, _ => exact hv.below ((Below.refl _ _).alloc (Nat.le_refl _) _)

theorem ret_two {a b : Value} {k : IntKind} {i j : Int} (h : i = j) (g : a = b) : Ending.returned (.tuple #[a, .int k i]) = .returned (.tuple #[b, .int k j]) := by rw [h, g]

set_option maxHeartbeats 1000000 in
theorem build_ref (h : Hd) (vo vb : Value) (B : List Nat) (w : World) (hok : h.Ok) (hvo : SeesB w vo h.opts) (hvb : SeesB w vb B) (hB : B.length ≤ 4611686018427387904) :
    Calls Tryd.prog 30 #[.agg (pkCells h vo vb)] w fun e w' => ∃ v', e = .returned (.tuple #[v', .int .i64 (refE h B.length)]) ∧ OwnB w' w.heap.size v' (builtL h B) ∧ Below w.heap.size w w' := by
  have hb1 : Below w.heap.size w (w.alloc (.cells (pkCells h vo vb) 35)) := (Below.refl _ _).alloc (Nat.le_refl _) _
  have HRF := hid (refused_any h vo vb B _ hok (hvo.below hb1) (hvb.below hb1) hB)
  have HBK : Hid (∀ u, Below (w.alloc (.cells (pkCells h vo vb) 35)).heap.size (w.alloc (.cells (pkCells h vo vb) 35)) u → u.heap[w.heap.size]? = some (.cells (pkCells h vo vb) 35)) := fun u hu => by
    rw [hu.block w.heap.size (by simp)]
    exact heap_alloc_new w _
  obtain ⟨R, hR⟩ : ∃ R, R = refE h B.length := ⟨_, rfl⟩
  have HR := hid hR
  rw [← hR] at HRF ⊢
  obtain ⟨LL, hLL⟩ : ∃ LL, LL = builtL h B := ⟨_, rfl⟩
  have HLL := hid hLL
  rw [← hLL]
  clear hR hLL
  obtain ⟨ao, n, cap, rfl, HN, hn1, hn2⟩ := hvo.shape
  obtain ⟨ab, nb, capb, rfl, HNB, hnb1, hnb2⟩ := hvb.shape
  unfold maxLen at hn2 hnb2
  have HVO := hid hvo
  have HVB := hid hvb
  have HB1 := hid hb1
  clear hvo hvb hb1 hB
  have HPK : Hid (pkCells h (.slice ao n cap) (.slice ab nb capb) = pkCells h (.slice ao n cap) (.slice ab nb capb)) := rfl
  by_cases hz : R = 0
  · obtain ⟨hA, hP, hL⟩ := refE_ok (HR.out ▸ hz : refE h B.length = 0)
    have hol := (area_len hA).1
    obtain ⟨f, hf, hf1, _⟩ := piece_off hP
    rw [← HN.out, ← HNB.out] at hL
    have hn40 : n ≤ 40 := by have := HN.out; omega
    have HLE : Hid (LL = hdBytes h (20 + n + nb) (M.csum (hdBytes h (20 + n + nb) 0)) ++ B) := by
      unfold Hid; rw [HLL.out]; unfold builtL; rw [if_pos (HR.out ▸ hz : refE h B.length = 0)]; unfold lenOfPk; rw [HN.out, HNB.out]
    have HH : Hid (∀ u, SeesB u (.slice ao n cap) h.opts → ∀ i s, i = ((20 + n + nb : Nat) : Int) → s < 65536 → Calls Tryd.prog 53 #[.agg (hdCells h (.slice ao n cap)), .int .i64 i, .int .u16 ((s : Nat) : Int)] u fun e w' => ∃ v', e = .returned v' ∧ OwnB w' u.heap.size v' (hdBytes h (20 + n + nb) s) ∧ Below u.heap.size u w') :=
      fun u hu i s hi hs => header_any h _ i (20 + n + nb) s f u hok hi (by omega) hs hf hf1 hu hol
    have HOK : Hid (∀ s, s < 65536 → ∀ x ∈ hdBytes h (20 + n + nb) s, x < 256) := fun s hs => hdBytes_ok hok HVO.out.bytes hol hf hf1 (by omega) hs
    have HLN : Hid (∀ s, (hdBytes h (20 + n + nb) s).length = 20 + n) := fun s => by rw [hdBytes_len, HN.out]
    have HCS := M.csum_lt (hdBytes h (20 + n + nb) 0)
    clear hA hP hf hok HLL hol
    have HZ := hid hz
    clear hz
    rw [HZ.out] at HRF ⊢
    have HLD := hid (pk_load (HBK.out _ (Below.refl _ _)))
    go_enter Tryd.func30, Tryd.ntmps30
    go_wp2_with (first | (refine wpList_ld 35 ⟨w.heap.size, 0, none⟩ (.tmp 1) rfl rfl HLD.out rfl ?_) | fail)
    refine HRF.out.mono ?_
    rintro _ w2 ⟨rfl, hb2⟩
    have hk2 := HBK.out _ hb2
    have c9 : w2.cell? ⟨w.heap.size, 9, none⟩ = some (.slice ao n cap) := pk_at hk2 9 (by omega)
    have c10 : w2.cell? ⟨w.heap.size, 10, none⟩ = some (.slice ab nb capb) := pk_at hk2 10 (by omega)
    have HBW : Hid (∀ u, Below (w.alloc (.cells (pkCells h (.slice ao n cap) (.slice ab nb capb)) 35)).heap.size (w.alloc (.cells (pkCells h (.slice ao n cap) (.slice ab nb capb)) 35)) u → Below w.heap.size w u) := fun u hu => HB1.out.trans (hu.mono HB1.out.size)
    have HL2 := hid (pk_loadH hk2)
    clear hk2 HRF HLD
    go_wp2_with (first | (refine wpList_ld 33 ⟨w.heap.size, 0, none⟩ (.tmp 24) rfl rfl HL2.out rfl ?_) | fail)
    refine (HH.out w2 (HVO.out.below (HBW.out _ hb2)) _ 0 (by omega) (by omega)).mono ?_
    rintro _ w3 ⟨v3, rfl, hO3, hb3⟩
    have hs3 := hO3.sees (HOK.out 0 (by omega))
    have hb3' := hb2.trans (hb3.mono hb2.size)
    have HS3 := sum_ref _ _ _ (seesBB_one rfl _ _ hs3 26) (by simp [HLN.out]; omega)
    rw [show [hdBytes h (20 + n + nb) 0].flatten = hdBytes h (20 + n + nb) 0 by simp] at HS3
    obtain ⟨a3, n3, cap3, rfl, _, _, _⟩ := hs3.shape
    have HS3 := hid HS3
    generalize M.csum (hdBytes h (20 + n + nb) 0) = s at *
    clear hs3 hO3 HL2 c9 c10 hb2 hb3
    go_wp2_with fail
    refine HS3.out.mono ?_
    rintro _ w4 ⟨rfl, hb4⟩
    have hb4' := (hb3'.alloc hb3'.size (.cells #[.slice a3 n3 cap3] 26)).trans (hb4.mono (by have := hb3'.size; simp at this ⊢; omega))
    clear HS3 hb4 hb3'
    have hk4 := HBK.out _ hb4'
    have HL4 := hid (pk_loadH hk4)
    go_wp2_with (first | (refine wpList_ld 33 ⟨w.heap.size, 0, none⟩ (.tmp 31) rfl rfl HL4.out rfl ?_) | fail)
    refine (HH.out w4 (HVO.out.below (HBW.out _ hb4')) _ s (by omega) HCS).mono ?_
    rintro _ w5 ⟨v5, rfl, hO5, hb5⟩
    have HO5 := hid hO5
    have hsz := hb4'.size
    have HB4 := hid hb4'
    have HP1 := hid hsz
    clear hk4 HL4 hO5 hb4' hsz
    have HLX := hid (HLN.out s)
    generalize hdBytes h (20 + n + nb) s = X at *
    go_wp2_with fail
    go_loopw [8, 9] (fun t i wr => ∃ q : Nat, i = .int .i64 q ∧ q ≤ nb ∧ Hid (OwnB wr w4.heap.size t (X ++ B.take q)) ∧ Below w4.heap.size w4 wr) (fun _ i _ => nb - (intOf i).toNat)
    case atStart => exact ⟨0, rfl, by omega, by rw [List.take_zero, List.append_nil]; exact HO5, hb5⟩
    case round =>
      obtain ⟨q, rfl, hq, HO, hb⟩ := hrel
      have hbx := HB4.out.trans (hb.mono HB4.out.size)
      have c10 := (show _ = some (Value.slice ab nb capb) from pk_at (HBK.out _ hbx) 10 (by omega))
      by_cases hlt : q < nb
      · obtain ⟨ga, oa, x, rfl, hga, hca, hx, HX⟩ := (HVB.out.below (HBW.out _ hbx)).at q hlt
        have HF : Hid (X ++ (B.take q ++ [x]) = X ++ B.take (q + 1)) := by unfold Hid; rw [take_snoc HX.out]
        clear hbx
        go_wp2_with (at_builtin; refine wpList_append_bytes rfl _ _ rfl w4.heap.size _ _ rfl (HO.out.alloc _) _ [x] rfl (sees_one rfl x hx _) ?c1 ?c2 ?_)
        case c1 => have := HLX.out; have := HNB.out; rw [List.length_append, List.length_take]; simp only [List.length_cons, List.length_nil]; omega
        case c2 => have := hb.size; simp; omega
        intro v' w6 ho hb6
        rw [HF.out] at ho
        have HO6 := hid ho
        have hb7 := (hb.alloc hb.size _).trans hb6
        clear ho hb6 hca c10
        go_wp2_with fail
        go_roundw
        case rel => exact ⟨q + 1, by go_num, by omega, HO6, hb7⟩
        case measure => simp [intOf]; omega
      · have HE : Hid (X ++ B.take q = LL) := by
          unfold Hid; rw [HLE.out, List.take_of_length_le (by have := HNB.out; omega)]
        rw [HE.out] at HO
        have HBX := hid (HBW.out _ hbx)
        clear hbx
        go_wp2_with fail
        go_ret2
        exact ⟨_, rfl, HO.out.mono (by have := HP1.out; simp at this; omega), HBX.out⟩
  · have HE : Hid (LL = []) := by unfold Hid; rw [HLL.out]; unfold builtL; rw [if_neg (by rw [← HR.out]; exact hz)]
    have hq : (R != 0) = true := by simp [hz]
    clear hz
    have HLD := hid (pk_load (HBK.out _ (Below.refl _ _)))
    go_enter Tryd.func30, Tryd.ntmps30
    go_wp2_with (first | (refine wpList_ld 35 ⟨w.heap.size, 0, none⟩ (.tmp 1) rfl rfl HLD.out rfl ?_) | fail)
    refine HRF.out.mono ?_
    rintro _ w2 ⟨rfl, hb2⟩
    go_wp2_with fail
    go_ret2
    exact ⟨.slice none 0 0, rfl, by rw [HE.out]; exact ownB_nil _ _, HB1.out.trans (hb2.mono HB1.out.size)⟩
end Go.Proofs.YtcboenmmkaochabDoor.N

namespace Go.Proofs.YtcboenmmkaochabDoor.N
open Go.ChangeShapes Go.WideShapes Go.ChangeAt Go.RowKit
set_option maxHeartbeats 400000
set_option maxRecDepth 100000

def Z58 : Array Value := #[.int .i64 0, .slice none 0 0, .slice none 0 0, .int .u16 0, .int .u16 0, .int .u16 0, .int .u8 0, .int .u16 0, .bool false, .bool false, .int .i64 0, .int .u8 0, .int .u8 0, .int .u32 0, .int .u32 0, .slice none 0 0, .slice none 0 0]

theorem below_setCells {B b : Nat} {a : World} (hb : B ≤ b) : ∀ (vs : List Value) (o : Nat) (w : World), Below B a w → Below B a (w.setCells b o vs)
  | [], _, _, h => h
  | v :: vs, o, w, h => by
    rw [World.setCells]
    exact below_setCells hb vs (o + 1) _ (h.setCell (p := ⟨b, o, none⟩) hb v)

theorem range_below {w w' : World} {b o : Nat} {cs : List Value} (h : w.rangeAt b o cs) (hb : Below w.heap.size w w') : w'.rangeAt b o cs := fun j v hv => by
  have := h j v hv
  exact (hb.cell (p := ⟨b, o + j, none⟩) (World.block_lt_of_cell? w _ this)).trans this

/-- The cells of a step, and its kind. -/
structure StepIs (cs : List Value) (k : Int) : Prop where
  len : cs.length = 17
  kind : cs[0]? = some (.int .i64 k)
  one : ∀ v ∈ cs, v.oneCell' = true
  lo : -9223372036854775808 ≤ k
  hi : k ≤ 9223372036854775807

/-- The slice value v shows the steps L. -/
def SeesO (w : World) (v : Value) (L : List (List Value × Int)) : Prop :=
  ∃ ao cap, v = .slice ao L.length cap ∧ L.length ≤ cap ∧ cap ≤ maxLen ∧
    ∀ j (h : j < L.length), StepIs L[j].1 L[j].2 ∧ ∃ g off, ao = some ⟨g, off, none⟩ ∧ g < w.heap.size ∧ w.rangeAt g (off + j * 17) L[j].1

end Go.Proofs.YtcboenmmkaochabDoor.N

namespace Go.Proofs.YtcboenmmkaochabDoor.N
open Go.ChangeShapes Go.WideShapes Go.ChangeAt Go.RowKit
set_option maxHeartbeats 400000
set_option maxRecDepth 100000

def opL (k : Int) (vy vp : Value) (x y z : Nat) (h : Hd) (vo vb : Value) : List Value :=
  [.int .i64 k, vy, vp, .int .u16 (x : Int), .int .u16 (y : Int), .int .u16 (z : Int), .int .u8 (h.tos : Int), .int .u16 (h.id : Int), .bool h.df, .bool h.mf, .int .i64 h.off, .int .u8 (h.ttl : Int), .int .u8 (h.proto : Int), .int .u32 (h.src : Int), .int .u32 (h.dst : Int), vo, vb]

theorem blk_at {u : World} {n : Nat} {cs : List Value} {t : TypeId} (hb : u.heap[n]? = some (.cells cs.toArray t)) : u.rangeAt n 0 cs := fun j v hv => by
  rw [Nat.zero_add, cell_of_row u _ _ _ _ _ hb]; simpa using hv

theorem blk_new (w : World) (cs : List Value) (t : TypeId) : (w.alloc (.cells cs.toArray t)).heap[w.heap.size]? = some (.cells cs.toArray t) := heap_alloc_new w _

end Go.Proofs.YtcboenmmkaochabDoor.N

namespace Go.Proofs.YtcboenmmkaochabDoor.N
open Go.ChangeShapes Go.WideShapes Go.ChangeAt Go.RowKit
set_option maxRecDepth 100000

theorem cell1_5 : Tryd.prog.cellsOf 5 = 1 := by kernel_rfl
theorem cell1_22 : Tryd.prog.cellsOf 30 = 1 := by kernel_rfl
theorem cell1_3 : Tryd.prog.cellsOf 3 = 1 := by kernel_rfl
theorem cell1_4 : Tryd.prog.cellsOf 4 = 1 := by kernel_rfl
theorem cell1_24 : Tryd.prog.cellsOf 31 = 1 := by kernel_rfl
theorem cell1_25 : Tryd.prog.cellsOf 26 = 1 := by kernel_rfl
theorem cell1_56 : Tryd.prog.cellsOf 72 = 1 := by kernel_rfl
theorem cells27 : Tryd.prog.cellsOf 33 = 10 := by kernel_rfl
theorem cells29 : Tryd.prog.cellsOf 35 = 11 := by kernel_rfl
theorem bytes5 : Tryd.prog.bytesOf 5 = 1 := by kernel_rfl
theorem u56 : Tryd.prog.underlying 72 = some (.slice 26) := by kernel_rfl
theorem u25 : Tryd.prog.underlying 26 = some (.slice 5) := by kernel_rfl
theorem u5 : Tryd.prog.underlying 5 = some (.int .u8) := by kernel_rfl
theorem u22 : Tryd.prog.underlying 30 = some (.int .u16) := by kernel_rfl
theorem u24 : Tryd.prog.underlying 31 = some (.int .u32) := by kernel_rfl
theorem u3 : Tryd.prog.underlying 3 = some (.int .i64) := by kernel_rfl
theorem u4 : Tryd.prog.underlying 4 = some .bool := by kernel_rfl
theorem u29 : ∃ f0 f1, Tryd.prog.underlying 35 = some (.struct #[f0, f1]) ∧ f0.type = 33 ∧ f0.offset = 0 ∧ f1.type = 26 ∧ f1.offset = 10 := ⟨_, _, Tryd.underlying35, rfl, rfl, rfl, rfl⟩
theorem u27 : ∃ f0 f1 f2 f3 f4 f5 f6 f7 f8 f9, Tryd.prog.underlying 33 = some (.struct #[f0, f1, f2, f3, f4, f5, f6, f7, f8, f9]) ∧ f0.type = 5 ∧ f0.offset = 0 ∧ f1.type = 30 ∧ f1.offset = 1 ∧ f2.type = 4 ∧ f2.offset = 2 ∧ f3.type = 4 ∧ f3.offset = 3 ∧ f4.type = 3 ∧ f4.offset = 4 ∧ f5.type = 5 ∧ f5.offset = 5 ∧ f6.type = 5 ∧ f6.offset = 6 ∧ f7.type = 31 ∧ f7.offset = 7 ∧ f8.type = 31 ∧ f8.offset = 8 ∧ f9.type = 26 ∧ f9.offset = 9 :=
  ⟨_, _, _, _, _, _, _, _, _, _, Tryd.underlying33, rfl, rfl, rfl, rfl, rfl, rfl, rfl, rfl, rfl, rfl, rfl, rfl, rfl, rfl, rfl, rfl, rfl, rfl, rfl, rfl⟩
theorem wf_u8 {a : Int} (h : (Lit.int .u8 a).wf = true) : ∃ n : Nat, a = (n : Int) ∧ n < 256 := by
  have h' : (decide (IntKind.u8.min ≤ a) && decide (a ≤ IntKind.u8.max)) = true := h
  rw [show IntKind.u8.min = 0 from by decide +kernel, show IntKind.u8.max = 255 from by decide +kernel] at h'
  simp at h'
  exact ⟨a.toNat, by omega, by omega⟩
theorem wf_u16 {a : Int} (h : (Lit.int .u16 a).wf = true) : ∃ n : Nat, a = (n : Int) ∧ n < 65536 := by
  have h' : (decide (IntKind.u16.min ≤ a) && decide (a ≤ IntKind.u16.max)) = true := h
  rw [show IntKind.u16.min = 0 from by decide +kernel, show IntKind.u16.max = 65535 from by decide +kernel] at h'
  simp at h'
  exact ⟨a.toNat, by omega, by omega⟩
theorem wf_u32 {a : Int} (h : (Lit.int .u32 a).wf = true) : ∃ n : Nat, a = (n : Int) ∧ n < 4294967296 := by
  have h' : (decide (IntKind.u32.min ≤ a) && decide (a ≤ IntKind.u32.max)) = true := h
  rw [show IntKind.u32.min = 0 from by decide +kernel, show IntKind.u32.max = 4294967295 from by decide +kernel] at h'
  simp at h'
  exact ⟨a.toNat, by omega, by omega⟩
theorem wf_i64 {a : Int} (h : (Lit.int .i64 a).wf = true) : -9223372036854775808 ≤ a ∧ a ≤ 9223372036854775807 := by
  have h' : (decide (IntKind.i64.min ≤ a) && decide (a ≤ IntKind.i64.max)) = true := h
  rw [show IntKind.i64.min = -9223372036854775808 from by decide +kernel, show IntKind.i64.max = 9223372036854775807 from by decide +kernel] at h'
  simpa using h'

theorem spot_none {W : World} {a : Addr} {v : Value} (z0 : W.cell? a = some v) : ∃ g off, a = ⟨g, off, none⟩ ∧ g < W.heap.size := by
  have hlt := World.block_lt_of_cell? W a z0
  obtain ⟨g, off, sp⟩ := a
  cases sp with
  | none => exact ⟨g, off, rfl, hlt⟩
  | some s =>
    exfalso
    simp only [World.cell?] at z0
    split at z0 <;> simp at z0

theorem bulk_one {H : Type} (d : DataW H) : 1 ≤ Rows.uptoBulk d := by
  cases d with
  | lit l => cases l <;> simp [Rows.uptoBulk]
  | nil => simp [Rows.uptoBulk]
  | ptr d => simp [Rows.uptoBulk]
  | slice elems spare => simp [Rows.uptoBulk]
  | agg parts => simp [Rows.uptoBulk]
  | iface t d => simp [Rows.uptoBulk]
  | map entries => simp [Rows.uptoBulk]
  | held h => simp [Rows.uptoBulk]

theorem bulk_part {H : Type} {d : DataW H} {l : List (DataW H)} (h : d ∈ l) : Rows.uptoBulk d ≤ Rows.uptoBulkAll l := by
  induction l with
  | nil => cases h
  | cons x r ih =>
    simp only [Rows.uptoBulkAll]
    rcases List.mem_cons.1 h with rfl | h
    · omega
    · have := ih h; omega

theorem bulk_len {H : Type} (l : List (DataW H)) : l.length ≤ Rows.uptoBulkAll l := by
  induction l with
  | nil => simp
  | cons x r ih => have := bulk_one x; simp only [Rows.uptoBulkAll, List.length_cons]; omega

theorem bulk_flat {H : Type} (D : Nat → DataW H) (F : Nat → List Nat) (l : List Nat) (h : ∀ i ∈ l, (F i).length ≤ Rows.uptoBulk (D i)) : (l.map F).flatten.length ≤ Rows.uptoBulkAll (l.map D) := by
  induction l with
  | nil => simp
  | cons x r ih =>
    have h1 := h x List.mem_cons_self
    have h2 := ih (fun i hi => h i (List.mem_cons_of_mem _ hi))
    simp only [List.map_cons, List.flatten_cons, List.length_append, Rows.uptoBulkAll]
    omega

theorem weights_all {H : Type} {P : Program} {e : TypeId} : ∀ {ds : List (DataW H)} {d : DataW H}, d ∈ ds → ∀ n ∈ d.weights P e, n ∈ DataW.weightsAll P e ds
  | a :: t, d, hd, n, hn => by
    simp only [DataW.weightsAll, List.mem_append]
    rcases List.mem_cons.1 hd with rfl | h
    · exact .inl hn
    · exact .inr (weights_all h n hn)

section
variable {H : Type} {enc : TypeId × Value → H} {W : World}

/-- How long a list is, against what was read of it. -/
structure Fits (x : DataW H) (t : TypeId) (n : Nat) : Prop where
  bulk : n ≤ Rows.uptoBulk x
  room : (∀ k ∈ x.weights Tryd.prog t, k ≤ reachBytes) → n ≤ reachBytes

/-- A list of bytes that came in, within another thing. -/
theorem open_bytes {fuel : Nat} {cs : List Value} {x : DataW H × List MemPlace} (hf : DataW.trod enc Tryd.prog W 0 (fun _ => true) true fuel 26 cs = some x) :
    ∃ v L, cs = [v] ∧ SeesB W v L ∧ Fits x.1 26 L.length ∧ v.oneCell' = true := by
  rcases Go.Deep.open_slice u25 hf with ⟨h1, hx⟩ | ⟨a, len, cap, m, n, D, Pl, h1, _, hlc, hcm, hm, hxx, hx⟩
  · subst hx
    exact ⟨_, [], h1, sees_nil W, ⟨by simp, fun _ => by simp⟩, rfl⟩
  · simp at hm
    subst hm
    have key : ∀ i, i < len → ∃ y : Nat, y < 256 ∧ W.cell? (a.add i) = some (.int .u8 (y : Int)) := by
      intro i hi
      obtain ⟨cs', k1, k2⟩ := hx i (by omega)
      rw [cell1_5, Nat.mul_one] at k1
      obtain ⟨_, _, hc⟩ := World.cells?_some k1
      obtain ⟨z, e1, _, wf⟩ := DataW.trod_int u5 k2
      obtain ⟨y, rfl, hy⟩ := wf_u8 wf
      refine ⟨y, hy, ?_⟩
      have := hc 0 (by omega)
      rw [e1] at this
      simpa [Addr.add] using this
    have hch : ∃ F : Nat → Nat, ∀ i, i < len → F i < 256 ∧ W.cell? (a.add i) = some (.int .u8 ((F i : Nat) : Int)) := by
      refine ⟨fun i => if h : i < len then (key i h).choose else 0, fun i hi => ?_⟩
      simp only [dif_pos hi]
      exact (key i hi).choose_spec
    obtain ⟨F, hF⟩ := hch
    refine ⟨_, (List.range len).map F, h1, ⟨some a, m, by simp, ⟨by simpa using hlc, fun h => by cases h⟩, hcm, fun j hj => ?_⟩, ?_, rfl⟩
    · have hj' : j < len := by simpa using hj
      obtain ⟨g, off, rfl, hg⟩ : ∃ g off, a = ⟨g, off, none⟩ ∧ g < W.heap.size := by
        have z0 := (hF 0 (by omega)).2
        have e : a.add 0 = a := by simp [Addr.add]
        rw [e] at z0
        exact spot_none z0
      have y0 := (hF j hj').2
      rw [Addr.add_mid] at y0
      exact ⟨g, off, rfl, hg, by rw [y0]; simp, by simpa using (hF j hj').1⟩
    · subst hxx
      refine ⟨?_, fun hw => ?_⟩
      · simp only [List.length_map, List.length_range, Rows.uptoBulk]
        have := bulk_len ((List.range len).map D)
        simp only [List.length_map, List.length_range] at this
        omega
      · have := hw ((((List.range len).map D).length + ((List.range (m - len)).map fun j => D (len + j)).length) * Tryd.prog.bytesOf 5) (by simp [DataW.weights])
        rw [bytes5] at this
        simp only [List.length_map, List.length_range] at this ⊢
        omega

/-- A list of lists of bytes that came in, within another thing. -/
theorem open_bb {fuel : Nat} {cs : List Value} {x : DataW H × List MemPlace} (hf : DataW.trod enc Tryd.prog W 0 (fun _ => true) true fuel 72 cs = some x) :
    ∃ v Ls, cs = [v] ∧ SeesBB W v Ls ∧ Ls.flatten.length ≤ Rows.uptoBulk x.1 ∧ v.oneCell' = true := by
  rcases Go.Deep.open_slice u56 hf with ⟨h1, hx⟩ | ⟨a, len, cap, m, n, D, Pl, h1, _, hlc, hcm, hm, hxx, hx⟩
  · subst hx
    exact ⟨_, [], h1, ⟨none, 0, rfl, by simp, by unfold maxLen; omega, fun j h => absurd h (by simp)⟩, by simp, rfl⟩
  · simp at hm
    subst hm
    have key : ∀ i, i < len → ∃ vl : Value × List Nat, vl.2.length ≤ Rows.uptoBulk (D i) ∧ SeesB W vl.1 vl.2 ∧ W.cell? (a.add i) = some vl.1 := by
      intro i hi
      obtain ⟨cs', k1, k2⟩ := hx i (by omega)
      rw [cell1_25, Nat.mul_one] at k1
      obtain ⟨_, _, hc⟩ := World.cells?_some k1
      obtain ⟨v, L, e1, hs, hfit, _⟩ := open_bytes k2
      refine ⟨(v, L), hfit.bulk, hs, ?_⟩
      have := hc 0 (by omega)
      rw [e1] at this
      simpa [Addr.add] using this
    have hch : ∃ F : Nat → Value × List Nat, ∀ i, i < len → (F i).2.length ≤ Rows.uptoBulk (D i) ∧ SeesB W (F i).1 (F i).2 ∧ W.cell? (a.add i) = some (F i).1 := by
      refine ⟨fun i => if h : i < len then (key i h).choose else (undef, []), fun i hi => ?_⟩
      simp only [dif_pos hi]
      exact (key i hi).choose_spec
    obtain ⟨F, hF⟩ := hch
    refine ⟨_, (List.range len).map (fun i => (F i).2), h1, ⟨some a, m, by simp, by simpa using hlc, hcm, fun j hj => ?_⟩, ?_, rfl⟩
    · have hj' : j < len := by simpa using hj
      obtain ⟨g, off, rfl, hg⟩ : ∃ g off, a = ⟨g, off, none⟩ ∧ g < W.heap.size := by
        have z0 := (hF 0 (by omega)).2.2
        have e : a.add 0 = a := by simp [Addr.add]
        rw [e] at z0
        exact spot_none z0
      have y0 := (hF j hj').2.2
      rw [Addr.add_mid] at y0
      exact ⟨g, off, (F j).1, rfl, hg, y0, by simpa using (hF j hj').2.1⟩
    · subst hxx
      have := bulk_flat D (fun i => (F i).2) (List.range len) (fun i hi => (hF i (by simpa using hi)).1)
      simp only [Rows.uptoBulk]
      omega

/-- A header that reads. -/
theorem open_hd {fuel : Nat} {cs : List Value} {x : DataW H × List MemPlace} (h : DataW.trod enc Tryd.prog W 0 (fun _ => true) true fuel 33 cs = some x) :
    ∃ (hd : Hd) (vo : Value), cs = (hdCells hd vo).toList ∧ hd.Ok ∧ SeesB W vo hd.opts ∧ Fits x.1 33 hd.opts.length ∧ vo.oneCell' = true := by
  obtain ⟨f0, f1, f2, f3, f4, f5, f6, f7, f8, f9, hu, t0, o0, t1, o1, t2, o2, t3, o3, t4, o4, t5, o5, t6, o6, t7, o7, t8, o8, t9, o9⟩ := u27
  obtain ⟨xs, n, _, rfl, hl, hxl, hf⟩ := DataW.trod_struct hu h
  match xs, hxl with
  | [y0, y1, y2, y3, y4, y5, y6, y7, y8, y9], _ =>
    have g0 := hf 0 f0 rfl
    have g1 := hf 1 f1 rfl
    have g2 := hf 2 f2 rfl
    have g3 := hf 3 f3 rfl
    have g4 := hf 4 f4 rfl
    have g5 := hf 5 f5 rfl
    have g6 := hf 6 f6 rfl
    have g7 := hf 7 f7 rfl
    have g8 := hf 8 f8 rfl
    have g9 := hf 9 f9 rfl
    rw [t0, o0, cell1_5] at g0
    rw [t1, o1, cell1_22] at g1
    rw [t2, o2, cell1_4] at g2
    rw [t3, o3, cell1_4] at g3
    rw [t4, o4, cell1_3] at g4
    rw [t5, o5, cell1_5] at g5
    rw [t6, o6, cell1_5] at g6
    rw [t7, o7, cell1_24] at g7
    rw [t8, o8, cell1_24] at g8
    rw [t9, o9, cell1_25] at g9
    rw [cells27] at hl
    obtain ⟨z0, e0, _, w0⟩ := DataW.trod_int u5 g0
    obtain ⟨tos, rfl, h0⟩ := wf_u8 w0
    obtain ⟨z1, e1, _, w1⟩ := DataW.trod_int u22 g1
    obtain ⟨id, rfl, h1⟩ := wf_u16 w1
    obtain ⟨df, e2, _⟩ := DataW.trod_bool u4 g2
    obtain ⟨mf, e3, _⟩ := DataW.trod_bool u4 g3
    obtain ⟨off, e4, _, w4⟩ := DataW.trod_int u3 g4
    obtain ⟨z5, e5, _, w5⟩ := DataW.trod_int u5 g5
    obtain ⟨ttl, rfl, h5⟩ := wf_u8 w5
    obtain ⟨z6, e6, _, w6⟩ := DataW.trod_int u5 g6
    obtain ⟨proto, rfl, h6⟩ := wf_u8 w6
    obtain ⟨z7, e7, _, w7⟩ := DataW.trod_int u24 g7
    obtain ⟨src, rfl, h7⟩ := wf_u32 w7
    obtain ⟨z8, e8, _, w8⟩ := DataW.trod_int u24 g8
    obtain ⟨dst, rfl, h8⟩ := wf_u32 w8
    obtain ⟨vo, opts, e9, hs, hfit, ho⟩ := open_bytes g9
    refine ⟨⟨tos, id, df, mf, off, ttl, proto, src, dst, opts⟩, vo, ?_, ⟨h0, h1, wf_i64 w4, h5, h6, h7, h8⟩, hs, ⟨?_, fun hw => ?_⟩, ho⟩
    · match cs, hl with
      | [c0, c1, c2, c3, c4, c5, c6, c7, c8, c9], _ =>
        simp at e0 e1 e2 e3 e4 e5 e6 e7 e8 e9
        simp [hdCells, e0, e1, e2, e3, e4, e5, e6, e7, e8, e9]
    · simp only [List.map_cons, List.map_nil, Rows.uptoBulk, Rows.uptoBulkAll]
      have := hfit.bulk
      omega
    · refine hfit.room fun k hk => hw k ?_
      simp only [DataW.weights, hu]
      exact DataW.weights_mem_each (j := 9) (t := 26) (d := y9.1) (by simp [t9]) rfl _ hk

/-- A packet that reads. -/
theorem open_pk {fuel : Nat} {cs : List Value} {x : DataW H × List MemPlace} (h : DataW.trod enc Tryd.prog W 0 (fun _ => true) true fuel 35 cs = some x) :
    ∃ (hd : Hd) (vo vb : Value) (B : List Nat), cs = (pkCells hd vo vb).toList ∧ hd.Ok ∧ SeesB W vo hd.opts ∧ SeesB W vb B ∧ Fits x.1 35 hd.opts.length ∧ Fits x.1 35 B.length ∧ vo.oneCell' = true ∧ vb.oneCell' = true := by
  obtain ⟨f0, f1, hu, t0, o0, t1, o1⟩ := u29
  obtain ⟨xs, n, _, rfl, hl, hxl, hf⟩ := DataW.trod_struct hu h
  match xs, hxl with
  | [y0, y1], _ =>
    have g0 := hf 0 f0 rfl
    have g1 := hf 1 f1 rfl
    rw [t0, o0, cells27] at g0
    rw [t1, o1, cell1_25] at g1
    rw [cells29] at hl
    obtain ⟨hd, vo, e0, hok, hs, hfit, ho⟩ := open_hd g0
    obtain ⟨vb, B, e1, hsb, hfb, hob⟩ := open_bytes g1
    refine ⟨hd, vo, vb, B, ?_, hok, hs, hsb, ⟨?_, fun hw => ?_⟩, ⟨?_, fun hw => ?_⟩, ho, hob⟩
    · match cs, hl with
      | [c0, c1, c2, c3, c4, c5, c6, c7, c8, c9, c10], _ =>
        simp [hdCells] at e0 e1
        obtain ⟨rfl, rfl, rfl, rfl, rfl, rfl, rfl, rfl, rfl, rfl⟩ := e0
        simp [pkCells, e1]
    · simp only [List.map_cons, List.map_nil, Rows.uptoBulk, Rows.uptoBulkAll]
      have := hfit.bulk
      omega
    · refine hfit.room fun k hk => hw k ?_
      simp only [DataW.weights, hu]
      exact DataW.weights_mem_each (j := 0) (t := 33) (d := y0.1) (by simp [t0]) rfl _ hk
    · simp only [List.map_cons, List.map_nil, Rows.uptoBulk, Rows.uptoBulkAll]
      have := hfb.bulk
      omega
    · refine hfb.room fun k hk => hw k ?_
      simp only [DataW.weights, hu]
      exact DataW.weights_mem_each (j := 1) (t := 26) (d := y1.1) (by simp [t1]) rfl _ hk

/-- What a step holds. -/
structure OpD where
  k : Int
  vy : Value
  By : List Nat
  vp : Value
  Ls : List (List Nat)
  x : Nat
  y : Nat
  z : Nat
  h : Hd
  vo : Value
  vb : Value
  B : List Nat

def OpD.cells (o : OpD) : List Value := opL o.k o.vy o.vp o.x o.y o.z o.h o.vo o.vb

structure OpD.Ok (o : OpD) (W : World) (lim : Nat) : Prop where
  klo : -9223372036854775808 ≤ o.k
  khi : o.k ≤ 9223372036854775807
  vy : SeesB W o.vy o.By
  vp : SeesBB W o.vp o.Ls
  x : o.x < 65536
  y : o.y < 65536
  z : o.z < 65536
  h : o.h.Ok
  vo : SeesB W o.vo o.h.opts
  vb : SeesB W o.vb o.B
  one : ∀ v ∈ o.cells, v.oneCell' = true
  ly : o.By.length ≤ reachBytes
  lo : o.h.opts.length ≤ reachBytes
  lb : o.B.length ≤ reachBytes
  lp : o.Ls.flatten.length ≤ lim

end
end Go.Proofs.YtcboenmmkaochabDoor.N
