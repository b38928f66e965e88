import Derived.Test.YtcboenmmkaochaaDoorRows
import Derived.WalkKit
import Derived.ProofKit
import Derived.OpenShut
import Derived.Deep.QuietTactic
import Derived.BigQuiet
import Derived.Laws.BitsAllLaws
import Derived.Deep.CutRange
import Derived.Laws.AppendOwnNone
import Derived.Deep.MidRow
import Derived.Deep.Slices
import Derived.Deep.Strs
import Derived.SizedLaws
import Derived.Deep.RegionHeld3
import Derived.Deep.RegionWith
namespace Go.Proofs.YtcboenmmkaochaaDoor.N.M

/-- The words of joined bytes, added up; odd: the bytes begin within a word. -/
def tot (odd : Bool) : List Nat → Nat
  | [] => 0
  | x :: r => (if odd then x else 256 * x) + tot (!odd) r

/-- The parity behind n bytes more. -/
def par (o : Bool) (n : Nat) : Bool := if n % 2 = 0 then o else !o

theorem par_zero (o : Bool) : par o 0 = o := rfl

theorem par_succ (o : Bool) (n : Nat) : par (!o) n = par o (n + 1) := by
  unfold par
  by_cases h : n % 2 = 0
  · rw [if_pos h, if_neg (by omega)]
  · rw [if_neg h, if_pos (by omega)]; cases o <;> rfl

theorem par_add (o : Bool) (m n : Nat) : par (par o m) n = par o (m + n) := by
  unfold par
  by_cases h : m % 2 = 0 <;> by_cases g : n % 2 = 0
  · rw [if_pos h, if_pos g, if_pos (by omega)]
  · rw [if_pos h, if_neg g, if_neg (by omega)]
  · rw [if_neg h, if_pos g, if_neg (by omega)]
  · rw [if_neg h, if_neg g, if_pos (by omega)]; cases o <;> rfl

theorem tot_append (A B : List Nat) (o : Bool) : tot o (A ++ B) = tot o A + tot (par o A.length) B := by
  induction A generalizing o with
  | nil => simp [tot, par_zero]
  | cons x A ih => simp only [List.cons_append, tot, List.length_cons]; rw [ih, par_succ]; omega

theorem tot_le (L : List Nat) (o : Bool) (h : ∀ x ∈ L, x < 256) : tot o L ≤ 65280 * L.length := by
  induction L generalizing o with
  | nil => simp [tot]
  | cons x L ih =>
    have h1 := ih (!o) (fun y hy => h y (List.mem_cons_of_mem _ hy))
    have h2 := h x List.mem_cons_self
    simp only [tot, List.length_cons]
    split <;> omega

def fold (t : Nat) : Nat := if t = 0 then 0 else 1 + (t - 1) % 65535

theorem fold_le (t : Nat) : fold t ≤ 65535 := by
  unfold fold; split
  · omega
  · have := Nat.mod_lt (t - 1) (show 0 < 65535 by omega); omega

def csum (L : List Nat) : Nat := 65535 - fold (tot false L)

theorem csum_lt (L : List Nat) : csum L < 65536 := by unfold csum; omega

def adj (s o n : Nat) : Nat := 65535 - fold ((65535 - s) + (65535 - o) + n)

end Go.Proofs.YtcboenmmkaochaaDoor.N.M

namespace Go.Proofs.YtcboenmmkaochaaDoor.N
open Go.ChangeShapes Go.WideShapes Go.ChangeAt Go.RowKit
set_option maxHeartbeats 400000
set_option maxRecDepth 100000

def lenOf : Value → Nat
  | .slice _ n _ => n
  | _ => 0

theorem hid {p : Prop} (h : p) : Hid p := h
theorem ret_int {k : IntKind} {a b : Int} (h : a = b) : Ending.returned (.int k a) = .returned (.int k b) := by rw [h]
theorem ret_bool {a b : Bool} (h : a = b) : Ending.returned (.bool a) = .returned (.bool b) := by rw [h]

theorem complement_any (t : Nat) (w : World) (ht : t < 9223372036854775808) :
    Calls Tryd.prog 53 #[.int .u64 t] w fun e w' => e = .returned (.int .u16 ((65535 - M.fold t : Nat) : Int)) ∧ w' = w := by
  by_cases h : t = 0
  · subst h
    go_enter Tryd.func53, Tryd.ntmps53
    go_wp2
    go_ret
    exact ⟨rfl, rfl⟩
  · have hq : ((t : Int) == 0) = false := beq_false_of_ne (fun e => h (by exact_mod_cast e))
    have HF : Hid (65535 - M.fold t = 65534 - (t - 1) % 65535) := by unfold Hid M.fold; rw [if_neg h]; omega
    have h1 : 1 ≤ t := by omega
    go_enter Tryd.func53, Tryd.ntmps53
    go_wp2
    go_ret
    refine ⟨ret_int ?_, rfl⟩
    rw [HF.out]
    omega

/-- The slice value v shows, in the world w, the bytes L. -/
def SeesB (w : World) (v : Value) (L : List Nat) : Prop :=
  ∃ ao cap, v = .slice ao L.length cap ∧ (L.length ≤ cap ∧ (ao = none → cap = 0)) ∧ cap ≤ maxLen ∧
    ∀ j (h : j < L.length), ∃ g off, ao = some ⟨g, off, none⟩ ∧ g < w.heap.size ∧ w.cell? ⟨g, off + j, none⟩ = some (.int .u8 (L[j] : Int)) ∧ L[j] < 256

theorem SeesB.shape {w : World} {v : Value} {L : List Nat} (h : SeesB w v L) : ∃ ao n cap, v = .slice ao n cap ∧ Hid (n = L.length) ∧ n ≤ cap ∧ cap ≤ maxLen := by
  obtain ⟨ao, cap, hv, h1, h2, _⟩ := h
  exact ⟨ao, L.length, cap, hv, rfl, h1.1, h2⟩

theorem SeesB.at {w : World} {ao : Option Addr} {n cap : Nat} {L : List Nat} (h : SeesB w (.slice ao n cap) L) (j : Nat) (hj : j < n) : ∃ (g off p : Nat), ao = some ⟨g, off, none⟩ ∧ g < w.heap.size ∧ w.cell? ⟨g, off + j, none⟩ = some (.int .u8 (p : Int)) ∧ p < 256 ∧ Hid (L[j]? = some p) := by
  obtain ⟨ao', cap', hv, h1, h2, h3⟩ := h
  simp at hv
  obtain ⟨rfl, rfl, rfl⟩ := hv
  obtain ⟨g, off, a, b, c, d⟩ := h3 j hj
  exact ⟨g, off, L[j], a, b, c, d, List.getElem?_eq_getElem hj⟩

theorem SeesB.below {w w' : World} {v : Value} {L : List Nat} (h : SeesB w v L) (hb : Below w.heap.size w w') : SeesB w' v L := by
  obtain ⟨ao, cap, hv, h1, h2, h3⟩ := h
  refine ⟨ao, cap, hv, h1, h2, fun j hj => ?_⟩
  obtain ⟨g, off, ha, hg, c0, c1⟩ := h3 j hj
  exact ⟨g, off, ha, Nat.lt_of_lt_of_le hg hb.size, (hb.cell (p := ⟨g, _, none⟩) hg).trans c0, c1⟩

theorem SeesB.bytes {w : World} {v : Value} {L : List Nat} (h : SeesB w v L) : ∀ x ∈ L, x < 256 := by
  obtain ⟨ao, cap, hv, h1, h2, h3⟩ := h
  intro x hx
  obtain ⟨j, hj, rfl⟩ := List.mem_iff_getElem.1 hx
  obtain ⟨_, _, _, _, _, h⟩ := h3 j hj
  exact h

theorem sees_nil (w : World) : SeesB w (.slice none 0 0) [] := ⟨none, 0, rfl, ⟨by simp, fun _ => rfl⟩, by unfold maxLen; omega, fun j h => absurd h (by simp)⟩

theorem below_drew {B : Nat} {a w : World} (h : Below B a w) : Below B a w.drew := ⟨h.os, h.tape, h.output, h.size, h.block⟩

theorem or_u16 (x y : Nat) (hx : x < 256) (hy : y < 256) : bits .or .u16 ((x * 256 : Nat) : Int) (y : Int) = ((x * 256 + y : Nat) : Int) := by
  rw [u16_or_nat (x * 256) y (by omega) (by omega)]
  congr 1
  have := Nat.two_pow_add_eq_or_of_lt (i := 8) (b := y) (by omega) x
  rw [Nat.mul_comm x 256]
  exact this.symm

/-- Two bytes at a slice's head. -/
theorem read16_any (v : Value) (x y : Nat) (r : List Nat) (w : World) (hv : SeesB w v (x :: y :: r)) :
    Calls Tryd.prog 52 #[v] w fun e w' => e = .returned (.int .u16 ((x * 256 + y : Nat) : Int)) ∧ Below w.heap.size w w' := by
  obtain ⟨ao, n, cap, rfl, HN, hn1, hn2⟩ := hv.shape
  have h2 : 2 ≤ n := by have := HN.out; simp at this; omega
  obtain ⟨g, off, p, rfl, hg, hc0, hp, HP⟩ := hv.at 0 (by omega)
  obtain ⟨g', off', q, he, hg', hc1, hq, HQ⟩ := hv.at 1 (by omega)
  simp at he
  obtain ⟨rfl, rfl⟩ := he
  have HO := or_u16 p q hp hq
  have e1 : p = x := by have := HP.out; simpa using this.symm
  have e2 : q = y := by have := HQ.out; simpa using this.symm
  have HR : Hid (bits .or .u16 ((p * 256 : Nat) : Int) (q : Int) = ((x * 256 + y : Nat) : Int)) := by unfold Hid; rw [HO, e1, e2]
  clear HO e1 e2 HP HQ hv
  rw [Nat.add_zero] at hc0
  have b0 : 0 < n := by omega
  have b1 : 1 < n := by omega
  go_enter Tryd.func52, Tryd.ntmps52
  go_wp2
  go_region
  go_wp2
  go_ret
  exact ⟨ret_int (by rw [← HR.out]; simp), below_drew (Below.refl _ _)⟩

theorem SeesB.back {w : World} {g off n cap : Nat} {L : List Nat} (h : SeesB w (.slice (some ⟨g, off, none⟩) n cap) L) (m : Nat) (hm : m ≤ n) :
    SeesB w (.slice (if cap = m then some ⟨g, off, none⟩ else some ⟨g, off + m, none⟩) (n - m) (cap - m)) (L.drop m) := by
  obtain ⟨ao', cap', hv, h1, h2, h3⟩ := h
  simp at hv
  obtain ⟨rfl, rfl, rfl⟩ := hv
  refine ⟨_, cap - m, by rw [List.length_drop], ⟨by rw [List.length_drop]; omega, fun h => by split at h <;> cases h⟩, by omega, fun j hj => ?_⟩
  rw [List.length_drop] at hj
  obtain ⟨g', off', ha, hg, hc, hb⟩ := h3 (m + j) (by omega)
  simp at ha
  obtain ⟨rfl, rfl⟩ := ha
  refine ⟨g, off + m, by rw [if_neg (by omega)], hg, ?_, ?_⟩
  · rw [List.getElem_drop, Nat.add_assoc]; exact hc
  · rw [List.getElem_drop]; exact hb

/-- A cut 'x[m:]': its value is kept a letter. -/
theorem SeesB.low {w : World} {ao : Option Addr} {n cap : Nat} {L : List Nat} (h : SeesB w (.slice ao n cap) L) (m : Nat) (i : Int) (hi : i = m) (hm : m ≤ n) :
    ∃ ao', Hid (SeesB w (.slice ao' (n - m) (cap - m)) (L.drop m)) ∧ ∀ u : World, (Instr.sliceAt 25 (.slice ao n cap) (some (.int .i64 i)) none none).run Tryd.prog u = .ok (.slice ao' (n - m) (cap - m)) u := by
  subst hi
  have hlen : n = L.length := by obtain ⟨_, _, hv, _⟩ := h; simp at hv; exact hv.2.1
  refine ⟨if cap = m then ao else ao.map (·.add m), ?_, fun u => ?_⟩
  · cases ao with
    | none =>
      have hn : n = 0 := by
        rcases Nat.eq_zero_or_pos n with h0 | h0
        · exact h0
        · obtain ⟨_, _, _, hc, _⟩ := h.at 0 h0; cases hc
      have h2 := h
      obtain ⟨_, _, hv, h1, h3, _⟩ := h
      simp at hv
      obtain ⟨rfl, _, rfl⟩ := hv
      have hL : L.drop m = [] := List.drop_eq_nil_of_le (by omega)
      unfold Hid; rw [hL]
      exact ⟨_, cap - m, by rw [show n - m = 0 by omega]; rfl, ⟨by simp, fun h => by have := h1.2 rfl; omega⟩, by omega, fun j hj => absurd hj (by simp)⟩
    | some a =>
      rcases Nat.eq_zero_or_pos n with h0 | h0
      · obtain ⟨_, _, hv, h1, h3, _⟩ := h
        simp at hv
        obtain ⟨rfl, _, rfl⟩ := hv
        have hL : L.drop m = [] := List.drop_eq_nil_of_le (by omega)
        unfold Hid; rw [hL]
        exact ⟨_, cap - m, by rw [show n - m = 0 by omega]; rfl, ⟨by simp, fun h => by split at h <;> cases h⟩, by omega, fun j hj => absurd hj (by simp)⟩
      · obtain ⟨g, off, _, hc, _⟩ := h.at 0 h0
        simp at hc
        subst hc
        have := h.back m hm
        have ea : (⟨g, off, none⟩ : Addr).add m = ⟨g, off + m, none⟩ := by
          rcases Nat.eq_zero_or_pos m with rfl | h0
          · simp [Addr.add]
          · simp [Addr.add]; omega
        unfold Hid
        rw [Option.map_some, ea]
        exact this
  · have hu : Tryd.prog.underlying 25 = some (.slice (Tryd.prog.elem 25)) := by kernel_rfl
    have hsz : (sizeOf (Tryd.prog.elem 25)).run Tryd.prog u = .ok 1 u := by kernel_rfl
    rw [run_sliceAt_slice (h := hu), run_slice_l (ht := hu) (h0 := by omega) (h1 := by omega), hsz]
    simp [Result.andThen, sliced]

/-- The slice value v shows the lists Ls. -/
def SeesBB (w : World) (v : Value) (Ls : List (List Nat)) : Prop :=
  ∃ ao cap, v = .slice ao Ls.length cap ∧ Ls.length ≤ cap ∧ cap ≤ maxLen ∧
    ∀ j (h : j < Ls.length), ∃ g off u, ao = some ⟨g, off, none⟩ ∧ g < w.heap.size ∧ w.cell? ⟨g, off + j, none⟩ = some u ∧ SeesB w u Ls[j]

theorem SeesBB.shape {w : World} {v : Value} {L : List (List Nat)} (h : SeesBB w v L) : ∃ ao n cap, v = .slice ao n cap ∧ Hid (n = L.length) ∧ n ≤ cap ∧ cap ≤ maxLen := by
  obtain ⟨ao, cap, hv, h1, h2, _⟩ := h
  exact ⟨ao, L.length, cap, hv, rfl, h1, h2⟩

theorem SeesBB.at {w : World} {ao : Option Addr} {n cap : Nat} {L : List (List Nat)} (h : SeesBB w (.slice ao n cap) L) (j : Nat) (hj : j < n) : ∃ (g off : Nat) (u : Value) (l : List Nat), ao = some ⟨g, off, none⟩ ∧ g < w.heap.size ∧ w.cell? ⟨g, off + j, none⟩ = some u ∧ SeesB w u l ∧ Hid (L[j]? = some l) := by
  obtain ⟨ao', cap', hv, h1, h2, h3⟩ := h
  simp at hv
  obtain ⟨rfl, rfl, rfl⟩ := hv
  obtain ⟨g, off, u, a, b, c, d⟩ := h3 j hj
  exact ⟨g, off, u, L[j], a, b, c, d, List.getElem?_eq_getElem hj⟩

theorem SeesBB.below {w w' : World} {v : Value} {L : List (List Nat)} (h : SeesBB w v L) (hb : Below w.heap.size w w') : SeesBB w' v L := by
  obtain ⟨ao, cap, hv, h1, h2, h3⟩ := h
  refine ⟨ao, cap, hv, h1, h2, fun j hj => ?_⟩
  obtain ⟨g, off, u, ha, hg, c0, c1⟩ := h3 j hj
  exact ⟨g, off, u, ha, Nat.lt_of_lt_of_le hg hb.size, (hb.cell (p := ⟨g, _, none⟩) hg).trans c0, c1.below hb⟩
end Go.Proofs.YtcboenmmkaochaaDoor.N

namespace Go.Proofs.YtcboenmmkaochaaDoor.N
open Go.ChangeShapes Go.WideShapes Go.ChangeAt Go.RowKit
set_option maxHeartbeats 400000
set_option maxRecDepth 100000

theorem take_snoc {α : Type} {L : List α} {j : Nat} {x : α} (h : L[j]? = some x) : L.take (j + 1) = L.take j ++ [x] := by
  rw [List.take_add_one, h]; rfl

/-- What is added up of the first lists. -/
def T (Ls : List (List Nat)) (k : Nat) : Nat := M.tot false (Ls.take k).flatten
def O (Ls : List (List Nat)) (k : Nat) : Bool := M.par false (Ls.take k).flatten.length

theorem T_succ {Ls : List (List Nat)} {k : Nat} {l : List Nat} (h : Ls[k]? = some l) : T Ls (k + 1) = T Ls k + M.tot (O Ls k) l := by
  unfold T O; rw [take_snoc h, List.flatten_append, M.tot_append]; simp

theorem O_succ {Ls : List (List Nat)} {k : Nat} {l : List Nat} (h : Ls[k]? = some l) : O Ls (k + 1) = M.par (O Ls k) l.length := by
  unfold O; rw [take_snoc h, List.flatten_append, List.length_append, M.par_add]; simp

theorem T_le {Ls : List (List Nat)} {k : Nat} (hb : ∀ l ∈ Ls, ∀ x ∈ l, x < 256) (hl : Ls.flatten.length ≤ 1099511627776) : T Ls k ≤ 71776119061217280 := by
  have h1 := M.tot_le (Ls.take k).flatten false (fun x hx => by
    obtain ⟨l, hl, hx⟩ := List.mem_flatten.1 hx
    exact hb l (List.mem_of_mem_take hl) x hx)
  have h2 : (Ls.take k).flatten.length ≤ Ls.flatten.length := by
    conv => rhs; rw [← List.take_append_drop k Ls, List.flatten_append, List.length_append]
    omega
  unfold T; omega

theorem SeesBB.bytes {w : World} {v : Value} {Ls : List (List Nat)} (h : SeesBB w v Ls) : ∀ l ∈ Ls, ∀ x ∈ l, x < 256 := by
  obtain ⟨ao, cap, hv, h1, h2, h3⟩ := h
  intro l hl
  obtain ⟨j, hj, rfl⟩ := List.mem_iff_getElem.1 hl
  obtain ⟨_, _, _, _, _, _, h⟩ := h3 j hj
  exact h.bytes

set_option maxHeartbeats 500000 in
theorem sum_code (v : Value) (Ls : List (List Nat)) (w : World) (hv : SeesBB w v Ls) (hl : Ls.flatten.length ≤ 1099511627776) :
    Calls Tryd.prog 40 #[v] w fun e w' => e = .returned (.int .u16 ((M.csum Ls.flatten : Nat) : Int)) ∧ Below w.heap.size w w' := by
  obtain ⟨ao, n, cap, rfl, HN, hn1, hn2⟩ := hv.shape
  have HT : Hid (∀ k, T Ls k ≤ 71776119061217280) := fun k => T_le hv.bytes hl
  have HV := hid hv
  clear hv hl
  unfold maxLen at hn2
  go_enter Tryd.func40, Tryd.ntmps40
  go_wp2_with fail
  go_loopw [3, 4, 6, 9] (fun t o _ i wr => ∃ (k s : Nat) (b : Bool), i = .int .i64 k ∧ k ≤ n ∧ t = .int .u64 s ∧ o = .bool b ∧ Hid (s = T Ls k ∧ b = O Ls k) ∧ Below w.heap.size w wr) (fun _ _ _ i _ => n - (intOf i).toNat)
  case atStart => exact ⟨0, 0, false, rfl, by omega, rfl, rfl, ⟨rfl, rfl⟩, Below.refl _ _⟩
  case round =>
    obtain ⟨k, s, b, rfl, hk, rfl, rfl, HS, hb⟩ := hrel
    have hs : s ≤ 71776119061217280 := by have := HT.out k; have := HS.out.1; omega
    by_cases hlt : k < n
    · obtain ⟨g, off, u, l, rfl, hg, hc, hu, HL⟩ := (HV.out.below hb).at k hlt
      obtain ⟨ar, nr, capr, rfl, HNR, hr1, hr2⟩ := hu.shape
      unfold maxLen at hr2
      have HU := hid hu
      have HTS : Hid (T Ls (k + 1) = s + M.tot b l ∧ O Ls (k + 1) = M.par b l.length) := by
        have h1 := T_succ HL.out
        have h2 := O_succ HL.out
        rw [← HS.out.1, ← HS.out.2] at h1
        rw [← HS.out.2] at h2
        exact ⟨h1, h2⟩
      clear hu HS
      go_upto_region 6 with fail
      go_cut [3, 4, 6, 9, 18] from 10 to 47 (fun t o p i c wx => i = .int .i64 k ∧ t = .int .u64 s ∧ o = .bool b ∧ p = .slice ar nr capr ∧ (∃ c' : Bool, c = .bool c' ∧ Hid (c' = (b && decide (0 < nr)))) ∧ wx = wr)
      case first =>
        cases b
        · go_wp2_with fail
          go_meet
          case rel => exact ⟨rfl, rfl, rfl, rfl, ⟨false, rfl, rfl⟩, rfl⟩
        · go_wp2_with fail
          go_meet
          case rel => exact ⟨rfl, rfl, rfl, rfl, ⟨decide (0 < nr), by simp, by simp [Hid]⟩, rfl⟩
      case rest =>
        obtain ⟨rfl, rfl, rfl, rfl, ⟨c, rfl, HC⟩, rfl⟩ := hcut
        go_upto_if 18 with fail
        go_cut [3, 4, 6, 9] from 10 to 47 (fun t o p i wx => ∃ (s' : Nat) (b' : Bool) (l' : List Nat), i = .int .i64 k ∧ t = .int .u64 s' ∧ o = .bool b' ∧ Hid (SeesB wx p l') ∧ Hid ((l' = [] ∨ b' = false) ∧ T Ls (k + 1) = s' + M.tot b' l' ∧ O Ls (k + 1) = M.par b' l'.length) ∧ Below w.heap.size w wx)
        case first =>
          cases c with
          | true =>
            obtain ⟨hb1, hnr⟩ : b = true ∧ 0 < nr := by have := HC.out.symm; simpa using this
            obtain ⟨aq, HB, hcut⟩ := HU.out.low 1 1 rfl (by omega)
            obtain ⟨ga, oa, x, rfl, hga, hca, hx, HX⟩ := HU.out.at 0 hnr
            have HR : Hid (T Ls (k + 1) = (s + x) + M.tot false (l.drop 1) ∧ O Ls (k + 1) = M.par false (l.drop 1).length) := by
              have h1 := HTS.out
              have h2 := HX.out
              rw [hb1] at h1
              cases l with
              | nil => simp at h2
              | cons y l =>
                simp at h2; subst h2
                rw [h1.1, h1.2]
                exact ⟨by simp [M.tot]; omega, by simp only [List.length_cons, List.drop_succ_cons, List.drop_zero]; exact (M.par_succ true _).symm⟩
            rw [Nat.add_zero] at hca
            clear hb1 HTS HC HX HU
            go_wp2_with fail
            go_meet
            case rel => exact ⟨s + x, false, l.drop 1, rfl, by go_num, rfl, HB, ⟨.inr rfl, HR.out⟩, hb⟩
          | false =>
            have HR : Hid (l = [] ∨ b = false) := by
              have h1 := HC.out.symm
              cases b with
              | false => exact .inr rfl
              | true => left; simp at h1; have h2 := HNR.out; exact List.eq_nil_of_length_eq_zero (by omega)
            clear HC
            go_wp2_with fail
            go_meet
            case rel => exact ⟨s, b, l, rfl, rfl, rfl, HU, ⟨HR.out, HTS.out⟩, hb⟩
        case rest =>
          obtain ⟨s1, b1, l1, rfl, rfl, rfl, HU1, HR1, hb2⟩ := hcut
          clear HU HTS HC hc hs hg hr1 hr2 HNR
          go_wp2_with fail
          go_loopw [3, 6] (fun t p wx => ∃ (s' : Nat) (l' : List Nat), t = .int .u64 s' ∧ Hid (SeesB wx p l') ∧ Hid ((l' = [] ∨ b1 = false) ∧ T Ls (k + 1) = s' + M.tot b1 l' ∧ O Ls (k + 1) = M.par b1 l'.length) ∧ Below w.heap.size w wx) (fun _ p _ => lenOf p)
          case atStart => exact ⟨s1, l1, rfl, HU1, HR1, hb2⟩
          case round =>
            obtain ⟨s2, l2, rfl, HU2, HR2, hb3⟩ := hrel
            have hs2 : s2 ≤ 71776119061217280 := by have h1 := HT.out (k + 1); have h2 := HR2.out.2.1; omega
            obtain ⟨a2, n2, cap2, rfl, HN2, hr1, hr2⟩ := HU2.out.shape
            unfold maxLen at hr2
            by_cases hge : 2 ≤ n2
            · obtain ⟨x, y, r, hl2⟩ : ∃ x y r, l2 = x :: y :: r := by
                have h1 := HN2.out
                match l2, h1 with
                | [], h1 => simp at h1; omega
                | [x], h1 => simp at h1; omega
                | x :: y :: r, _ => exact ⟨x, y, r, rfl⟩
              subst hl2
              obtain ⟨aq, HB, hcut⟩ := HU2.out.low 2 2 rfl hge
              have HC := fun u (hu : Below _ _ u) => read16_any _ x y r u (HU2.out.below hu)
              obtain ⟨ga, oa, x', rfl, hga, hca, hx, HX⟩ := HU2.out.at 0 (by omega)
              obtain ⟨g', o', y', he, _, hcy, hy, HY⟩ := HU2.out.at 1 (by omega)
              clear hcy he
              have hxe : x' = x := by have := HX.out; simpa using this.symm
              have hye : y' = y := by have := HY.out; simpa using this.symm
              subst hxe hye
              have HR3 : Hid (((r = [] ∨ b1 = false) ∧ T Ls (k + 1) = (s2 + (x' * 256 + y')) + M.tot b1 r ∧ O Ls (k + 1) = M.par b1 r.length)) := by
                obtain ⟨h1, h2, h3⟩ := HR2.out
                have hb1 : b1 = false := by rcases h1 with h1 | h1; · cases h1
                                            · exact h1
                rw [hb1] at h2 h3 ⊢
                refine ⟨.inr rfl, by rw [h2]; simp [M.tot]; omega, by rw [h3]; simp only [List.length_cons]; rw [← M.par_succ, ← M.par_succ]; rfl⟩
              rw [List.drop_succ_cons, List.drop_succ_cons, List.drop_zero] at HB
              obtain ⟨z, hz⟩ : ∃ z, z = x' * 256 + y' := ⟨_, rfl⟩
              rw [← hz] at HC HR3
              have hz1 : z < 65536 := by omega
              clear HX HY hz hca hx hy
              go_wp2_with fail
              refine (HC _ (Below.refl _ _)).mono ?_
              rintro _ w3 ⟨rfl, hb4⟩
              clear HC
              have HB3 := hid (SeesB.below HB.out hb4)
              have hb5 := hb3.trans (hb4.mono hb3.size)
              clear HB hb4
              go_wp2_with fail
              go_roundw
              case rel => exact ⟨s2 + z, r, by go_num, HB3, HR3, hb5⟩
              case measure => simp [lenOf]; omega
            · by_cases h1 : n2 = 1
              · obtain ⟨x, hl2⟩ : ∃ x, l2 = [x] := by
                  have h2 := HN2.out
                  match l2, h2 with
                  | [], h2 => simp at h2; omega
                  | [x], _ => exact ⟨x, rfl⟩
                  | x :: y :: r, h2 => simp at h2; omega
                subst hl2
                obtain ⟨ga, oa, x', rfl, hga, hca, hx, HX⟩ := HU2.out.at 0 (by omega)
                have hxe : x' = x := by have := HX.out; simpa using this.symm
                subst hxe
                have HR3 : Hid (s2 + x' * 256 = T Ls (k + 1) ∧ true = O Ls (k + 1)) := by
                  obtain ⟨h2, h3, h4⟩ := HR2.out
                  have hb1 : b1 = false := by rcases h2 with h2 | h2; · cases h2
                                              · exact h2
                  rw [hb1] at h3 h4
                  exact ⟨by rw [h3]; simp [M.tot]; omega, by rw [h4]; rfl⟩
                rw [Nat.add_zero] at hca
                subst h1
                clear HX HR2 HU2 HN2
                go_wp2_with fail
                go_roundw
                case rel => exact ⟨k + 1, s2 + x' * 256, true, by go_num, by omega, by go_num, rfl, HR3, hb3⟩
                case measure => simp [intOf]; omega
              · obtain rfl : n2 = 0 := by omega
                have HR3 : Hid (s2 = T Ls (k + 1) ∧ b1 = O Ls (k + 1)) := by
                  obtain ⟨h2, h3, h4⟩ := HR2.out
                  have h5 : l2 = [] := List.eq_nil_of_length_eq_zero HN2.out.symm
                  rw [h5] at h3 h4
                  exact ⟨by rw [h3]; simp [M.tot], by rw [h4]; rfl⟩
                clear HR2 HU2 HN2
                go_wp2_with fail
                go_roundw
                case rel => exact ⟨k + 1, s2, b1, by go_num, by omega, rfl, rfl, HR3, hb3⟩
                case measure => simp [intOf]; omega
    · have HE : Hid (M.csum Ls.flatten = 65535 - M.fold s) := by
        unfold Hid M.csum
        rw [HS.out.1]
        unfold T
        rw [List.take_of_length_le (by have := HN.out; omega)]
      go_wp2_with fail
      refine (complement_any s _ (by omega)).mono ?_
      rintro _ _ ⟨rfl, rfl⟩
      go_wp2_with fail
      go_ret
      exact ⟨ret_int (by rw [HE.out]), hb⟩
end Go.Proofs.YtcboenmmkaochaaDoor.N

namespace Go.Proofs.YtcboenmmkaochaaDoor.N
open Go.ChangeShapes Go.WideShapes Go.ChangeAt Go.RowKit
set_option maxHeartbeats 400000
set_option maxRecDepth 100000

def bs (L : List Nat) : List Value := L.map fun (x : Nat) => Value.int .u8 (x : Int)

/-- v is a list of bytes of the call's own, in a block not below base. -/
def OwnB (w : World) (base : Nat) (v : Value) (L : List Nat) : Prop := w.ownsRow base 5 1 v L.length (bs L)

theorem Tryd.info5 : (Tryd.prog.info? 5).map (fun i => (i.zero, i.size, i.bytes)) = some (some (.int .u8 0), 1, 1) := by kernel_rfl

theorem ownB_nil (w : World) (base : Nat) : OwnB w base (.slice none 0 0) [] := World.ownsRow_nil _ _ _ _

theorem OwnB.sees {w : World} {base : Nat} {v : Value} {L : List Nat} (h : OwnB w base v L) (hb : ∀ x ∈ L, x < 256) : SeesB w v L := by
  rcases h.2 with ⟨rfl, hn⟩ | ⟨g, cap, cur, rfl, hbg, hg, hnc, hcm, hcs, htake⟩
  · have : L = [] := List.eq_nil_of_length_eq_zero hn
    subst this
    exact sees_nil w
  · refine ⟨some ⟨g, 0, none⟩, cap, rfl, ⟨hnc, fun h => by cases h⟩, hcm, fun j hj => ⟨g, 0, rfl, (Array.getElem?_eq_some_iff.1 hg).1, ?_, hb _ (List.getElem_mem hj)⟩⟩
    rw [Nat.zero_add, World.ownsRow.cellAt h j (by omega)]
    simp [bs, hj]

theorem below_grown {w w' : World} (h : Below w.heap.size w w') (row : Option Nat) : w.grownBy w' row := ⟨h.os, h.tape, h.output, h.size, fun k hk _ => h.block k hk⟩

theorem OwnB.below {w w' : World} {base : Nat} {v : Value} {L : List Nat} (h : OwnB w base v L) (hb : Below w.heap.size w w') : OwnB w' base v L :=
  World.ownsRow.kept h (below_grown hb none) (by cases hv : v.ownBlock <;> simp)

theorem below_of_grown {base : Nat} {w w' : World} {v : Value} {L : List Nat} (h : OwnB w base v L) (hbase : base ≤ w.heap.size) (hg : w.grownBy w' v.ownBlock) : Below base w w' :=
  (Below.refl _ _).grown hg hbase (fun k hk => (World.ownsRow.lt h k hk).1)

theorem wpList_append_bytes {w : World} {ops : Array Oper} {rest : List Oper} {o : Oper} {a : Act} {Q : Exit → Act → World → Prop} (hgd : o.guard = none) (s x : Operand)
    (ho : o.op = .call { callee := .builtin .append, args := #[s, x], argTypes := #[25, 25] })
    (base : Nat) (v : Value) (M : List Nat) (hs : a.eval s = v) (hown : OwnB w base v M) (u : Value) (L : List Nat) (hx : a.eval x = u) (hu : SeesB w u L)
    (hbytes : M.length + L.length ≤ 140737488355328) (hbase : base ≤ w.heap.size)
    (h : ∀ v' w', OwnB w' base v' (M ++ L) → Below base w w' → wpList Tryd.prog ops Q rest (a.put o.dst v') w') : wpList Tryd.prog ops Q (o :: rest) a w := by
  obtain ⟨i0, hi0, hz0, hz1, hz2⟩ := info_parts Tryd.info5
  have hu0 := hu
  obtain ⟨ao, cap, rfl, h1, h2, h3⟩ := hu
  cases ao with
  | none =>
    have hL : L = [] := by
      cases L with
      | nil => rfl
      | cons y L => obtain ⟨_, _, hc, _⟩ := h3 0 (by simp); cases hc
    subst hL
    have := h1.2 rfl
    subst this
    refine wpList_append_own_none hgd s x 25 ho base 5 i0 1 Tryd.underlying25 hi0 v _ _ hs hown hx ?_
    exact h v w (by rw [List.append_nil]; exact hown) (Below.refl _ _)
  | some ad =>
    refine wpList_append_own w hgd s x 25 ho base 5 i0 (.int .u8 0) 1 1 Tryd.underlying25 hi0 hz0 hz1 hz2 rfl (by decide) v _ _ hs hown ad L.length cap (bs L) hx (by simp [bs]) ?_ ?_ ?_ (by omega) hbase ?_
    · intro j q hj
      have hjl : j < L.length := by
        have := (List.getElem?_eq_some_iff.1 hj).1; simpa [bs] using this
      obtain ⟨g, off, hc, hg, hcell, _⟩ := h3 j hjl
      simp at hc; subst hc
      have e : (⟨g, off, none⟩ : Addr).add j = ⟨g, off + j, none⟩ := by
        rcases Nat.eq_zero_or_pos j with rfl | h0
        · simp [Addr.add]
        · simp [Addr.add]; omega
      rw [e, hcell]
      simp [bs, hjl] at hj
      rw [hj]
    · intro q hq
      obtain ⟨y, _, rfl⟩ := List.mem_map.1 hq
      rfl
    · unfold maxLen; omega
    · intro v' w' ho' hg _
      exact h v' w' (by unfold OwnB; rw [List.length_append, show bs (M ++ L) = bs M ++ bs L by simp [bs]]; exact ho') (below_of_grown hown hbase hg)

theorem flat_take_le {Ls : List (List Nat)} {k : Nat} : (Ls.take k).flatten.length ≤ Ls.flatten.length := by
  conv => rhs; rw [← List.take_append_drop k Ls, List.flatten_append, List.length_append]
  omega

end Go.Proofs.YtcboenmmkaochaaDoor.N

namespace Go.Proofs.YtcboenmmkaochaaDoor.N
open Go.ChangeShapes Go.WideShapes Go.ChangeAt Go.RowKit
set_option maxHeartbeats 400000
set_option maxRecDepth 100000

theorem sees_one {w : World} {n : Nat} (hn : w.heap.size = n) (x : Nat) (hx : x < 256) (t : TypeId) : SeesB (w.alloc (.cells #[.int .u8 (x : Int)] t)) (.slice (some ⟨n, 0, none⟩) 1 1) [x] := by
  subst hn
  refine ⟨some ⟨w.heap.size, 0, none⟩, 1, rfl, ⟨by simp, fun h => by cases h⟩, by unfold maxLen; omega, fun j hj => ⟨w.heap.size, 0, rfl, by simp, ?_, ?_⟩⟩
  · match j, hj with
    | 0, _ => simp
  · match j, hj with
    | 0, _ => exact hx

theorem sees_two {w : World} {n : Nat} (hn : w.heap.size = n) (x y : Nat) (hx : x < 256) (hy : y < 256) (t : TypeId) : SeesB (w.alloc (.cells #[.int .u8 (x : Int), .int .u8 (y : Int)] t)) (.slice (some ⟨n, 0, none⟩) 2 2) [x, y] := by
  subst hn
  refine ⟨some ⟨w.heap.size, 0, none⟩, 2, rfl, ⟨by simp, fun h => by cases h⟩, by unfold maxLen; omega, fun j hj => ⟨w.heap.size, 0, rfl, by simp, ?_, ?_⟩⟩
  · match j, hj with
    | 0, _ => simp
    | 1, _ => simp
  · match j, hj with
    | 0, _ => exact hx
    | 1, _ => exact hy

theorem OwnB.alloc {w : World} {base : Nat} {v : Value} {L : List Nat} (h : OwnB w base v L) (o : Obj) : OwnB (w.alloc o) base v L :=
  h.below ((Below.refl _ _).alloc (Nat.le_refl _) _)

theorem OwnB.mono {w : World} {b b' : Nat} {v : Value} {L : List Nat} (h : OwnB w b v L) (hb : b' ≤ b) : OwnB w b' v L := by
  refine ⟨h.1, ?_⟩
  rcases h.2 with h | ⟨g, cap, cur, h1, h2, h3⟩
  · exact .inl h
  · exact .inr ⟨g, cap, cur, h1, by omega, h3⟩

end Go.Proofs.YtcboenmmkaochaaDoor.N

namespace Go.Proofs.YtcboenmmkaochaaDoor.N
open Go.ChangeShapes Go.WideShapes Go.ChangeAt Go.RowKit
set_option maxHeartbeats 400000
set_option maxRecDepth 100000

/-- A packet's header: what its fields hold. -/
structure Hd where
  tos : Nat
  id : Nat
  df : Bool
  mf : Bool
  off : Int
  ttl : Nat
  proto : Nat
  src : Nat
  dst : Nat
  opts : List Nat

structure Hd.Ok (h : Hd) : Prop where
  tos : h.tos < 256
  id : h.id < 65536
  off : -9223372036854775808 ≤ h.off ∧ h.off ≤ 9223372036854775807
  ttl : h.ttl < 256
  proto : h.proto < 256
  src : h.src < 4294967296
  dst : h.dst < 4294967296

def hdCells (h : Hd) (vo : Value) : Array Value := #[.int .u8 (h.tos : Int), .int .u16 (h.id : Int), .bool h.df, .bool h.mf, .int .i64 h.off, .int .u8 (h.ttl : Int), .int .u8 (h.proto : Int), .int .u32 (h.src : Int), .int .u32 (h.dst : Int), vo]

/-- The word of flags and offset. -/
def flagW (df mf : Bool) (f : Nat) : Nat := f / 8 + (if df then 16384 else 0) + (if mf then 8192 else 0)

def hdBytes (h : Hd) (len sum : Nat) : List Nat :=
  [69 + h.opts.length / 4, h.tos, len / 256, len % 256, h.id / 256, h.id % 256, flagW h.df h.mf h.off.toNat / 256, flagW h.df h.mf h.off.toNat % 256, h.ttl, h.proto, sum / 256, sum % 256,
   h.src / 65536 / 256, h.src / 65536 % 256, h.src % 65536 / 256, h.src % 65536 % 256, h.dst / 65536 / 256, h.dst / 65536 % 256, h.dst % 65536 / 256, h.dst % 65536 % 256] ++ h.opts

theorem hd_at {u : World} {n : Nat} {h : Hd} {vo : Value} {t : TypeId} (hb : u.heap[n]? = some (.cells (hdCells h vo) t)) :
    u.cell? ⟨n, 0, none⟩ = some (.int .u8 (h.tos : Int)) ∧ u.cell? ⟨n, 1, none⟩ = some (.int .u16 (h.id : Int)) ∧ u.cell? ⟨n, 2, none⟩ = some (.bool h.df) ∧ u.cell? ⟨n, 3, none⟩ = some (.bool h.mf) ∧ u.cell? ⟨n, 4, none⟩ = some (.int .i64 h.off) ∧
    u.cell? ⟨n, 5, none⟩ = some (.int .u8 (h.ttl : Int)) ∧ u.cell? ⟨n, 6, none⟩ = some (.int .u8 (h.proto : Int)) ∧ u.cell? ⟨n, 7, none⟩ = some (.int .u32 (h.src : Int)) ∧ u.cell? ⟨n, 8, none⟩ = some (.int .u32 (h.dst : Int)) ∧ u.cell? ⟨n, 9, none⟩ = some vo := by
  refine ⟨?_, ?_, ?_, ?_, ?_, ?_, ?_, ?_, ?_, ?_⟩ <;> (rw [cell_of_row u _ _ _ _ _ hb]; rfl)

end Go.Proofs.YtcboenmmkaochaaDoor.N

namespace Go.Proofs.YtcboenmmkaochaaDoor.N.M

/-- How many bytes the first option of the rest of an area has, 0 if it is none. -/
def opt : List Nat → Nat
  | [] => 0
  | [x] => if x = 1 then 1 else 0
  | x :: y :: t => if x = 1 then 1 else if y < 2 ∨ t.length + 2 < y then 0 else y

/-- How many bytes are read at the head of the rest of an area; none: it is no area. -/
def nxt (r : List Nat) : Option Nat :=
  if r.head? = some 0 then (if r.all (· == 0) then some r.length else none) else if opt r = 0 then none else some (opt r)

theorem nxt_pos {r : List Nat} {k : Nat} (h : nxt r = some k) (hr : r ≠ []) : 0 < k := by
  unfold nxt at h
  split at h
  · split at h
    · simp at h; subst h; exact List.length_pos_iff.2 hr
    · cases h
  · split at h
    · cases h
    · simp at h; omega

theorem opt_le (r : List Nat) : opt r ≤ r.length := by
  match r with
  | [] => simp [opt]
  | [x] => simp only [opt]; split <;> simp
  | x :: y :: t => simp only [opt, List.length_cons]; split <;> (try split) <;> omega

theorem nxt_le {r : List Nat} {k : Nat} (h : nxt r = some k) : k ≤ r.length := by
  unfold nxt at h
  split at h
  · split at h
    · simp at h; omega
    · cases h
  · split at h
    · cases h
    · simp at h; have := opt_le r; omega

def okO (r : List Nat) : Bool :=
  if _hr : r = [] then true
  else match _h : nxt r with
    | none => false
    | some k => okO (r.drop k)
termination_by r.length
decreasing_by
  have h1 := nxt_pos _h _hr
  have h2 := List.length_pos_iff.2 _hr
  rw [List.length_drop]; omega

theorem okO_nil : okO [] = true := by rw [okO]; simp

theorem okO_none {r : List Nat} (hr : r ≠ []) (h : nxt r = none) : okO r = false := by
  rw [okO, dif_neg hr]
  split
  · rfl
  · rename_i k hk; rw [h] at hk; cases hk

theorem okO_some {r : List Nat} {k : Nat} (hr : r ≠ []) (h : nxt r = some k) : okO r = okO (r.drop k) := by
  rw [okO, dif_neg hr]
  split
  · rename_i hk; rw [h] at hk; cases hk
  · rename_i k' hk; rw [h] at hk; cases hk; rfl

def area (o : List Nat) : Bool := decide (o.length ≤ 40) && decide (o.length % 4 = 0) && okO o

/-- The place behind the option at i; -1: none may stand there. -/
def behI (o : List Nat) (i : Nat) : Int := match nxt (o.drop i) with
  | none => -1
  | some k => (i : Int) + (k : Int)

theorem behI_none {o : List Nat} {i : Nat} (h : nxt (o.drop i) = none) : behI o i = -1 := by unfold behI; rw [h]
theorem behI_some {o : List Nat} {i k : Nat} (h : nxt (o.drop i) = some k) : behI o i = (i : Int) + (k : Int) := by unfold behI; rw [h]

theorem nxt_one (t : List Nat) : nxt (1 :: t) = some 1 := by
  cases t <;> simp [nxt, opt]

theorem nxt_zero_ok {t : List Nat} (h : (0 :: t).all (· == 0) = true) : nxt (0 :: t) = some (0 :: t).length := by
  unfold nxt; rw [if_pos (by simp), if_pos h]

theorem nxt_zero_no {t : List Nat} (h : (0 :: t).all (· == 0) = false) : nxt (0 :: t) = none := by
  unfold nxt; rw [if_pos (by simp), if_neg (by rw [h]; simp)]

theorem nxt_last {x : Nat} (h0 : x ≠ 0) (h1 : x ≠ 1) : nxt [x] = none := by
  unfold nxt; rw [if_neg (by simp [h0])]; simp [opt, h1]

theorem nxt_bad {x y : Nat} {t : List Nat} (h0 : x ≠ 0) (h1 : x ≠ 1) (h : y < 2 ∨ t.length + 2 < y) : nxt (x :: y :: t) = none := by
  have e : opt (x :: y :: t) = 0 := by simp only [opt]; rw [if_neg h1, if_pos h]
  unfold nxt; rw [if_neg (by simp [h0]), if_pos e]

theorem nxt_good {x y : Nat} {t : List Nat} (h0 : x ≠ 0) (h1 : x ≠ 1) (h : ¬ (y < 2 ∨ t.length + 2 < y)) : nxt (x :: y :: t) = some y := by
  have e : opt (x :: y :: t) = y := by simp only [opt]; rw [if_neg h1, if_neg h]
  unfold nxt; rw [if_neg (by simp [h0]), if_neg (by rw [e]; omega), e]

def pieceOk (off : Int) (n : Nat) (more : Bool) : Bool :=
  decide (0 ≤ off) && decide (off ≤ 65528) && decide (off % 8 = 0) && decide (off + n ≤ 65535) && (!more || (decide (0 < n) && decide (n % 8 = 0)))

end Go.Proofs.YtcboenmmkaochaaDoor.N.M

namespace Go.Proofs.YtcboenmmkaochaaDoor.N
open Go.ChangeShapes Go.WideShapes Go.ChangeAt Go.RowKit
set_option maxHeartbeats 400000
set_option maxRecDepth 100000

theorem drop_at {L : List Nat} {i x : Nat} (h : L[i]? = some x) : L.drop i = x :: L.drop (i + 1) := by
  obtain ⟨hi, rfl⟩ := List.getElem?_eq_some_iff.1 h
  exact List.drop_eq_getElem_cons hi

def msr (n : Nat) (i : Int) : Nat := if i < 0 then 0 else n + 1 - i.toNat
theorem msr_neg {n : Nat} : msr n (-1) = 0 := rfl
theorem msr_pos {n : Nat} {i : Int} (h : 0 ≤ i) : msr n i = n + 1 - i.toNat := by unfold msr; rw [if_neg (by omega)]

end Go.Proofs.YtcboenmmkaochaaDoor.N

namespace Go.Proofs.YtcboenmmkaochaaDoor.N
open Go.ChangeShapes Go.WideShapes Go.ChangeAt Go.RowKit
set_option maxHeartbeats 400000
set_option maxRecDepth 100000

def pkCells (h : Hd) (vo vb : Value) : Array Value := #[.int .u8 (h.tos : Int), .int .u16 (h.id : Int), .bool h.df, .bool h.mf, .int .i64 h.off, .int .u8 (h.ttl : Int), .int .u8 (h.proto : Int), .int .u32 (h.src : Int), .int .u32 (h.dst : Int), vo, vb]

def refE (h : Hd) (nb : Nat) : Int := if M.area h.opts then (if M.pieceOk h.off nb h.mf then (if 20 + h.opts.length + nb ≤ 65535 then 0 else 37) else 36) else 34

theorem pk_at {u : World} {n : Nat} {h : Hd} {vo vb : Value} {t : TypeId} (hb : u.heap[n]? = some (.cells (pkCells h vo vb) t)) (i : Nat) (hi : i < 11) : u.cell? ⟨n, i, none⟩ = some ((pkCells h vo vb)[i]'hi) := by
  rw [cell_of_row u _ _ _ _ _ hb, Array.getElem?_eq_getElem hi]

theorem und29 : ∃ fs, Tryd.prog.underlying 29 = some (.struct fs) := ⟨_, Tryd.underlying29⟩
theorem und27 : ∃ fs, Tryd.prog.underlying 27 = some (.struct fs) := ⟨_, Tryd.underlying27⟩

theorem pk_load {u : World} {n : Nat} {h : Hd} {vo vb : Value} {t : TypeId} (hb : u.heap[n]? = some (.cells (pkCells h vo vb) t)) : (Instr.loadAt 29 (.pointer (some ⟨n, 0, none⟩))).run Tryd.prog u = .ok (.agg (pkCells h vo vb)) u := by
  obtain ⟨fs, hu⟩ := und29
  refine run_loadAt_mid u n 0 29 (pkCells h vo vb).toList (.struct fs) (fun j v hv => ?_) hu rfl (by rw [show (Tryd.prog.info? 29).map (·.size) = some 11 from by kernel_rfl]; rfl)
  have hj : j < 11 := (List.getElem?_eq_some_iff.1 hv).1
  rw [Nat.zero_add, pk_at hb j hj]
  rw [List.getElem?_eq_getElem hj] at hv
  exact hv

theorem pk_loadH {u : World} {n : Nat} {h : Hd} {vo vb : Value} {t : TypeId} (hb : u.heap[n]? = some (.cells (pkCells h vo vb) t)) : (Instr.loadAt 27 (.pointer (some ⟨n, 0, none⟩))).run Tryd.prog u = .ok (.agg (hdCells h vo)) u := by
  obtain ⟨fs, hu⟩ := und27
  refine run_loadAt_mid u n 0 27 (hdCells h vo).toList (.struct fs) (fun j v hv => ?_) hu rfl (by rw [show (Tryd.prog.info? 27).map (·.size) = some 10 from by kernel_rfl]; rfl)
  have hj : j < 10 := (List.getElem?_eq_some_iff.1 hv).1
  rw [Nat.zero_add, pk_at hb j (by omega)]
  have e : ∀ j (hj : j < 10), (hdCells h vo).toList[j]? = some ((pkCells h vo vb)[j]'(Nat.lt_of_lt_of_le hj (show 10 ≤ 11 by decide))) := by
    intro j hj
    match j, hj with
    | 0, _ => rfl
    | 1, _ => rfl
    | 2, _ => rfl
    | 3, _ => rfl
    | 4, _ => rfl
    | 5, _ => rfl
    | 6, _ => rfl
    | 7, _ => rfl
    | 8, _ => rfl
    | 9, _ => rfl
  rw [e j hj] at hv
  exact hv

/-- The step that reads a struct whole, guarded or not. -/
theorem wpList_ld {ops : Array Oper} {Q : Exit → Act → World → Prop} {a : Act} {w : World} {rest : List Oper} {o : Oper} {v : Value} (T : TypeId) (p : Addr) (x : Operand) (ho : o.op = .load T x) (hx : a.eval x = .pointer (some p))
    (hr : (Instr.loadAt T (.pointer (some p))).run Tryd.prog w = .ok v w) (hw : Region.wanted o (yielded ops a.tmps) = true) (h : wpList Tryd.prog ops Q rest (a.put o.dst v) w) : wpList Tryd.prog ops Q (o :: rest) a w := by
  refine wpList_step fun K hK => ?_
  rw [if_pos hw]
  unfold Oper.wp execOp
  simp only [ho, hx, Sem.run_bind, hr, Result.andThen_ok, Sem.run_pure]
  exact hK _ _ h

end Go.Proofs.YtcboenmmkaochaaDoor.N

namespace Go.Proofs.YtcboenmmkaochaaDoor.N
open Go.ChangeShapes Go.WideShapes Go.ChangeAt Go.RowKit
set_option maxHeartbeats 400000
set_option maxRecDepth 100000

def lenOfPk (h : Hd) (B : List Nat) : Nat := 20 + h.opts.length + B.length

def builtL (h : Hd) (B : List Nat) : List Nat := if refE h B.length = 0 then hdBytes h (lenOfPk h B) (M.csum (hdBytes h (lenOfPk h B) 0)) ++ B else []

theorem refE_ok {h : Hd} {nb : Nat} (e : refE h nb = 0) : M.area h.opts = true ∧ M.pieceOk h.off nb h.mf = true ∧ 20 + h.opts.length + nb ≤ 65535 := by
  unfold refE at e
  split at e
  · rename_i h1
    split at e
    · rename_i h2
      split at e
      · rename_i h3; exact ⟨h1, h2, h3⟩
      · cases e
    · cases e
  · cases e

theorem area_len {o : List Nat} (h : M.area o = true) : o.length ≤ 40 ∧ o.length % 4 = 0 := by
  unfold M.area at h; simp at h; exact h.1

theorem piece_off {off : Int} {n : Nat} {m : Bool} (h : M.pieceOk off n m = true) : ∃ f : Nat, off = (f : Int) ∧ f ≤ 65528 ∧ f % 8 = 0 := by
  unfold M.pieceOk at h; simp at h
  exact ⟨off.toNat, by omega, by omega, by omega⟩

theorem hdBytes_ok {h : Hd} (hok : h.Ok) (ho : ∀ x ∈ h.opts, x < 256) (hl : h.opts.length ≤ 40) {f : Nat} (hf : h.off = (f : Int)) (hf1 : f ≤ 65528) {len sum : Nat} (h1 : len < 65536) (h2 : sum < 65536) : ∀ x ∈ hdBytes h len sum, x < 256 := by
  obtain ⟨k1, k2, k3, k4, k5, k6, k7⟩ := hok
  have hW : flagW h.df h.mf h.off.toNat < 65536 := by rw [hf, Int.toNat_natCast]; unfold flagW; split <;> split <;> omega
  generalize hw : flagW h.df h.mf h.off.toNat = W at *
  intro x hx
  unfold hdBytes at hx
  rw [hw, List.mem_append] at hx
  rcases hx with hx | hx
  · simp only [List.mem_cons, List.not_mem_nil, or_false] at hx
    rcases hx with rfl | rfl | rfl | rfl | rfl | rfl | rfl | rfl | rfl | rfl | rfl | rfl | rfl | rfl | rfl | rfl | rfl | rfl | rfl | rfl <;> omega
  · exact ho x hx

theorem hdBytes_len (h : Hd) (len sum : Nat) : (hdBytes h len sum).length = 20 + h.opts.length := by
  unfold hdBytes; rw [List.length_append]; rfl

theorem seesBB_one {w : World} {n : Nat} (hn : w.heap.size = n) (v : Value) (L : List Nat) (hv : SeesB w v L) (t : TypeId) : SeesBB (w.alloc (.cells #[v] t)) (.slice (some ⟨n, 0, none⟩) 1 1) [L] := by
  subst hn
  refine ⟨some ⟨w.heap.size, 0, none⟩, 1, rfl, by simp, by unfold maxLen; omega, fun j hj => ⟨w.heap.size, 0, v, rfl, by simp, ?_, ?_⟩⟩
  · match j, hj with
    | 0, _ => simp
  · match j, hj with
    | 0, _ => exact hv.below ((Below.refl _ _).alloc (Nat.le_refl _) _)

theorem ret_two {a b : Value} {k : IntKind} {i j : Int} (h : i = j) (g : a = b) : Ending.returned (.tuple #[a, .int k i]) = .returned (.tuple #[b, .int k j]) := by rw [h, g]

end Go.Proofs.YtcboenmmkaochaaDoor.N

namespace Go.Proofs.YtcboenmmkaochaaDoor.N
open Go.ChangeShapes Go.WideShapes Go.ChangeAt Go.RowKit
set_option maxHeartbeats 400000
set_option maxRecDepth 100000

def Z58 : Array Value := #[.int .i64 0, .slice none 0 0, .slice none 0 0, .int .u16 0, .int .u16 0, .int .u16 0, .int .u8 0, .int .u16 0, .bool false, .bool false, .int .i64 0, .int .u8 0, .int .u8 0, .int .u32 0, .int .u32 0, .slice none 0 0, .slice none 0 0]

theorem below_setCells {B b : Nat} {a : World} (hb : B ≤ b) : ∀ (vs : List Value) (o : Nat) (w : World), Below B a w → Below B a (w.setCells b o vs)
  | [], _, _, h => h
  | v :: vs, o, w, h => by
    rw [World.setCells]
    exact below_setCells hb vs (o + 1) _ (h.setCell (p := ⟨b, o, none⟩) hb v)

theorem range_below {w w' : World} {b o : Nat} {cs : List Value} (h : w.rangeAt b o cs) (hb : Below w.heap.size w w') : w'.rangeAt b o cs := fun j v hv => by
  have := h j v hv
  exact (hb.cell (p := ⟨b, o + j, none⟩) (World.block_lt_of_cell? w _ this)).trans this

/-- The cells of a step, and its kind. -/
structure StepIs (cs : List Value) (k : Int) : Prop where
  len : cs.length = 17
  kind : cs[0]? = some (.int .i64 k)
  one : ∀ v ∈ cs, v.oneCell' = true
  lo : -9223372036854775808 ≤ k
  hi : k ≤ 9223372036854775807

/-- The slice value v shows the steps L. -/
def SeesO (w : World) (v : Value) (L : List (List Value × Int)) : Prop :=
  ∃ ao cap, v = .slice ao L.length cap ∧ L.length ≤ cap ∧ cap ≤ maxLen ∧
    ∀ j (h : j < L.length), StepIs L[j].1 L[j].2 ∧ ∃ g off, ao = some ⟨g, off, none⟩ ∧ g < w.heap.size ∧ w.rangeAt g (off + j * 17) L[j].1

end Go.Proofs.YtcboenmmkaochaaDoor.N

namespace Go.Proofs.YtcboenmmkaochaaDoor.N
open Go.ChangeShapes Go.WideShapes Go.ChangeAt Go.RowKit
set_option maxHeartbeats 400000
set_option maxRecDepth 100000

def opL (k : Int) (vy vp : Value) (x y z : Nat) (h : Hd) (vo vb : Value) : List Value :=
  [.int .i64 k, vy, vp, .int .u16 (x : Int), .int .u16 (y : Int), .int .u16 (z : Int), .int .u8 (h.tos : Int), .int .u16 (h.id : Int), .bool h.df, .bool h.mf, .int .i64 h.off, .int .u8 (h.ttl : Int), .int .u8 (h.proto : Int), .int .u32 (h.src : Int), .int .u32 (h.dst : Int), vo, vb]

theorem blk_at {u : World} {n : Nat} {cs : List Value} {t : TypeId} (hb : u.heap[n]? = some (.cells cs.toArray t)) : u.rangeAt n 0 cs := fun j v hv => by
  rw [Nat.zero_add, cell_of_row u _ _ _ _ _ hb]; simpa using hv

theorem blk_new (w : World) (cs : List Value) (t : TypeId) : (w.alloc (.cells cs.toArray t)).heap[w.heap.size]? = some (.cells cs.toArray t) := heap_alloc_new w _

end Go.Proofs.YtcboenmmkaochaaDoor.N

namespace Go.Proofs.YtcboenmmkaochaaDoor.N
open Go.ChangeShapes Go.WideShapes Go.ChangeAt Go.RowKit
set_option maxRecDepth 100000

theorem cell1_5 : Tryd.prog.cellsOf 5 = 1 := by kernel_rfl
theorem cell1_22 : Tryd.prog.cellsOf 22 = 1 := by kernel_rfl
theorem cell1_3 : Tryd.prog.cellsOf 3 = 1 := by kernel_rfl
theorem cell1_4 : Tryd.prog.cellsOf 4 = 1 := by kernel_rfl
theorem cell1_24 : Tryd.prog.cellsOf 24 = 1 := by kernel_rfl
theorem cell1_25 : Tryd.prog.cellsOf 25 = 1 := by kernel_rfl
theorem cell1_56 : Tryd.prog.cellsOf 86 = 1 := by kernel_rfl
theorem cells27 : Tryd.prog.cellsOf 27 = 10 := by kernel_rfl
theorem cells29 : Tryd.prog.cellsOf 29 = 11 := by kernel_rfl
theorem bytes5 : Tryd.prog.bytesOf 5 = 1 := by kernel_rfl
theorem u56 : Tryd.prog.underlying 86 = some (.slice 25) := by kernel_rfl
theorem u25 : Tryd.prog.underlying 25 = some (.slice 5) := by kernel_rfl
theorem u5 : Tryd.prog.underlying 5 = some (.int .u8) := by kernel_rfl
theorem u22 : Tryd.prog.underlying 22 = some (.int .u16) := by kernel_rfl
theorem u24 : Tryd.prog.underlying 24 = some (.int .u32) := by kernel_rfl
theorem u3 : Tryd.prog.underlying 3 = some (.int .i64) := by kernel_rfl
theorem u4 : Tryd.prog.underlying 4 = some .bool := by kernel_rfl
theorem u29 : ∃ f0 f1, Tryd.prog.underlying 29 = some (.struct #[f0, f1]) ∧ f0.type = 27 ∧ f0.offset = 0 ∧ f1.type = 25 ∧ f1.offset = 10 := ⟨_, _, Tryd.underlying29, rfl, rfl, rfl, rfl⟩
theorem u27 : ∃ f0 f1 f2 f3 f4 f5 f6 f7 f8 f9, Tryd.prog.underlying 27 = some (.struct #[f0, f1, f2, f3, f4, f5, f6, f7, f8, f9]) ∧ f0.type = 5 ∧ f0.offset = 0 ∧ f1.type = 22 ∧ f1.offset = 1 ∧ f2.type = 4 ∧ f2.offset = 2 ∧ f3.type = 4 ∧ f3.offset = 3 ∧ f4.type = 3 ∧ f4.offset = 4 ∧ f5.type = 5 ∧ f5.offset = 5 ∧ f6.type = 5 ∧ f6.offset = 6 ∧ f7.type = 24 ∧ f7.offset = 7 ∧ f8.type = 24 ∧ f8.offset = 8 ∧ f9.type = 25 ∧ f9.offset = 9 :=
  ⟨_, _, _, _, _, _, _, _, _, _, Tryd.underlying27, rfl, rfl, rfl, rfl, rfl, rfl, rfl, rfl, rfl, rfl, rfl, rfl, rfl, rfl, rfl, rfl, rfl, rfl, rfl, rfl⟩
theorem wf_u8 {a : Int} (h : (Lit.int .u8 a).wf = true) : ∃ n : Nat, a = (n : Int) ∧ n < 256 := by
  have h' : (decide (IntKind.u8.min ≤ a) && decide (a ≤ IntKind.u8.max)) = true := h
  rw [show IntKind.u8.min = 0 from by decide +kernel, show IntKind.u8.max = 255 from by decide +kernel] at h'
  simp at h'
  exact ⟨a.toNat, by omega, by omega⟩
theorem wf_u16 {a : Int} (h : (Lit.int .u16 a).wf = true) : ∃ n : Nat, a = (n : Int) ∧ n < 65536 := by
  have h' : (decide (IntKind.u16.min ≤ a) && decide (a ≤ IntKind.u16.max)) = true := h
  rw [show IntKind.u16.min = 0 from by decide +kernel, show IntKind.u16.max = 65535 from by decide +kernel] at h'
  simp at h'
  exact ⟨a.toNat, by omega, by omega⟩
theorem wf_u32 {a : Int} (h : (Lit.int .u32 a).wf = true) : ∃ n : Nat, a = (n : Int) ∧ n < 4294967296 := by
  have h' : (decide (IntKind.u32.min ≤ a) && decide (a ≤ IntKind.u32.max)) = true := h
  rw [show IntKind.u32.min = 0 from by decide +kernel, show IntKind.u32.max = 4294967295 from by decide +kernel] at h'
  simp at h'
  exact ⟨a.toNat, by omega, by omega⟩
theorem wf_i64 {a : Int} (h : (Lit.int .i64 a).wf = true) : -9223372036854775808 ≤ a ∧ a ≤ 9223372036854775807 := by
  have h' : (decide (IntKind.i64.min ≤ a) && decide (a ≤ IntKind.i64.max)) = true := h
  rw [show IntKind.i64.min = -9223372036854775808 from by decide +kernel, show IntKind.i64.max = 9223372036854775807 from by decide +kernel] at h'
  simpa using h'

theorem spot_none {W : World} {a : Addr} {v : Value} (z0 : W.cell? a = some v) : ∃ g off, a = ⟨g, off, none⟩ ∧ g < W.heap.size := by
  have hlt := World.block_lt_of_cell? W a z0
  obtain ⟨g, off, sp⟩ := a
  cases sp with
  | none => exact ⟨g, off, rfl, hlt⟩
  | some s =>
    exfalso
    simp only [World.cell?] at z0
    split at z0 <;> simp at z0

theorem bulk_one {H : Type} (d : DataW H) : 1 ≤ Rows.uptoBulk d := by
  cases d with
  | lit l => cases l <;> simp [Rows.uptoBulk]
  | nil => simp [Rows.uptoBulk]
  | ptr d => simp [Rows.uptoBulk]
  | slice elems spare => simp [Rows.uptoBulk]
  | agg parts => simp [Rows.uptoBulk]
  | iface t d => simp [Rows.uptoBulk]
  | map entries => simp [Rows.uptoBulk]
  | held h => simp [Rows.uptoBulk]

theorem bulk_part {H : Type} {d : DataW H} {l : List (DataW H)} (h : d ∈ l) : Rows.uptoBulk d ≤ Rows.uptoBulkAll l := by
  induction l with
  | nil => cases h
  | cons x r ih =>
    simp only [Rows.uptoBulkAll]
    rcases List.mem_cons.1 h with rfl | h
    · omega
    · have := ih h; omega

theorem bulk_len {H : Type} (l : List (DataW H)) : l.length ≤ Rows.uptoBulkAll l := by
  induction l with
  | nil => simp
  | cons x r ih => have := bulk_one x; simp only [Rows.uptoBulkAll, List.length_cons]; omega

theorem bulk_flat {H : Type} (D : Nat → DataW H) (F : Nat → List Nat) (l : List Nat) (h : ∀ i ∈ l, (F i).length ≤ Rows.uptoBulk (D i)) : (l.map F).flatten.length ≤ Rows.uptoBulkAll (l.map D) := by
  induction l with
  | nil => simp
  | cons x r ih =>
    have h1 := h x List.mem_cons_self
    have h2 := ih (fun i hi => h i (List.mem_cons_of_mem _ hi))
    simp only [List.map_cons, List.flatten_cons, List.length_append, Rows.uptoBulkAll]
    omega

theorem weights_all {H : Type} {P : Program} {e : TypeId} : ∀ {ds : List (DataW H)} {d : DataW H}, d ∈ ds → ∀ n ∈ d.weights P e, n ∈ DataW.weightsAll P e ds
  | a :: t, d, hd, n, hn => by
    simp only [DataW.weightsAll, List.mem_append]
    rcases List.mem_cons.1 hd with rfl | h
    · exact .inl hn
    · exact .inr (weights_all h n hn)

section
variable {H : Type} {enc : TypeId × Value → H} {W : World}

/-- How long a list is, against what was read of it. -/
structure Fits (x : DataW H) (t : TypeId) (n : Nat) : Prop where
  bulk : n ≤ Rows.uptoBulk x
  room : (∀ k ∈ x.weights Tryd.prog t, k ≤ reachBytes) → n ≤ reachBytes

/-- A list of bytes that came in, within another thing. -/
theorem open_bytes {fuel : Nat} {cs : List Value} {x : DataW H × List MemPlace} (hf : DataW.trod enc Tryd.prog W 0 (fun _ => true) true fuel 25 cs = some x) :
    ∃ v L, cs = [v] ∧ SeesB W v L ∧ Fits x.1 25 L.length ∧ v.oneCell' = true := by
  rcases Go.Deep.open_slice u25 hf with ⟨h1, hx⟩ | ⟨a, len, cap, m, n, D, Pl, h1, _, hlc, hcm, hm, hxx, hx⟩
  · subst hx
    exact ⟨_, [], h1, sees_nil W, ⟨by simp, fun _ => by simp⟩, rfl⟩
  · simp at hm
    subst hm
    have key : ∀ i, i < len → ∃ y : Nat, y < 256 ∧ W.cell? (a.add i) = some (.int .u8 (y : Int)) := by
      intro i hi
      obtain ⟨cs', k1, k2⟩ := hx i (by omega)
      rw [cell1_5, Nat.mul_one] at k1
      obtain ⟨_, _, hc⟩ := World.cells?_some k1
      obtain ⟨z, e1, _, wf⟩ := DataW.trod_int u5 k2
      obtain ⟨y, rfl, hy⟩ := wf_u8 wf
      refine ⟨y, hy, ?_⟩
      have := hc 0 (by omega)
      rw [e1] at this
      simpa [Addr.add] using this
    have hch : ∃ F : Nat → Nat, ∀ i, i < len → F i < 256 ∧ W.cell? (a.add i) = some (.int .u8 ((F i : Nat) : Int)) := by
      refine ⟨fun i => if h : i < len then (key i h).choose else 0, fun i hi => ?_⟩
      simp only [dif_pos hi]
      exact (key i hi).choose_spec
    obtain ⟨F, hF⟩ := hch
    refine ⟨_, (List.range len).map F, h1, ⟨some a, m, by simp, ⟨by simpa using hlc, fun h => by cases h⟩, hcm, fun j hj => ?_⟩, ?_, rfl⟩
    · have hj' : j < len := by simpa using hj
      obtain ⟨g, off, rfl, hg⟩ : ∃ g off, a = ⟨g, off, none⟩ ∧ g < W.heap.size := by
        have z0 := (hF 0 (by omega)).2
        have e : a.add 0 = a := by simp [Addr.add]
        rw [e] at z0
        exact spot_none z0
      have y0 := (hF j hj').2
      rw [Addr.add_mid] at y0
      exact ⟨g, off, rfl, hg, by rw [y0]; simp, by simpa using (hF j hj').1⟩
    · subst hxx
      refine ⟨?_, fun hw => ?_⟩
      · simp only [List.length_map, List.length_range, Rows.uptoBulk]
        have := bulk_len ((List.range len).map D)
        simp only [List.length_map, List.length_range] at this
        omega
      · have := hw ((((List.range len).map D).length + ((List.range (m - len)).map fun j => D (len + j)).length) * Tryd.prog.bytesOf 5) (by simp [DataW.weights])
        rw [bytes5] at this
        simp only [List.length_map, List.length_range] at this ⊢
        omega

/-- A list of lists of bytes that came in, within another thing. -/
theorem open_bb {fuel : Nat} {cs : List Value} {x : DataW H × List MemPlace} (hf : DataW.trod enc Tryd.prog W 0 (fun _ => true) true fuel 86 cs = some x) :
    ∃ v Ls, cs = [v] ∧ SeesBB W v Ls ∧ Ls.flatten.length ≤ Rows.uptoBulk x.1 ∧ v.oneCell' = true := by
  rcases Go.Deep.open_slice u56 hf with ⟨h1, hx⟩ | ⟨a, len, cap, m, n, D, Pl, h1, _, hlc, hcm, hm, hxx, hx⟩
  · subst hx
    exact ⟨_, [], h1, ⟨none, 0, rfl, by simp, by unfold maxLen; omega, fun j h => absurd h (by simp)⟩, by simp, rfl⟩
  · simp at hm
    subst hm
    have key : ∀ i, i < len → ∃ vl : Value × List Nat, vl.2.length ≤ Rows.uptoBulk (D i) ∧ SeesB W vl.1 vl.2 ∧ W.cell? (a.add i) = some vl.1 := by
      intro i hi
      obtain ⟨cs', k1, k2⟩ := hx i (by omega)
      rw [cell1_25, Nat.mul_one] at k1
      obtain ⟨_, _, hc⟩ := World.cells?_some k1
      obtain ⟨v, L, e1, hs, hfit, _⟩ := open_bytes k2
      refine ⟨(v, L), hfit.bulk, hs, ?_⟩
      have := hc 0 (by omega)
      rw [e1] at this
      simpa [Addr.add] using this
    have hch : ∃ F : Nat → Value × List Nat, ∀ i, i < len → (F i).2.length ≤ Rows.uptoBulk (D i) ∧ SeesB W (F i).1 (F i).2 ∧ W.cell? (a.add i) = some (F i).1 := by
      refine ⟨fun i => if h : i < len then (key i h).choose else (undef, []), fun i hi => ?_⟩
      simp only [dif_pos hi]
      exact (key i hi).choose_spec
    obtain ⟨F, hF⟩ := hch
    refine ⟨_, (List.range len).map (fun i => (F i).2), h1, ⟨some a, m, by simp, by simpa using hlc, hcm, fun j hj => ?_⟩, ?_, rfl⟩
    · have hj' : j < len := by simpa using hj
      obtain ⟨g, off, rfl, hg⟩ : ∃ g off, a = ⟨g, off, none⟩ ∧ g < W.heap.size := by
        have z0 := (hF 0 (by omega)).2.2
        have e : a.add 0 = a := by simp [Addr.add]
        rw [e] at z0
        exact spot_none z0
      have y0 := (hF j hj').2.2
      rw [Addr.add_mid] at y0
      exact ⟨g, off, (F j).1, rfl, hg, y0, by simpa using (hF j hj').2.1⟩
    · subst hxx
      have := bulk_flat D (fun i => (F i).2) (List.range len) (fun i hi => (hF i (by simpa using hi)).1)
      simp only [Rows.uptoBulk]
      omega

/-- A header that reads. -/
theorem open_hd {fuel : Nat} {cs : List Value} {x : DataW H × List MemPlace} (h : DataW.trod enc Tryd.prog W 0 (fun _ => true) true fuel 27 cs = some x) :
    ∃ (hd : Hd) (vo : Value), cs = (hdCells hd vo).toList ∧ hd.Ok ∧ SeesB W vo hd.opts ∧ Fits x.1 27 hd.opts.length ∧ vo.oneCell' = true := by
  obtain ⟨f0, f1, f2, f3, f4, f5, f6, f7, f8, f9, hu, t0, o0, t1, o1, t2, o2, t3, o3, t4, o4, t5, o5, t6, o6, t7, o7, t8, o8, t9, o9⟩ := u27
  obtain ⟨xs, n, _, rfl, hl, hxl, hf⟩ := DataW.trod_struct hu h
  match xs, hxl with
  | [y0, y1, y2, y3, y4, y5, y6, y7, y8, y9], _ =>
    have g0 := hf 0 f0 rfl
    have g1 := hf 1 f1 rfl
    have g2 := hf 2 f2 rfl
    have g3 := hf 3 f3 rfl
    have g4 := hf 4 f4 rfl
    have g5 := hf 5 f5 rfl
    have g6 := hf 6 f6 rfl
    have g7 := hf 7 f7 rfl
    have g8 := hf 8 f8 rfl
    have g9 := hf 9 f9 rfl
    rw [t0, o0, cell1_5] at g0
    rw [t1, o1, cell1_22] at g1
    rw [t2, o2, cell1_4] at g2
    rw [t3, o3, cell1_4] at g3
    rw [t4, o4, cell1_3] at g4
    rw [t5, o5, cell1_5] at g5
    rw [t6, o6, cell1_5] at g6
    rw [t7, o7, cell1_24] at g7
    rw [t8, o8, cell1_24] at g8
    rw [t9, o9, cell1_25] at g9
    rw [cells27] at hl
    obtain ⟨z0, e0, _, w0⟩ := DataW.trod_int u5 g0
    obtain ⟨tos, rfl, h0⟩ := wf_u8 w0
    obtain ⟨z1, e1, _, w1⟩ := DataW.trod_int u22 g1
    obtain ⟨id, rfl, h1⟩ := wf_u16 w1
    obtain ⟨df, e2, _⟩ := DataW.trod_bool u4 g2
    obtain ⟨mf, e3, _⟩ := DataW.trod_bool u4 g3
    obtain ⟨off, e4, _, w4⟩ := DataW.trod_int u3 g4
    obtain ⟨z5, e5, _, w5⟩ := DataW.trod_int u5 g5
    obtain ⟨ttl, rfl, h5⟩ := wf_u8 w5
    obtain ⟨z6, e6, _, w6⟩ := DataW.trod_int u5 g6
    obtain ⟨proto, rfl, h6⟩ := wf_u8 w6
    obtain ⟨z7, e7, _, w7⟩ := DataW.trod_int u24 g7
    obtain ⟨src, rfl, h7⟩ := wf_u32 w7
    obtain ⟨z8, e8, _, w8⟩ := DataW.trod_int u24 g8
    obtain ⟨dst, rfl, h8⟩ := wf_u32 w8
    obtain ⟨vo, opts, e9, hs, hfit, ho⟩ := open_bytes g9
    refine ⟨⟨tos, id, df, mf, off, ttl, proto, src, dst, opts⟩, vo, ?_, ⟨h0, h1, wf_i64 w4, h5, h6, h7, h8⟩, hs, ⟨?_, fun hw => ?_⟩, ho⟩
    · match cs, hl with
      | [c0, c1, c2, c3, c4, c5, c6, c7, c8, c9], _ =>
        simp at e0 e1 e2 e3 e4 e5 e6 e7 e8 e9
        simp [hdCells, e0, e1, e2, e3, e4, e5, e6, e7, e8, e9]
    · simp only [List.map_cons, List.map_nil, Rows.uptoBulk, Rows.uptoBulkAll]
      have := hfit.bulk
      omega
    · refine hfit.room fun k hk => hw k ?_
      simp only [DataW.weights, hu]
      exact DataW.weights_mem_each (j := 9) (t := 25) (d := y9.1) (by simp [t9]) rfl _ hk

/-- A packet that reads. -/
theorem open_pk {fuel : Nat} {cs : List Value} {x : DataW H × List MemPlace} (h : DataW.trod enc Tryd.prog W 0 (fun _ => true) true fuel 29 cs = some x) :
    ∃ (hd : Hd) (vo vb : Value) (B : List Nat), cs = (pkCells hd vo vb).toList ∧ hd.Ok ∧ SeesB W vo hd.opts ∧ SeesB W vb B ∧ Fits x.1 29 hd.opts.length ∧ Fits x.1 29 B.length ∧ vo.oneCell' = true ∧ vb.oneCell' = true := by
  obtain ⟨f0, f1, hu, t0, o0, t1, o1⟩ := u29
  obtain ⟨xs, n, _, rfl, hl, hxl, hf⟩ := DataW.trod_struct hu h
  match xs, hxl with
  | [y0, y1], _ =>
    have g0 := hf 0 f0 rfl
    have g1 := hf 1 f1 rfl
    rw [t0, o0, cells27] at g0
    rw [t1, o1, cell1_25] at g1
    rw [cells29] at hl
    obtain ⟨hd, vo, e0, hok, hs, hfit, ho⟩ := open_hd g0
    obtain ⟨vb, B, e1, hsb, hfb, hob⟩ := open_bytes g1
    refine ⟨hd, vo, vb, B, ?_, hok, hs, hsb, ⟨?_, fun hw => ?_⟩, ⟨?_, fun hw => ?_⟩, ho, hob⟩
    · match cs, hl with
      | [c0, c1, c2, c3, c4, c5, c6, c7, c8, c9, c10], _ =>
        simp [hdCells] at e0 e1
        obtain ⟨rfl, rfl, rfl, rfl, rfl, rfl, rfl, rfl, rfl, rfl⟩ := e0
        simp [pkCells, e1]
    · simp only [List.map_cons, List.map_nil, Rows.uptoBulk, Rows.uptoBulkAll]
      have := hfit.bulk
      omega
    · refine hfit.room fun k hk => hw k ?_
      simp only [DataW.weights, hu]
      exact DataW.weights_mem_each (j := 0) (t := 27) (d := y0.1) (by simp [t0]) rfl _ hk
    · simp only [List.map_cons, List.map_nil, Rows.uptoBulk, Rows.uptoBulkAll]
      have := hfb.bulk
      omega
    · refine hfb.room fun k hk => hw k ?_
      simp only [DataW.weights, hu]
      exact DataW.weights_mem_each (j := 1) (t := 25) (d := y1.1) (by simp [t1]) rfl _ hk

/-- What a step holds. -/
structure OpD where
  k : Int
  vy : Value
  By : List Nat
  vp : Value
  Ls : List (List Nat)
  x : Nat
  y : Nat
  z : Nat
  h : Hd
  vo : Value
  vb : Value
  B : List Nat

def OpD.cells (o : OpD) : List Value := opL o.k o.vy o.vp o.x o.y o.z o.h o.vo o.vb

structure OpD.Ok (o : OpD) (W : World) (lim : Nat) : Prop where
  klo : -9223372036854775808 ≤ o.k
  khi : o.k ≤ 9223372036854775807
  vy : SeesB W o.vy o.By
  vp : SeesBB W o.vp o.Ls
  x : o.x < 65536
  y : o.y < 65536
  z : o.z < 65536
  h : o.h.Ok
  vo : SeesB W o.vo o.h.opts
  vb : SeesB W o.vb o.B
  one : ∀ v ∈ o.cells, v.oneCell' = true
  ly : o.By.length ≤ reachBytes
  lo : o.h.opts.length ≤ reachBytes
  lb : o.B.length ≤ reachBytes
  lp : o.Ls.flatten.length ≤ lim

end
end Go.Proofs.YtcboenmmkaochaaDoor.N

namespace Go.Proofs.YtcboenmmkaochaaDoor.N
open Go.ChangeShapes Go.WideShapes Go.ChangeAt Go.RowKit
set_option maxHeartbeats 400000
set_option maxRecDepth 100000

/-- A cut 'x[:m]': its address is kept a letter. -/
theorem SeesB.high {w : World} {ao : Option Addr} {n cap : Nat} {L : List Nat} (h : SeesB w (.slice ao n cap) L) (m : Nat) (i : Int) (hi : i = m) (hm : m ≤ n) :
    ∃ ao', Hid (SeesB w (.slice ao' m cap) (L.take m)) ∧ ∀ u : World, (Instr.sliceAt 25 (.slice ao n cap) none (some (.int .i64 i)) none).run Tryd.prog u = .ok (.slice ao' m cap) u := by
  subst hi
  have h0 := h
  obtain ⟨ao1, cap1, hv, h1, h2, h3⟩ := h
  simp at hv
  obtain ⟨rfl, hlen, rfl⟩ := hv
  refine ⟨ao, ?_, fun u => ?_⟩
  · refine ⟨ao, cap, by rw [List.length_take]; congr 1; omega, ⟨by rw [List.length_take]; omega, h1.2⟩, h2, fun j hj => ?_⟩
    rw [List.length_take] at hj
    obtain ⟨g, off, ha, hg, hc, hb⟩ := h3 j (by omega)
    exact ⟨g, off, ha, hg, by rw [List.getElem_take]; exact hc, by rw [List.getElem_take]; exact hb⟩
  · have hu : Tryd.prog.underlying 25 = some (.slice (Tryd.prog.elem 25)) := by kernel_rfl
    have hsz : (sizeOf (Tryd.prog.elem 25)).run Tryd.prog u = .ok 1 u := by kernel_rfl
    rw [run_sliceAt_slice (h := hu), run_slice_h (ht := hu) (h0 := by omega) (h2 := by omega), hsz]
    simp [Result.andThen, sliced]
    intro _
    cases ao <;> simp [Addr.add]

theorem optionSize_any (v : Value) (L : List Nat) (w : World) (hv : SeesB w v L) (hne : L ≠ []) (hl : L.length ≤ 1099511627776) :
    Calls Tryd.prog 54 #[v] w fun e w' => e = .returned (.int .i64 ((M.opt L : Nat) : Int)) ∧ w' = w := by
  obtain ⟨ao, n, cap, rfl, HN, hn1, hn2⟩ := hv.shape
  unfold maxLen at hn2
  obtain ⟨R, hR⟩ : ∃ R, R = M.opt L := ⟨_, rfl⟩
  have HR := hid hR
  rw [← hR]
  clear hR
  match L, hne with
  | x :: t, _ =>
    have hn0 : 0 < n := by have := HN.out; simp at this; omega
    obtain ⟨g, off, x', rfl, hg, hc, hx, HX⟩ := hv.at 0 hn0
    have hxe : x' = x := by have := HX.out; simpa using this.symm
    subst hxe
    rw [Nat.add_zero] at hc
    by_cases h1 : x' = 1
    · have HE : Hid (R = 1) := by unfold Hid; rw [HR.out, h1]; cases t <;> simp [M.opt]
      have hq : ((x' : Int) == 1) = true := by simp [h1]
      clear h1 hv HX
      go_enter Tryd.func54, Tryd.ntmps54
      go_wp2_with fail
      go_ret
      exact ⟨ret_int (by rw [HE.out]; rfl), rfl⟩
    · have hq : ((x' : Int) == 1) = false := by simp; omega
      match t with
      | [] =>
        have HE : Hid (R = 0) := by unfold Hid; rw [HR.out]; simp [M.opt, h1]
        obtain rfl : n = 1 := by have := HN.out; simpa using this
        clear h1 hv HX
        go_enter Tryd.func54, Tryd.ntmps54
        go_wp2_with fail
        go_ret
        exact ⟨ret_int (by rw [HE.out]; rfl), rfl⟩
      | y :: t =>
        have hn2' : 2 ≤ n := by have := HN.out; simp at this; omega
        obtain ⟨g', off', y', he, hg', hcy, hy, HY⟩ := hv.at 1 (by omega)
        simp at he
        obtain ⟨rfl, rfl⟩ := he
        have hye : y' = y := by have := HY.out; simpa using this.symm
        subst hye
        have HNT : Hid (t.length + 2 = n) := by have := HN.out; simp at this; unfold Hid; omega
        have hnl : n ≤ 1099511627776 := by have := HNT.out; simp at hl; omega
        by_cases hy2 : y' < 2
        · have HE : Hid (R = 0) := by unfold Hid; rw [HR.out]; simp only [M.opt]; rw [if_neg h1, if_pos (.inl hy2)]
          clear h1 hv HX HY hl
          go_enter Tryd.func54, Tryd.ntmps54
          go_wp2_with fail
          go_ret
          exact ⟨ret_int (by rw [HE.out]; rfl), rfl⟩
        · by_cases hy3 : n < y'
          · have HE : Hid (R = 0) := by unfold Hid; rw [HR.out]; simp only [M.opt]; rw [if_neg h1, if_pos (.inr (by have := HNT.out; omega))]
            clear h1 hv HX HY hl
            go_enter Tryd.func54, Tryd.ntmps54
            go_wp2_with fail
            go_ret
            exact ⟨ret_int (by rw [HE.out]; rfl), rfl⟩
          · have HE : Hid (R = y') := by unfold Hid; rw [HR.out]; simp only [M.opt]; rw [if_neg h1, if_neg (by have := HNT.out; omega)]
            clear h1 hv HX HY hl
            go_enter Tryd.func54, Tryd.ntmps54
            go_wp2_with fail
            go_ret
            exact ⟨ret_int (by rw [HE.out]), rfl⟩

theorem allZero_any (v : Value) (L : List Nat) (w : World) (hv : SeesB w v L) :
    Calls Tryd.prog 55 #[v] w fun e w' => e = .returned (.bool (L.all (· == 0))) ∧ w' = w := by
  obtain ⟨ao, n, cap, rfl, HN, hn1, hn2⟩ := hv.shape
  unfold maxLen at hn2
  obtain ⟨R, hR⟩ : ∃ R, R = L.all (· == 0) := ⟨_, rfl⟩
  have HR := hid hR
  have HV := hid hv
  rw [← hR]
  clear hR hv
  go_enter Tryd.func55, Tryd.ntmps55
  go_wp2_with fail
  go_loop [4, 7] (fun _ i => ∃ k : Nat, i = .int .i64 k ∧ k ≤ n ∧ Hid (∀ m, m < k → L[m]? = some 0)) (fun _ i => n - (intOf i).toNat)
  case atStart => exact ⟨0, rfl, by omega, fun m h => absurd h (by omega)⟩
  case round =>
    obtain ⟨k, rfl, hk, HZ⟩ := hrel
    by_cases hlt : k < n
    · obtain ⟨g, off, y, rfl, hg, hc, hy, HY⟩ := HV.out.at k hlt
      by_cases hy0 : y = 0
      · have hq : ((y : Int) != 0) = false := by simp [hy0]
        have HZ2 : Hid (∀ m, m < k + 1 → L[m]? = some 0) := fun m h2 => by
          by_cases h3 : m < k
          · exact HZ.out m h3
          · rw [show m = k by omega, HY.out, hy0]
        clear hy0
        go_wp2_with fail
        go_round
        case rel => exact ⟨k + 1, by go_num, by omega, HZ2⟩
        case measure => simp [intOf]; omega
      · have hq : ((y : Int) != 0) = true := by simp; omega
        have HE : Hid (R = false) := by
          unfold Hid; rw [HR.out, List.all_eq_false]
          exact ⟨y, List.mem_iff_getElem?.2 ⟨k, HY.out⟩, by simpa using hy0⟩
        clear hy0
        go_wp2_with fail
        go_ret
        exact ⟨ret_bool (by rw [HE.out]), rfl⟩
    · have HE : Hid (R = true) := by
        unfold Hid; rw [HR.out, List.all_eq_true]
        intro z hz
        obtain ⟨m, hm⟩ := List.mem_iff_getElem?.1 hz
        have h3 : m < n := by have := (List.getElem?_eq_some_iff.1 hm).1; have := HN.out; omega
        have h4 := HZ.out m (by omega)
        rw [h4] at hm; simp at hm; simp [← hm]
      go_wp2_with fail
      go_ret
      exact ⟨ret_bool (by rw [HE.out]), rfl⟩

theorem okO_zero {t : List Nat} : M.okO (0 :: t) = (0 :: t).all (· == 0) := by
  cases h : (0 :: t).all (· == 0) with
  | true => rw [M.okO_some (by simp) (M.nxt_zero_ok h), List.drop_length, M.okO_nil]
  | false => exact M.okO_none (by simp) (M.nxt_zero_no h)

theorem okO_step {r : List Nat} (hr : r ≠ []) (h0 : r.head? ≠ some 0) : M.okO r = if M.opt r = 0 then false else M.okO (r.drop (M.opt r)) := by
  by_cases h : M.opt r = 0
  · rw [if_pos h]; exact M.okO_none hr (by unfold M.nxt; rw [if_neg h0, if_pos h])
  · rw [if_neg h]; exact M.okO_some hr (by unfold M.nxt; rw [if_neg h0, if_neg h])

theorem show_any (v : Value) (w : World) : Calls Tryd.prog 43 #[v] w fun e w' => e = .returned (.tuple #[]) ∧ w' = w := by
  go_enter Tryd.func43, Tryd.ntmps43
  go_wp2_with fail
  exact bodyPost_end (results_none Tryd.results43 _ _ _) rfl ⟨rfl, rfl⟩

theorem walkO_any (v : Value) (L : List Nat) (w : World) (hv : SeesB w v L) :
    Calls Tryd.prog 42 #[v, .func (.func 43) #[] #[]] w fun e w' => e = .returned (.bool (M.area L)) ∧ w' = w := by
  obtain ⟨ao, n, cap, rfl, HN, hn1, hn2⟩ := hv.shape
  unfold maxLen at hn2
  have HV := hid hv
  clear hv
  obtain ⟨R, hR⟩ : ∃ R, R = M.area L := ⟨_, rfl⟩
  have HR := hid hR
  rw [← hR]
  clear hR
  by_cases h40 : 40 < n
  · have HE : Hid (R = false) := by
      unfold Hid; rw [HR.out]; unfold M.area; have := HN.out; rw [decide_eq_false (by omega)]; rfl
    go_enter Tryd.func42, Tryd.ntmps42
    go_wp2_with fail
    go_ret
    exact ⟨ret_bool (by rw [HE.out]), rfl⟩
  · by_cases h4 : n % 4 = 0
    · have hq : ((n : Int) % 4 != 0) = false := by simp; omega
      have HA : Hid (R = M.okO L) := by
        unfold Hid; rw [HR.out]; unfold M.area; have := HN.out; rw [decide_eq_true (by omega), decide_eq_true (by omega)]; rfl
      have HN40 : Hid (L.length ≤ 40) := by have := HN.out; unfold Hid; omega
      clear h4 HR
      go_enter Tryd.func42, Tryd.ntmps42
      go_wp2_with fail
      go_loop [0, 5] (fun p _ => ∃ r : List Nat, Hid (SeesB w p r) ∧ Hid (R = M.okO r) ∧ Hid (r.length ≤ 40)) (fun p _ => lenOf p)
      case atStart => exact ⟨L, HV, HA, HN40⟩
      case round =>
        clear HV HN HA HN40 h40
        obtain ⟨r, HV, HA, H40⟩ := hrel
        obtain ⟨ar, nr, capr, rfl, HNR, hr1, hr2⟩ := HV.out.shape
        unfold maxLen at hr2
        by_cases h0 : 0 < nr
        · obtain ⟨g, off, x, rfl, hg, hc, hx, HX⟩ := HV.out.at 0 h0
          rw [Nat.add_zero] at hc
          have hne : r ≠ [] := by intro e; have := HNR.out; rw [e] at this; simp at this; omega
          have hhd : r.head? = some x := by rw [List.head?_eq_getElem?]; exact HX.out
          by_cases hx0 : x = 0
          · have hq2 : ((x : Int) != 0) = false := by simp [hx0]
            have HE : Hid (R = r.all (· == 0)) := by
              unfold Hid; rw [HA.out]
              cases r with
              | nil => exact absurd rfl hne
              | cons y t => simp at hhd; rw [hhd, hx0]; exact okO_zero
            clear hx0 hne hhd
            go_wp2_with fail
            refine (allZero_any _ r _ HV.out).mono ?_
            rintro _ _ ⟨rfl, rfl⟩
            go_wp2_with fail
            go_ret
            exact ⟨ret_bool (by rw [HE.out]), rfl⟩
          · have hq2 : ((x : Int) != 0) = true := by simp; omega
            have hstep := okO_step hne (by rw [hhd]; simp; exact hx0)
            have HC := hid (optionSize_any _ r w HV.out hne (by have := H40.out; omega))
            have hole : M.opt r ≤ nr := by have := M.opt_le r; have := HNR.out; omega
            obtain ⟨z, hz⟩ : ∃ z, z = M.opt r := ⟨_, rfl⟩
            rw [← hz] at hstep HC hole
            by_cases hz0 : z = 0
            · have HE : Hid (R = false) := by unfold Hid; rw [HA.out, hstep, if_pos hz0]
              have hq3 : ((z : Int) == 0) = true := by simp [hz0]
              clear hz hz0 hstep hx0 hne hhd
              go_wp2_with fail
              refine HC.out.mono ?_
              rintro _ _ ⟨rfl, rfl⟩
              go_wp2_with fail
              go_ret
              exact ⟨ret_bool (by rw [HE.out]), rfl⟩
            · have HE : Hid (R = M.okO (r.drop z)) := by unfold Hid; rw [HA.out, hstep, if_neg hz0]
              have hq3 : ((z : Int) == 0) = false := by simp; omega
              have HZ := hid (show 0 < z by omega)
              obtain ⟨ah, HSH, hhigh⟩ := HV.out.high z (z : Int) rfl hole
              obtain ⟨al, HSL, hlow⟩ := HV.out.low z (z : Int) rfl hole
              have HD40 : Hid ((r.drop z).length ≤ 40) := by have := H40.out; unfold Hid; rw [List.length_drop]; omega
              clear hz hz0 hstep hx0 hne hhd
              go_wp2_with fail
              refine HC.out.mono ?_
              rintro _ _ ⟨rfl, rfl⟩
              go_wp2_with fail
              refine (show_any _ _).mono ?_
              rintro _ _ ⟨rfl, rfl⟩
              go_wp2_with fail
              go_round
              case rel => exact ⟨r.drop z, HSL, HE, HD40⟩
              case measure => (have := HZ.out; simp [lenOf]; omega)
        · have HE : Hid (R = r.all (· == 0)) := by
            have h1 : r = [] := List.eq_nil_of_length_eq_zero (by have := HNR.out; omega)
            unfold Hid; rw [HA.out, h1, M.okO_nil]; rfl
          go_wp2_with fail
          refine (allZero_any _ r _ HV.out).mono ?_
          rintro _ _ ⟨rfl, rfl⟩
          go_wp2_with fail
          go_ret
          exact ⟨ret_bool (by rw [HE.out]), rfl⟩
    · have hq : ((n : Int) % 4 != 0) = true := by simp; omega
      have HE : Hid (R = false) := by
        unfold Hid; rw [HR.out]; unfold M.area; have := HN.out; rw [decide_eq_false (p := L.length % 4 = 0) (by omega)]; simp
      clear h4 HR
      go_enter Tryd.func42, Tryd.ntmps42
      go_wp2_with fail
      go_ret
      exact ⟨ret_bool (by rw [HE.out]), rfl⟩

theorem area_code (v : Value) (L : List Nat) (w : World) (hv : SeesB w v L) :
    Calls Tryd.prog 28 #[v] w fun e w' => e = .returned (.bool (M.area L)) ∧ w' = w := by
  go_enter Tryd.func28, Tryd.ntmps28
  go_wp2_with fail
  refine (walkO_any v L w hv).mono ?_
  rintro _ _ ⟨rfl, rfl⟩
  go_wp2_with fail
  go_ret
  exact ⟨rfl, rfl⟩

theorem piece_code (off : Int) (n : Nat) (more : Bool) (w : World) (ho : -9223372036854775808 ≤ off ∧ off ≤ 9223372036854775807) (hn : n ≤ 4611686018427387904) :
    Calls Tryd.prog 29 #[.int .i64 off, .int .i64 n, .bool more] w fun e w' => e = .returned (.bool (M.pieceOk off n more)) ∧ w' = w := by
  obtain ⟨R, hR⟩ : ∃ R, R = M.pieceOk off n more := ⟨_, rfl⟩
  have HR := hid hR
  rw [← hR]
  clear hR
  obtain ⟨ho1, ho2⟩ := ho
  by_cases h1 : off < 0
  · have HE : Hid (R = false) := by
      unfold Hid; rw [HR.out]; unfold M.pieceOk; rw [decide_eq_false (p := 0 ≤ off) (by omega)]; rfl
    go_enter Tryd.func29, Tryd.ntmps29
    go_wp2_with fail
    go_ret
    exact ⟨ret_bool (by rw [HE.out]), rfl⟩
  · by_cases h2 : 65528 < off
    · have HE : Hid (R = false) := by
        unfold Hid; rw [HR.out]; unfold M.pieceOk; rw [decide_eq_false (p := off ≤ 65528) (by omega)]; simp
      go_enter Tryd.func29, Tryd.ntmps29
      go_wp2_with fail
      go_ret
      exact ⟨ret_bool (by rw [HE.out]), rfl⟩
    · by_cases h3 : off % 8 = 0
      · have hq : (off % 8 != 0) = false := by simp [h3]
        by_cases h4 : 65535 - off < n
        · have HE : Hid (R = false) := by
            unfold Hid; rw [HR.out]; unfold M.pieceOk; rw [decide_eq_false (p := off + n ≤ 65535) (by omega)]; simp
          clear h3
          go_enter Tryd.func29, Tryd.ntmps29
          go_wp2_with fail
          go_ret
          exact ⟨ret_bool (by rw [HE.out]), rfl⟩
        · have HE : Hid (R = (!more || (decide (0 < n) && decide (n % 8 = 0)))) := by
            unfold Hid; rw [HR.out]; unfold M.pieceOk; rw [decide_eq_true (p := 0 ≤ off) (by omega), decide_eq_true (p := off ≤ 65528) (by omega), decide_eq_true h3, decide_eq_true (p := off + n ≤ 65535) (by omega)]; simp
          clear h3
          cases more with
          | false =>
            go_enter Tryd.func29, Tryd.ntmps29
            go_wp2_with fail
            go_ret
            exact ⟨ret_bool (by rw [HE.out]; rfl), rfl⟩
          | true =>
            by_cases h5 : 0 < n
            · by_cases h6 : n % 8 = 0
              · have hq2 : ((n : Int) % 8 == 0) = true := by simp; omega
                have HE2 : Hid (R = true) := by unfold Hid; rw [HE.out]; simp [h5, h6]
                clear h6
                go_enter Tryd.func29, Tryd.ntmps29
                go_wp2_with fail
                go_ret
                exact ⟨ret_bool (by rw [HE2.out]), rfl⟩
              · have hq2 : ((n : Int) % 8 == 0) = false := by simp; omega
                have HE2 : Hid (R = false) := by unfold Hid; rw [HE.out]; simp [h6]
                clear h6
                go_enter Tryd.func29, Tryd.ntmps29
                go_wp2_with fail
                go_ret
                exact ⟨ret_bool (by rw [HE2.out]), rfl⟩
            · obtain rfl : n = 0 := by omega
              have HE2 : Hid (R = false) := by unfold Hid; rw [HE.out]; simp
              go_enter Tryd.func29, Tryd.ntmps29
              go_wp2_with fail
              go_ret
              exact ⟨ret_bool (by rw [HE2.out]), rfl⟩
      · have hq : (off % 8 != 0) = true := by simp; omega
        have HE : Hid (R = false) := by
          unfold Hid; rw [HR.out]; unfold M.pieceOk; rw [decide_eq_false h3]; simp
        clear h3
        go_enter Tryd.func29, Tryd.ntmps29
        go_wp2_with fail
        go_ret
        exact ⟨ret_bool (by rw [HE.out]), rfl⟩
end Go.Proofs.YtcboenmmkaochaaDoor.N

namespace Go.Proofs.YtcboenmmkaochaaDoor.N
open Go.ChangeShapes Go.WideShapes Go.ChangeAt Go.RowKit
set_option maxHeartbeats 400000
set_option maxRecDepth 100000

theorem and_bit (f k : Nat) : f &&& 2 ^ k = 2 ^ k * (f / 2 ^ k % 2) := by
  apply Nat.eq_of_testBit_eq
  intro i
  rw [Nat.testBit_and, Nat.testBit_two_pow, Nat.testBit_two_pow_mul]
  have e : f / 2 ^ k % 2 = f / 2 ^ k % 2 ^ 1 := rfl
  rw [e, Nat.testBit_mod_two_pow, Nat.testBit_div_two_pow]
  by_cases h : k = i
  · subst h; simp
  · by_cases g : k < i
    · have h1 : ¬ i - k < 1 := by omega
      simp [h, h1]
    · have h1 : ¬ i ≥ k := by omega
      simp [h, h1]

theorem and_u16_bit (f k : Nat) (hf : f < 65536) (hk : k < 16) : bits .and .u16 (f : Int) ((2 ^ k : Nat) : Int) = ((2 ^ k * (f / 2 ^ k % 2) : Nat) : Int) := by
  have h1 : 2 ^ k < 65536 := by
    have := Nat.pow_lt_pow_right (a := 2) (by omega) hk
    simpa using this
  rw [u16_and_nat f (2 ^ k) hf h1, and_bit]

theorem and_u16_mask (f : Nat) (hf : f < 65536) : bits .and .u16 (f : Int) 8191 = ((f % 8192 : Nat) : Int) := by
  have := u16_and_nat f 8191 hf (by decide)
  rw [show (f &&& 8191) = f % 8192 from Nat.and_two_pow_sub_one_eq_mod f 13] at this
  exact this

theorem and_u8_mask (f : Nat) (hf : f < 256) : bits .and .u8 (f : Int) 15 = ((f % 16 : Nat) : Int) := by
  have := u8_and_nat f 15 hf (by decide)
  rw [show (f &&& 15) = f % 16 from Nat.and_two_pow_sub_one_eq_mod f 4] at this
  exact this

theorem or_u32 (x y : Nat) (hx : x < 65536) (hy : y < 65536) : bits .or .u32 ((x * 65536 : Nat) : Int) (y : Int) = ((x * 65536 + y : Nat) : Int) := by
  rw [u32_or_nat (x * 65536) y (by omega) (by omega)]
  congr 1
  have := Nat.two_pow_add_eq_or_of_lt (i := 16) (b := y) (by omega) x
  rw [Nat.mul_comm x 65536]
  exact this.symm

def byt (L : List Nat) (i : Nat) : Nat := L.getD i 0
def w16 (L : List Nat) (i : Nat) : Nat := byt L i * 256 + byt L (i + 1)
def w32 (L : List Nat) (i : Nat) : Nat := w16 L i * 65536 + w16 L (i + 2)

theorem byt_some {L : List Nat} {i x : Nat} (h : L[i]? = some x) : byt L i = x := by unfold byt; rw [List.getD_eq_getElem?_getD, h]; rfl

theorem byt_lt {L : List Nat} (h : ∀ x ∈ L, x < 256) (i : Nat) : byt L i < 256 := by
  unfold byt
  rw [List.getD_eq_getElem?_getD]
  cases e : L[i]? with
  | none => simp
  | some x => simpa using h x (List.mem_of_getElem? e)

theorem w16_lt {L : List Nat} (h : ∀ x ∈ L, x < 256) (i : Nat) : w16 L i < 65536 := by
  have h1 := byt_lt h i
  have h2 := byt_lt h (i + 1)
  unfold w16; omega

theorem SeesB.atB {w : World} {ao : Option Addr} {n cap : Nat} {L : List Nat} (h : SeesB w (.slice ao n cap) L) (j : Nat) (hj : j < n) : ∃ (g off : Nat), ao = some ⟨g, off, none⟩ ∧ g < w.heap.size ∧ w.cell? ⟨g, off + j, none⟩ = some (.int .u8 ((byt L j : Nat) : Int)) := by
  obtain ⟨g, off, p, ha, hg, hc, hp, HP⟩ := h.at j hj
  exact ⟨g, off, ha, hg, by rw [hc, byt_some HP.out]⟩

theorem below_drewN {B : Nat} {a w : World} (h : Below B a w) (n : Nat) : Below B a (w.drewN n) := ⟨h.os, h.tape, h.output, h.size, h.block⟩

/-- Two bytes at a slice's head: one draw. -/
theorem read16_x (v : Value) (L : List Nat) (w : World) (hv : SeesB w v L) (hl : 2 ≤ L.length) :
    Calls Tryd.prog 52 #[v] w fun e w' => e = .returned (.int .u16 ((w16 L 0 : Nat) : Int)) ∧ w' = w.drew := by
  obtain ⟨ao, n, cap, rfl, HN, hn1, hn2⟩ := hv.shape
  have h2 : 2 ≤ n := by have := HN.out; omega
  obtain ⟨g, off, rfl, hg, hc0⟩ := hv.atB 0 (by omega)
  obtain ⟨g', off', he, hg', hc1⟩ := hv.atB 1 (by omega)
  simp at he
  obtain ⟨rfl, rfl⟩ := he
  have hp := byt_lt hv.bytes 0
  have hq := byt_lt hv.bytes 1
  have HR : Hid (bits .or .u16 ((byt L 0 * 256 : Nat) : Int) (byt L 1 : Int) = ((w16 L 0 : Nat) : Int)) := by unfold Hid; rw [or_u16 _ _ hp hq]; rfl
  generalize w16 L 0 = r at *
  generalize byt L 0 = p at *
  generalize byt L 1 = q at *
  clear hv
  rw [Nat.add_zero] at hc0
  have b0 : 0 < n := by omega
  have b1 : 1 < n := by omega
  go_enter Tryd.func52, Tryd.ntmps52
  go_wp2
  go_region
  go_wp2
  go_ret
  exact ⟨ret_int (by rw [← HR.out]; simp), rfl⟩

theorem w16_drop (L : List Nat) (i j : Nat) : w16 (L.drop i) j = w16 L (i + j) := by
  unfold w16 byt
  simp only [List.getD_eq_getElem?_getD, List.getElem?_drop, Nat.add_assoc]

theorem offset_any (f : Nat) (w : World) (hf : f < 65536) :
    Calls Tryd.prog 60 #[.int .u16 (f : Int)] w fun e w' => e = .returned (.int .i64 ((f % 8192 * 8 : Nat) : Int)) ∧ w' = w := by
  have hA := and_u16_mask f hf
  have h1 : f % 8192 < 8192 := Nat.mod_lt _ (by decide)
  generalize f % 8192 = g at *
  go_enter Tryd.func60, Tryd.ntmps60
  go_wp2_with fail
  go_ret
  exact ⟨ret_int (by simp), rfl⟩

theorem sees_drew {w : World} {v : Value} {L : List Nat} (h : SeesB w v L) : SeesB w.drew v L := h.below (below_drew (Below.refl _ _))

end Go.Proofs.YtcboenmmkaochaaDoor.N

namespace Go.Proofs.YtcboenmmkaochaaDoor.N
open Go.ChangeShapes Go.WideShapes Go.ChangeAt Go.RowKit
set_option maxHeartbeats 400000
set_option maxRecDepth 100000

/-- The block g holds the bytes X. -/
def Blk (w : World) (g : Nat) (X : List Nat) : Prop := w.heap[g]? = some (.cells (bs X).toArray 5 (0, 0))

theorem Blk.lt {w : World} {g : Nat} {X : List Nat} (h : Blk w g X) : g < w.heap.size := (Array.getElem?_eq_some_iff.1 h).1

theorem Blk.cell {w : World} {g : Nat} {X : List Nat} (h : Blk w g X) (i : Nat) (hi : i < X.length) : w.cell? ⟨g, i, none⟩ = some (.int .u8 ((byt X i : Nat) : Int)) := by
  rw [cell_of_row _ _ _ _ _ _ h]
  simp [bs, byt, hi]

theorem Blk.free {w : World} {g : Nat} {X : List Nat} (h : Blk w g X) (i : Nat) : w.frozen? ⟨g, i, none⟩ = false := frozen_of_row _ _ _ _ _ h

theorem Blk.set {w : World} {g : Nat} {X : List Nat} (h : Blk w g X) (i x : Nat) : Blk (w.setCell ⟨g, i, none⟩ (.int .u8 (x : Int))) g (X.set i x) := by
  unfold Blk at *
  simp only [World.setCell, Array.getElem?_modify, h]
  simp [bs, List.map_set]

/-- All but the block g stands as it did. -/
structure But (g : Nat) (w w' : World) : Prop where
  os : w'.os = w.os
  tape : w'.tape = w.tape
  output : w'.output = w.output
  size : w.heap.size ≤ w'.heap.size
  block : ∀ i, i < w.heap.size → i ≠ g → w'.heap[i]? = w.heap[i]?

theorem But.refl (g : Nat) (w : World) : But g w w := ⟨rfl, rfl, rfl, Nat.le_refl _, fun _ _ _ => rfl⟩
theorem But.trans {g : Nat} {a b c : World} (h1 : But g a b) (h2 : But g b c) : But g a c :=
  ⟨h2.os.trans h1.os, h2.tape.trans h1.tape, h2.output.trans h1.output, Nat.le_trans h1.size h2.size, fun i hi hn => (h2.block i (Nat.lt_of_lt_of_le hi h1.size) hn).trans (h1.block i hi hn)⟩
theorem But.set (g i : Nat) (w : World) (v : Value) : But g w (w.setCell ⟨g, i, none⟩ v) := ⟨rfl, rfl, rfl, by simp [World.setCell], fun j _ hn => by simp [World.setCell, Array.getElem?_modify, Ne.symm hn]⟩
theorem But.drew {g : Nat} {w w' : World} (h : But g w w') : But g w w'.drew := ⟨h.os, h.tape, h.output, h.size, h.block⟩
theorem But.below {g : Nat} {w w' w0 : World} {B : Nat} (h : But g w w') (hb : Below B w0 w) (hB : B ≤ w.heap.size) (hg : B ≤ g) : Below B w0 w' :=
  ⟨h.os.trans hb.os, h.tape.trans hb.tape, h.output.trans hb.output, Nat.le_trans hb.size h.size, fun i hi => (h.block i (by omega) (by omega)).trans (hb.block i hi)⟩

theorem write16_any (g off n cap x : Nat) (X : List Nat) (w : World) (hB : Blk w g X) (hn : 2 ≤ n) (ho : off + n ≤ X.length) (hx : x < 65536) :
    Calls Tryd.prog 44 #[.slice (some ⟨g, off, none⟩) n cap, .int .u16 (x : Int)] w fun e w' => e = .returned (.tuple #[]) ∧ Blk w' g ((X.set off (x / 256)).set (off + 1) (x % 256)) ∧ But g w w' := by
  have c0 := hB.cell off (by omega)
  have c1 := hB.cell (off + 1) (by omega)
  have f0 := hB.free off
  have f1 := hB.free (off + 1)
  have HR : Hid (Blk ((w.setCell ⟨g, off, none⟩ (.int .u8 ((x / 256 : Nat) : Int))).setCell ⟨g, off + 1, none⟩ (.int .u8 ((x % 256 : Nat) : Int))) g ((X.set off (x / 256)).set (off + 1) (x % 256)) ∧ But g w ((w.setCell ⟨g, off, none⟩ (.int .u8 ((x / 256 : Nat) : Int))).setCell ⟨g, off + 1, none⟩ (.int .u8 ((x % 256 : Nat) : Int)))) := ⟨(hB.set _ _).set _ _, (But.set _ _ _ _).trans (But.set _ _ _ _)⟩
  generalize byt X off = y0 at c0
  generalize byt X (off + 1) = y1 at c1
  have hne : ¬ off + 1 = off := by omega
  have hne' : ¬ off = off + 1 := by omega
  clear hB
  go_enter Tryd.func44, Tryd.ntmps44
  go_wp2_with fail
  have e0 : ((x / 256 : Nat) : Int) = (x : Int) / 256 := by omega
  have e1 : ((x % 256 : Nat) : Int) = (x : Int) % 256 := by omega
  rw [e0, e1] at HR
  exact bodyPost_end (results_none Tryd.results44 _ _ _) rfl ⟨rfl, HR.out.1, HR.out.2⟩

/-- A cut 'b[m:]' of which something is left room for. -/
theorem cut_at (g off n cap m : Nat) (i : Int) (hi : i = m) (hm : m ≤ n) (hmc : m < cap) (u : World) : (Instr.sliceAt 25 (.slice (some ⟨g, off, none⟩) n cap) (some (.int .i64 i)) none none).run Tryd.prog u = .ok (.slice (some ⟨g, off + m, none⟩) (n - m) (cap - m)) u := by
  subst hi
  have hu : Tryd.prog.underlying 25 = some (.slice (Tryd.prog.elem 25)) := by kernel_rfl
  have hsz : (sizeOf (Tryd.prog.elem 25)).run Tryd.prog u = .ok 1 u := by kernel_rfl
  rw [run_sliceAt_slice (h := hu), run_slice_l (ht := hu) (h0 := by omega) (h1 := by omega), hsz]
  have hne : ¬ cap = m := by omega
  simp [Result.andThen, sliced, hne, Addr.add_mid]

theorem write32_any (g off n cap x : Nat) (X : List Nat) (w : World) (hB : Blk w g X) (hn : 4 ≤ n) (hc : n ≤ cap) (ho : off + n ≤ X.length) (hx : x < 4294967296) (_hX : X.length ≤ 1099511627776) :
    Calls Tryd.prog 46 #[.slice (some ⟨g, off, none⟩) n cap, .int .u32 (x : Int)] w fun e w' => e = .returned (.tuple #[]) ∧ Blk w' g ((((X.set off (x / 65536 / 256)).set (off + 1) (x / 65536 % 256)).set (off + 2) (x % 65536 / 256)).set (off + 3) (x % 65536 % 256)) ∧ But g w w' := by
  have H1 := hid (write16_any g off n cap (x / 65536) X w hB (by omega) ho (by omega))
  have H2 : Hid (∀ (Y : List Nat) (u : World), Blk u g Y → Y.length = X.length → Calls Tryd.prog 44 #[.slice (some ⟨g, off + 2, none⟩) (n - 2) (cap - 2), .int .u16 ((x % 65536 : Nat) : Int)] u fun e w' => e = .returned (.tuple #[]) ∧ Blk w' g ((Y.set (off + 2) (x % 65536 / 256)).set (off + 2 + 1) (x % 65536 % 256)) ∧ But g u w') := fun Y u hY hl => write16_any g (off + 2) (n - 2) (cap - 2) (x % 65536) Y u hY (by omega) (by omega) (by omega)
  have hcut := cut_at g off n cap 2 2 rfl (by omega) (by omega)
  have e0 : ((x / 65536 : Nat) : Int) = (x : Int) / 65536 := by omega
  have e1 : ((x % 65536 : Nat) : Int) = (x : Int) % 65536 := by omega
  rw [e0] at H1
  rw [e1] at H2
  clear hB
  go_enter Tryd.func46, Tryd.ntmps46
  go_wp2_with fail
  refine H1.out.mono ?_
  rintro _ w2 ⟨rfl, hb2, hu2⟩
  go_wp2_with fail
  refine (H2.out _ _ hb2 (by simp)).mono ?_
  rintro _ w3 ⟨rfl, hb3, hu3⟩
  go_wp2_with fail
  exact bodyPost_end (results_none Tryd.results46 _ _ _) rfl ⟨rfl, hb3, hu2.trans hu3⟩
end Go.Proofs.YtcboenmmkaochaaDoor.N

namespace Go.Proofs.YtcboenmmkaochaaDoor.N
open Go.ChangeShapes Go.WideShapes Go.ChangeAt Go.RowKit
set_option maxHeartbeats 400000
set_option maxRecDepth 100000

theorem or_14 (a : Nat) (ha : a < 16384) : bits .or .u16 (a : Int) 16384 = ((a + 16384 : Nat) : Int) := by
  have := u16_or_nat a 16384 (by omega) (by omega)
  rw [show ((16384 : Nat) : Int) = 16384 from rfl] at this
  rw [this]
  congr 1
  have h := Nat.two_pow_add_eq_or_of_lt (i := 14) (b := a) (by omega) 1
  rw [Nat.or_comm]
  have h' : 16384 + a = 16384 ||| a := h
  omega

theorem or_13 (a : Nat) (ha : a < 8192) (k : Nat) (hk : k < 2) : bits .or .u16 ((a + k * 16384 : Nat) : Int) 8192 = ((a + k * 16384 + 8192 : Nat) : Int) := by
  have := u16_or_nat (a + k * 16384) 8192 (by omega) (by omega)
  rw [show ((8192 : Nat) : Int) = 8192 from rfl] at this
  rw [this]
  congr 1
  have h1 := Nat.two_pow_add_eq_or_of_lt (i := 13) (b := a) (by omega) 1
  have h2 := Nat.two_pow_add_eq_or_of_lt (i := 13) (b := a) (by omega) (2 * k)
  have h3 := Nat.two_pow_add_eq_or_of_lt (i := 13) (b := a) (by omega) (2 * k + 1)
  rw [show a + k * 16384 = 2 ^ 13 * (2 * k) + a by omega, h2, show 2 ^ 13 * (2 * k) ||| a ||| 8192 = (2 ^ 13 * (2 * k) ||| 8192) ||| a by rw [Nat.or_assoc, Nat.or_comm a, ← Nat.or_assoc]]
  rw [show 2 ^ 13 * (2 * k) ||| 8192 = 2 ^ 13 * (2 * k + 1) from by
    rcases Nat.lt_or_ge k 1 with h | h
    · obtain rfl : k = 0 := by omega
      decide
    · obtain rfl : k = 1 := by omega
      decide]
  rw [← h3, ← h2]
  omega

theorem frag_any (h : Hd) (vo : Value) (f : Nat) (w : World) (hf : h.off = (f : Int)) (hf1 : f ≤ 65528) :
    Calls Tryd.prog 45 #[.agg (hdCells h vo)] w fun e w' => e = .returned (.int .u16 ((flagW h.df h.mf f : Nat) : Int)) ∧ w' = w.alloc (.cells (hdCells h vo) 27) := by
  obtain ⟨tos, id, df, mf, off, ttl, proto, src, dst, opts⟩ := h
  simp only at hf
  subst hf
  unfold hdCells
  simp only
  have h14 := or_14 (f / 8) (by omega)
  have h13a := or_13 (f / 8) (by omega) 0 (by omega)
  have h13b := or_13 (f / 8) (by omega) 1 (by omega)
  rw [show ((f / 8 : Nat) : Int) = (f : Int) / 8 by omega] at h14
  rw [show ((f / 8 + 0 * 16384 : Nat) : Int) = (f : Int) / 8 by omega] at h13a
  rw [show ((f / 8 + 1 * 16384 : Nat) : Int) = (f : Int) / 8 + 16384 by omega] at h13b
  have HE : Hid (flagW df mf f = f / 8 + (if df then 16384 else 0) + (if mf then 8192 else 0)) := rfl
  generalize flagW df mf f = R at *
  cases df <;> cases mf
  all_goals (
    go_enter Tryd.func45, Tryd.ntmps45
    go_wp2_with fail
    go_ret
    exact ⟨ret_int (by rw [HE.out]; first | (simp; done) | (simp [h13b]; done)), rfl⟩)

theorem or_64 (a : Nat) (ha : a < 64) : bits .or .u8 64 (a : Int) = ((64 + a : Nat) : Int) := by
  have := u8_or_nat 64 a (by omega) (by omega)
  rw [show ((64 : Nat) : Int) = 64 from rfl] at this
  rw [this]
  congr 1
  exact (Nat.two_pow_add_eq_or_of_lt (i := 6) (b := a) (by omega) 1).symm

def hd20 (h : Hd) (len sum : Nat) : List Nat :=
  [69 + h.opts.length / 4, h.tos, len / 256, len % 256, h.id / 256, h.id % 256, flagW h.df h.mf h.off.toNat / 256, flagW h.df h.mf h.off.toNat % 256, h.ttl, h.proto, sum / 256, sum % 256,
   h.src / 65536 / 256, h.src / 65536 % 256, h.src % 65536 / 256, h.src % 65536 % 256, h.dst / 65536 / 256, h.dst / 65536 % 256, h.dst % 65536 / 256, h.dst % 65536 % 256]

theorem hdBytes_eq (h : Hd) (len sum : Nat) : hdBytes h len sum = hd20 h len sum ++ h.opts := rfl

def z20 : List Nat := [0, 0, 0, 0, 0, 0, 0, 0, 0, 0, 0, 0, 0, 0, 0, 0, 0, 0, 0, 0]

set_option maxHeartbeats 2000000 in
theorem layHead_any (h : Hd) (vo : Value) (g len f : Nat) (R : List Nat) (w : World) (hok : h.Ok) (hB : Blk w g (z20 ++ R)) (hlen : (z20 ++ R).length = len) (hl2 : len < 65536) (hf : h.off = (f : Int)) (hf1 : f ≤ 65528) (hvo : SeesB w vo h.opts) (hol : h.opts.length ≤ 40) (hom : h.opts.length % 4 = 0) :
    Calls Tryd.prog 30 #[.slice (some ⟨g, 0, none⟩) len len, .agg (hdCells h vo)] w fun e w' => e = .returned (.tuple #[]) ∧ Blk w' g (hd20 h len 0 ++ R) ∧ But g w w' := by
  have hl20 : 20 ≤ len := by rw [← hlen, List.length_append]; show 20 ≤ 20 + _; omega
  obtain ⟨tos, id, df, mf, off, ttl, proto, src, dst, opts⟩ := h
  simp only at hf hvo hol hom
  subst hf
  obtain ⟨h, hh⟩ : ∃ h : Hd, h = ⟨tos, id, df, mf, (f : Int), ttl, proto, src, dst, opts⟩ := ⟨_, rfl⟩
  rw [← hh] at hok ⊢
  obtain ⟨w1, hw1⟩ : ∃ w1, w1 = w.alloc (.cells (hdCells h vo) 27) := ⟨_, rfl⟩
  have hs1 : w1.heap.size = w.heap.size + 1 := by rw [hw1]; simp
  have hg := hB.lt
  have hu1 : But g w w1 := by
    have hb : Below w.heap.size w w1 := by rw [hw1]; exact (Below.refl _ _).alloc (Nat.le_refl _) _
    exact ⟨hb.os, hb.tape, hb.output, hb.size, fun i hi _ => hb.block i hi⟩
  have hB1 : Blk w1 g (z20 ++ R) := by
    have hb : Below w.heap.size w w1 := by rw [hw1]; exact (Below.refl _ _).alloc (Nat.le_refl _) _
    exact (hb.block g hg).trans hB
  have HD : Hid (∀ u, But g w1 u → u.heap[w.heap.size]? = some (.cells (hdCells h vo) 27)) := fun u hu => by
    rw [hu.block w.heap.size (by omega) (by omega), hw1]
    exact heap_alloc_new w _
  obtain ⟨ao, n, cap, rfl, HN, hn1, hn2⟩ := hvo.shape
  have hn40 : n ≤ 40 := by have := HN.out; omega
  have hn4 : n % 4 = 0 := by have := HN.out; omega
  have H64 := or_64 ((20 + n) / 4) (by omega)
  rw [show (((20 + n) / 4 : Nat) : Int) = (20 + (n : Int)) / 4 by omega] at H64
  have HFR : Hid (∀ u, Calls Tryd.prog 45 #[.agg (hdCells h (.slice ao n cap))] u fun e w' => e = .returned (.int .u16 ((flagW h.df h.mf f : Nat) : Int)) ∧ w' = u.alloc (.cells (hdCells h (.slice ao n cap)) 27)) := fun u => frag_any h _ f u (by rw [hh]) hf1
  have HLD : Hid (∀ u, But g w1 u → (Instr.loadAt 27 (.pointer (some ⟨w.heap.size, 0, none⟩))).run Tryd.prog u = .ok (.agg (hdCells h (.slice ao n cap))) u) := fun u hu => by
    obtain ⟨fs, hu30⟩ := und27
    refine run_loadAt_mid u w.heap.size 0 27 (hdCells h (.slice ao n cap)).toList (.struct fs) (fun j v hv => ?_) hu30 rfl (by rw [show (Tryd.prog.info? 27).map (·.size) = some 10 from by kernel_rfl]; rfl)
    rw [Nat.zero_add, cell_of_row _ _ _ _ _ _ (HD.out u hu), ← hv, Array.getElem?_toList]
  have HFW : Hid (flagW h.df h.mf f < 65536) := by unfold Hid flagW; split <;> split <;> omega
  have HOK := hid hok
  have HW1 := hid hw1
  have HU1 := hid hu1
  clear hw1 hu1 hB
  generalize hfl : flagW h.df h.mf f = fl at *
  have c0 := hB1.cell 0 (by rw [hlen]; omega)
  have f0 := hB1.free 0
  have HDC : Hid (∀ u, But g w1 u → u.cell? ⟨w.heap.size, 0, none⟩ = some (.int .u8 (tos : Int)) ∧ u.cell? ⟨w.heap.size, 1, none⟩ = some (.int .u16 (id : Int)) ∧ u.cell? ⟨w.heap.size, 2, none⟩ = some (.bool df) ∧ u.cell? ⟨w.heap.size, 3, none⟩ = some (.bool mf) ∧ u.cell? ⟨w.heap.size, 4, none⟩ = some (.int .i64 (f : Int)) ∧ u.cell? ⟨w.heap.size, 5, none⟩ = some (.int .u8 (ttl : Int)) ∧ u.cell? ⟨w.heap.size, 6, none⟩ = some (.int .u8 (proto : Int)) ∧ u.cell? ⟨w.heap.size, 7, none⟩ = some (.int .u32 (src : Int)) ∧ u.cell? ⟨w.heap.size, 8, none⟩ = some (.int .u32 (dst : Int)) ∧ u.cell? ⟨w.heap.size, 9, none⟩ = some (.slice ao n cap)) := fun u hu => by
    have hr := hd_at (HD.out u hu)
    rw [hh] at hr
    exact hr
  obtain ⟨d0, _, _, _, _, _, _, _, _, d9⟩ := HDC.out _ (But.refl _ _)
  generalize hX : z20 ++ R = X at *
  generalize byt X 0 = y0 at c0
  have HHC : Hid (hdCells h (.slice ao n cap) = #[.int .u8 (tos : Int), .int .u16 (id : Int), .bool df, .bool mf, .int .i64 (f : Int), .int .u8 (ttl : Int), .int .u8 (proto : Int), .int .u32 (src : Int), .int .u32 (dst : Int), .slice ao n cap]) := by unfold Hid; rw [hh]; rfl
  rw [HHC.out] at HW1 HFR ⊢
  have hsrc : src < 4294967296 := by have := hok.src; rw [hh] at this; exact this
  have hdst : dst < 4294967296 := by have := hok.dst; rw [hh] at this; exact this
  have hid16 : id < 65536 := by have := hok.id; rw [hh] at this; exact this
  have hcut : ∀ m : Nat, m ≤ 16 → ∀ u : World, (Instr.sliceAt 25 (.slice (some ⟨g, 0, none⟩) len len) (some (.int .i64 (m : Int))) none none).run Tryd.prog u = .ok (.slice (some ⟨g, m, none⟩) (len - m) (len - m)) u := fun m hm u => by
    have := cut_at g 0 len len m (m : Int) rfl (by omega) (by omega) u
    rwa [Nat.zero_add] at this
  have k2 : ∀ u : World, (Instr.sliceAt 25 (.slice (some ⟨g, 0, none⟩) len len) (some (.int .i64 2)) none none).run Tryd.prog u = .ok (.slice (some ⟨g, 2, none⟩) (len - 2) (len - 2)) u := hcut 2 (by omega)
  have k4 : ∀ u : World, (Instr.sliceAt 25 (.slice (some ⟨g, 0, none⟩) len len) (some (.int .i64 4)) none none).run Tryd.prog u = .ok (.slice (some ⟨g, 4, none⟩) (len - 4) (len - 4)) u := hcut 4 (by omega)
  have k6 : ∀ u : World, (Instr.sliceAt 25 (.slice (some ⟨g, 0, none⟩) len len) (some (.int .i64 6)) none none).run Tryd.prog u = .ok (.slice (some ⟨g, 6, none⟩) (len - 6) (len - 6)) u := hcut 6 (by omega)
  have k12 : ∀ u : World, (Instr.sliceAt 25 (.slice (some ⟨g, 0, none⟩) len len) (some (.int .i64 12)) none none).run Tryd.prog u = .ok (.slice (some ⟨g, 12, none⟩) (len - 12) (len - 12)) u := hcut 12 (by omega)
  have k16 : ∀ u : World, (Instr.sliceAt 25 (.slice (some ⟨g, 0, none⟩) len len) (some (.int .i64 16)) none none).run Tryd.prog u = .ok (.slice (some ⟨g, 16, none⟩) (len - 16) (len - 16)) u := hcut 16 (by omega)
  clear hcut
  have H16 : Hid (∀ (o x : Nat) (u : World) (Y : List Nat), o + 2 ≤ len → x < 65536 → But g w1 u → Blk u g Y → Y.length = len → Calls Tryd.prog 44 #[.slice (some ⟨g, o, none⟩) (len - o) (len - o), .int .u16 (x : Int)] u fun e w' => e = .returned (.tuple #[]) ∧ Hid (Blk w' g ((Y.set o (x / 256)).set (o + 1) (x % 256))) ∧ But g w1 w') := fun o x u Y h1 h2 h3 h4 h5 =>
    (write16_any g o (len - o) (len - o) x Y u h4 (by omega) (by omega) h2).mono fun e w' ⟨a, b, c⟩ => ⟨a, b, h3.trans c⟩
  have H32 : Hid (∀ (o x : Nat) (u : World) (Y : List Nat), o + 4 ≤ len → x < 4294967296 → But g w1 u → Blk u g Y → Y.length = len → Calls Tryd.prog 46 #[.slice (some ⟨g, o, none⟩) (len - o) (len - o), .int .u32 (x : Int)] u fun e w' => e = .returned (.tuple #[]) ∧ Hid (Blk w' g ((((Y.set o (x / 65536 / 256)).set (o + 1) (x / 65536 % 256)).set (o + 2) (x % 65536 / 256)).set (o + 3) (x % 65536 % 256))) ∧ But g w1 w') := fun o x u Y h1 h2 h3 h4 h5 =>
    (write32_any g o (len - o) (len - o) x Y u h4 (by omega) (Nat.le_refl _) (by omega) h2 (by omega)).mono fun e w' ⟨a, b, c⟩ => ⟨a, b, h3.trans c⟩
  have b0 : (0 : Int) < (len : Int) := by omega
  have b1 : (1 : Int) < (len : Int) := by omega
  have b8 : (8 : Int) < (len : Int) := by omega
  have b9 : (9 : Int) < (len : Int) := by omega
  go_enter Tryd.func30, Tryd.ntmps30
  go_upto_region 1 with fail
  rw [← HW1.out]
  go_upto_region 2 with fail
  have hv0 : (64 + (20 + (n : Int)) / 4) = ((69 + n / 4 : Nat) : Int) := by omega
  rw [hv0]
  have hB2 := hB1.set 0 (69 + n / 4)
  have hu2 := But.set g 0 w1 (.int .u8 ((69 + n / 4 : Nat) : Int))
  generalize w1.setCell ⟨g, 0, none⟩ (.int .u8 ((69 + n / 4 : Nat) : Int)) = w2 at hB2 hu2 ⊢
  obtain ⟨Y2, hY2⟩ : ∃ Y2, Y2 = X.set 0 (69 + n / 4) := ⟨_, rfl⟩
  rw [← hY2] at hB2
  have hl2' : Y2.length = len := by rw [hY2]; simpa using hlen
  have c1 := hB2.cell 1 (by omega)
  have f1 := hB2.free 1
  generalize byt Y2 1 = y1 at c1
  obtain ⟨e0, _, _, _, _, _, _, _, _, _⟩ := HDC.out _ hu2
  clear c0 f0 d0 d9
  go_upto_region 3 with fail
  have hB3 := hB2.set 1 tos
  have hu3 := hu2.trans (But.set g 1 w2 (.int .u8 (tos : Int)))
  generalize w2.setCell ⟨g, 1, none⟩ (.int .u8 (tos : Int)) = w3 at hB3 hu3 ⊢
  obtain ⟨Y3, hY3⟩ : ∃ Y3, Y3 = Y2.set 1 tos := ⟨_, rfl⟩
  rw [← hY3] at hB3
  have hl3' : Y3.length = len := by rw [hY3]; simpa using hl2'
  clear c1 f1 e0 hB2 hu2
  go_wp2_with fail
  refine (H16.out 2 len w3 Y3 (by omega) (by omega) hu3 hB3 hl3').mono ?_
  rintro _ w4 ⟨rfl, hB4, hu4⟩
  obtain ⟨Y4, hY4⟩ : ∃ Y4, Y4 = (Y3.set 2 (len / 256)).set (2 + 1) (len % 256) := ⟨_, rfl⟩
  rw [← hY4] at hB4
  have hl4' : Y4.length = len := by rw [hY4]; simpa using hl3'
  obtain ⟨_, e1, _, _, _, _, _, _, _, _⟩ := HDC.out _ hu4
  have HC4 : Hid (∀ u, (u.cell? ⟨w.heap.size, 1, none⟩ = some (.int .u16 (id : Int)) ∧ But g w1 u) → Blk u g Y4 → Calls Tryd.prog 44 #[.slice (some ⟨g, 4, none⟩) (len - 4) (len - 4), .int .u16 (id : Int)] u fun e w' => e = .returned (.tuple #[]) ∧ Hid (Blk w' g ((Y4.set 4 (id / 256)).set (4 + 1) (id % 256))) ∧ (w'.cell? ⟨w.heap.size, 1, none⟩ = some (.int .u16 (id : Int)) ∧ But g w1 w')) := fun u hu hB => (H16.out 4 id u Y4 (by omega) hid16 hu.2 hB hl4').mono fun e w' ⟨a, b, c⟩ => ⟨a, b, (HDC.out _ c).2.1, c⟩
  clear hB3 hu3
  go_upto_region 4 with fail
  go_cut [] from 23 (fun wx => Hid (Blk wx g ((Y4.set 4 (id / 256)).set (4 + 1) (id % 256))) ∧ But g w1 wx)
  case first =>
    go_region_with (first | (go_at_call 44; refine (HC4.out w4.drew ⟨e1, But.drew hu4⟩ hB4.out).mono ?_; rintro _ w5 ⟨rfl, hB5, hS5⟩) | fail)
    all_goals (
      go_wp2_with fail
      go_meet
      case rel => exact ⟨hB5, hS5.2⟩)
  case rest =>
  obtain ⟨hB5, hu5⟩ := hcut
  obtain ⟨w5, hw5⟩ : ∃ w5, w5 = wc := ⟨_, rfl⟩
  rw [← hw5] at hB5 hu5 ⊢
  clear hw5 e1 HC4
  obtain ⟨Y5, hY5⟩ : ∃ Y5, Y5 = (Y4.set 4 (id / 256)).set (4 + 1) (id % 256) := ⟨_, rfl⟩
  rw [← hY5] at hB5
  have hl5' : Y5.length = len := by rw [hY5]; simpa using hl4'
  obtain ⟨q0, q1, q2, q3, q4, q5, q6, q7, q8, q9⟩ := HDC.out _ hu5
  have hu5a : But g w1 (w5.drew.alloc (.cells #[.int .u8 (tos : Int), .int .u16 (id : Int), .bool df, .bool mf, .int .i64 (f : Int), .int .u8 (ttl : Int), .int .u8 (proto : Int), .int .u32 (src : Int), .int .u32 (dst : Int), .slice ao n cap] 27)) := hu5.trans ⟨rfl, rfl, rfl, by simp, fun i hi _ => by
    have := ((Below.refl w5.drew.heap.size w5.drew).alloc (Nat.le_refl _) (.cells #[.int .u8 (tos : Int), .int .u16 (id : Int), .bool df, .bool mf, .int .i64 (f : Int), .int .u8 (ttl : Int), .int .u8 (proto : Int), .int .u32 (src : Int), .int .u32 (dst : Int), .slice ao n cap] 27)).block i hi
    exact this⟩
  have hB5a : Blk (w5.drew.alloc (.cells #[.int .u8 (tos : Int), .int .u16 (id : Int), .bool df, .bool mf, .int .i64 (f : Int), .int .u8 (ttl : Int), .int .u8 (proto : Int), .int .u32 (src : Int), .int .u32 (dst : Int), .slice ao n cap] 27)) g Y5 := by
    have := ((Below.refl w5.drew.heap.size w5.drew).alloc (Nat.le_refl _) (.cells #[.int .u8 (tos : Int), .int .u16 (id : Int), .bool df, .bool mf, .int .i64 (f : Int), .int .u8 (ttl : Int), .int .u8 (proto : Int), .int .u32 (src : Int), .int .u32 (dst : Int), .slice ao n cap] 27)).block g hB5.out.lt
    exact this.trans hB5.out
  have HC5 := hid (H16.out 6 fl _ Y5 (by omega) HFW.out hu5a hB5a hl5')
  go_upto_region 5 with fail
  go_cut [] from 28 (fun wx => Hid (Blk wx g ((Y5.set 6 (fl / 256)).set (6 + 1) (fl % 256))) ∧ But g w1 wx)
  case first =>
    go_region_with (first | (go_at_call 45; refine (HFR.out w5.drew).mono ?_; rintro _ _ ⟨rfl, rfl⟩) | (go_at_call 44; refine HC5.out.mono ?_; rintro _ w6 ⟨rfl, hB6, hS6⟩) | fail)
    all_goals (
      go_wp2_with fail
      go_meet
      case rel => exact ⟨hB6, hS6⟩)
  case rest =>
  obtain ⟨hB6, hu6⟩ := hcut
  obtain ⟨w6, hw6⟩ : ∃ w6, w6 = wc := ⟨_, rfl⟩
  rw [← hw6] at hB6 hu6 ⊢
  clear hw6 HC5 hB5a hu5a q0 q1 q2 q3 q4 q5 q6 q7 q8 q9
  obtain ⟨Y6, hY6⟩ : ∃ Y6, Y6 = (Y5.set 6 (fl / 256)).set (6 + 1) (fl % 256) := ⟨_, rfl⟩
  rw [← hY6] at hB6
  have hl6' : Y6.length = len := by rw [hY6]; simpa using hl5'
  have hB6 := hB6.out
  obtain ⟨_, _, _, _, _, p5, _, _, _, _⟩ := HDC.out _ hu6
  have c8 := hB6.cell 8 (by omega)
  have f8 := hB6.free 8
  generalize byt Y6 8 = y8 at c8
  go_upto_region 7 with fail
  have hB7 := hB6.set 8 ttl
  have hu7 := hu6.trans (But.set g 8 w6 (.int .u8 (ttl : Int)))
  generalize w6.setCell ⟨g, 8, none⟩ (.int .u8 (ttl : Int)) = w7 at hB7 hu7 ⊢
  obtain ⟨Y7, hY7⟩ : ∃ Y7, Y7 = Y6.set 8 ttl := ⟨_, rfl⟩
  rw [← hY7] at hB7
  have hl7' : Y7.length = len := by rw [hY7]; simpa using hl6'
  obtain ⟨_, _, _, _, _, _, p6, _, _, _⟩ := HDC.out _ hu7
  have c9 := hB7.cell 9 (by omega)
  have f9 := hB7.free 9
  generalize byt Y7 9 = y9 at c9
  clear c8 f8 p5
  go_upto_region 8 with fail
  have hB8 := hB7.set 9 proto
  have hu8 := hu7.trans (But.set g 9 w7 (.int .u8 (proto : Int)))
  generalize w7.setCell ⟨g, 9, none⟩ (.int .u8 (proto : Int)) = w8 at hB8 hu8 ⊢
  obtain ⟨Y8, hY8⟩ : ∃ Y8, Y8 = Y7.set 9 proto := ⟨_, rfl⟩
  rw [← hY8] at hB8
  have hl8' : Y8.length = len := by rw [hY8]; simpa using hl7'
  obtain ⟨_, _, _, _, _, _, _, p7, _, _⟩ := HDC.out _ hu8
  have HC8 := hid (H32.out 12 src w8.drew Y8 (by omega) hsrc (But.drew hu8) hB8 hl8')
  clear c9 f9 p6
  go_cut [] from 41 (fun wx => Hid (Blk wx g ((((Y8.set 12 (src / 65536 / 256)).set (12 + 1) (src / 65536 % 256)).set (12 + 2) (src % 65536 / 256)).set (12 + 3) (src % 65536 % 256))) ∧ But g w1 wx)
  case first =>
    go_region_with (first | (go_at_call 46; refine HC8.out.mono ?_; rintro _ w9 ⟨rfl, hB9, hS9⟩) | fail)
    all_goals (
      go_wp2_with fail
      go_meet
      case rel => exact ⟨hB9, hS9⟩)
  case rest =>
  obtain ⟨hB9, hu9⟩ := hcut
  obtain ⟨w9, hw9⟩ : ∃ w9, w9 = wc := ⟨_, rfl⟩
  rw [← hw9] at hB9 hu9 ⊢
  clear hw9 HC8 p7
  obtain ⟨Y9, hY9⟩ : ∃ Y9, Y9 = ((((Y8.set 12 (src / 65536 / 256)).set (12 + 1) (src / 65536 % 256)).set (12 + 2) (src % 65536 / 256)).set (12 + 3) (src % 65536 % 256)) := ⟨_, rfl⟩
  rw [← hY9] at hB9
  have hl9' : Y9.length = len := by rw [hY9]; simpa using hl8'
  obtain ⟨_, _, _, _, _, _, _, _, p8, _⟩ := HDC.out _ hu9
  have HC9 := hid (H32.out 16 dst w9.drew Y9 (by omega) hdst (But.drew hu9) hB9.out hl9')
  have HY : Hid ((((Y9.set 16 (dst / 65536 / 256)).set (16 + 1) (dst / 65536 % 256)).set (16 + 2) (dst % 65536 / 256)).set (16 + 3) (dst % 65536 % 256) = hd20 h len 0 ++ R) := by
    unfold Hid
    rw [hY9, hY8, hY7, hY6, hY5, hY4, hY3, hY2, ← hX, hh, ← hfl, hh, HN.out]
    rfl
  clear hY9 hY8 hY7 hY6 hY5 hY4 hY3 hY2 hX
  go_upto_region 9 with fail
  go_region_with (first | (go_at_call 46; refine HC9.out.mono ?_; rintro _ w10 ⟨rfl, hB10, hS10⟩) | fail)
  all_goals (
    rw [HY.out] at hB10
    go_wp2_with fail
    exact bodyPost_end (results_none Tryd.results30 _ _ _) rfl ⟨rfl, hB10.out, HU1.out.trans hS10⟩)
end Go.Proofs.YtcboenmmkaochaaDoor.N
