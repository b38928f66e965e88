import Derived.Test.YtdoeebbcieiimaaRows
import Derived.Test.YtdoeebbcieiimaaMath
import Derived.WalkKit
import Derived.ProofKit
import Derived.OpenShut
import Derived.Deep.QuietTactic
import Derived.BigQuiet
import Derived.Laws.BitsAllLaws
namespace Go.Proofs.Ytdoeebbcieiimaa
open Go.ChangeShapes Go.WideShapes Go.ChangeAt Go.RowKit
set_option maxHeartbeats 400000
set_option maxRecDepth 100000

def lenOf : Value → Nat
  | .slice _ n _ => n
  | _ => 0

theorem hid {p : Prop} (h : p) : Hid p := h
theorem ret_int {k : IntKind} {a b : Int} (h : a = b) : Ending.returned (.int k a) = .returned (.int k b) := by rw [h]
theorem ret_bool {a b : Bool} (h : a = b) : Ending.returned (.bool a) = .returned (.bool b) := by rw [h]

theorem complement_any (t : Nat) (w : World) (ht : t < 9223372036854775808) :
    Calls Try.prog 89 #[.int .u64 t] w fun e w' => e = .returned (.int .u16 ((65535 - M.fold t : Nat) : Int)) ∧ w' = w := by
  by_cases h : t = 0
  · subst h
    go_enter Try.func89, Try.ntmps89
    go_wp2
    go_ret
    exact ⟨rfl, rfl⟩
  · have hq : ((t : Int) == 0) = false := beq_false_of_ne (fun e => h (by exact_mod_cast e))
    have HF : Hid (65535 - M.fold t = 65534 - (t - 1) % 65535) := by unfold Hid M.fold; rw [if_neg h]; omega
    have h1 : 1 ≤ t := by omega
    go_enter Try.func89, Try.ntmps89
    go_wp2
    go_ret
    refine ⟨ret_int ?_, rfl⟩
    rw [HF.out]
    omega

theorem fold_any (t : Nat) (w : World) (ht : t < 9223372036854775808) :
    Calls Try.prog 98 #[.int .i64 t] w fun e w' => e = .returned (.int .i64 ((M.fold t : Nat) : Int)) ∧ w' = w := by
  by_cases h : t = 0
  · subst h
    go_enter Try.func98, Try.ntmps98
    go_wp2
    go_ret
    exact ⟨rfl, rfl⟩
  · have hq : ((t : Int) == 0) = false := beq_false_of_ne (fun e => h (by exact_mod_cast e))
    have HF : Hid (M.fold t = 1 + (t - 1) % 65535) := by unfold Hid M.fold; rw [if_neg h]
    have h1 : 1 ≤ t := by omega
    go_enter Try.func98, Try.ntmps98
    go_wp2
    go_ret
    refine ⟨ret_int ?_, rfl⟩
    rw [HF.out]
    omega

/-- The slice value v shows, in the world w, the bytes L. -/
def SeesB (w : World) (v : Value) (L : List Nat) : Prop :=
  ∃ ao cap, v = .slice ao L.length cap ∧ (L.length ≤ cap ∧ (ao = none → cap = 0)) ∧ cap ≤ maxLen ∧
    ∀ j (h : j < L.length), ∃ g off, ao = some ⟨g, off, none⟩ ∧ g < w.heap.size ∧ w.cell? ⟨g, off + j, none⟩ = some (.int .u8 (L[j] : Int)) ∧ L[j] < 256

theorem SeesB.shape {w : World} {v : Value} {L : List Nat} (h : SeesB w v L) : ∃ ao n cap, v = .slice ao n cap ∧ Hid (n = L.length) ∧ n ≤ cap ∧ cap ≤ maxLen := by
  obtain ⟨ao, cap, hv, h1, h2, _⟩ := h
  exact ⟨ao, L.length, cap, hv, rfl, h1.1, h2⟩

theorem SeesB.at {w : World} {ao : Option Addr} {n cap : Nat} {L : List Nat} (h : SeesB w (.slice ao n cap) L) (j : Nat) (hj : j < n) : ∃ (g off p : Nat), ao = some ⟨g, off, none⟩ ∧ g < w.heap.size ∧ w.cell? ⟨g, off + j, none⟩ = some (.int .u8 (p : Int)) ∧ p < 256 ∧ Hid (L[j]? = some p) := by
  obtain ⟨ao', cap', hv, h1, h2, h3⟩ := h
  simp at hv
  obtain ⟨rfl, rfl, rfl⟩ := hv
  obtain ⟨g, off, a, b, c, d⟩ := h3 j hj
  exact ⟨g, off, L[j], a, b, c, d, List.getElem?_eq_getElem hj⟩

theorem SeesB.below {w w' : World} {v : Value} {L : List Nat} (h : SeesB w v L) (hb : Below w.heap.size w w') : SeesB w' v L := by
  obtain ⟨ao, cap, hv, h1, h2, h3⟩ := h
  refine ⟨ao, cap, hv, h1, h2, fun j hj => ?_⟩
  obtain ⟨g, off, ha, hg, c0, c1⟩ := h3 j hj
  exact ⟨g, off, ha, Nat.lt_of_lt_of_le hg hb.size, (hb.cell (p := ⟨g, _, none⟩) hg).trans c0, c1⟩

theorem SeesB.bytes {w : World} {v : Value} {L : List Nat} (h : SeesB w v L) : ∀ x ∈ L, x < 256 := by
  obtain ⟨ao, cap, hv, h1, h2, h3⟩ := h
  intro x hx
  obtain ⟨j, hj, rfl⟩ := List.mem_iff_getElem.1 hx
  obtain ⟨_, _, _, _, _, h⟩ := h3 j hj
  exact h

theorem sees_nil (w : World) : SeesB w (.slice none 0 0) [] := ⟨none, 0, rfl, ⟨by simp, fun _ => rfl⟩, by unfold maxLen; omega, fun j h => absurd h (by simp)⟩

theorem below_drew {B : Nat} {a w : World} (h : Below B a w) : Below B a w.drew := ⟨h.os, h.tape, h.output, h.size, h.block⟩

theorem or_u16 (x y : Nat) (hx : x < 256) (hy : y < 256) : bits .or .u16 ((x * 256 : Nat) : Int) (y : Int) = ((x * 256 + y : Nat) : Int) := by
  rw [u16_or_nat (x * 256) y (by omega) (by omega)]
  congr 1
  have := Nat.two_pow_add_eq_or_of_lt (i := 8) (b := y) (by omega) x
  rw [Nat.mul_comm x 256]
  exact this.symm

/-- Two bytes at a slice's head. -/
theorem read16_any (v : Value) (x y : Nat) (r : List Nat) (w : World) (hv : SeesB w v (x :: y :: r)) :
    Calls Try.prog 88 #[v] w fun e w' => e = .returned (.int .u16 ((x * 256 + y : Nat) : Int)) ∧ Below w.heap.size w w' := by
  obtain ⟨ao, n, cap, rfl, HN, hn1, hn2⟩ := hv.shape
  have h2 : 2 ≤ n := by have := HN.out; simp at this; omega
  obtain ⟨g, off, p, rfl, hg, hc0, hp, HP⟩ := hv.at 0 (by omega)
  obtain ⟨g', off', q, he, hg', hc1, hq, HQ⟩ := hv.at 1 (by omega)
  simp at he
  obtain ⟨rfl, rfl⟩ := he
  have HO := or_u16 p q hp hq
  have e1 : p = x := by have := HP.out; simpa using this.symm
  have e2 : q = y := by have := HQ.out; simpa using this.symm
  have HR : Hid (bits .or .u16 ((p * 256 : Nat) : Int) (q : Int) = ((x * 256 + y : Nat) : Int)) := by unfold Hid; rw [HO, e1, e2]
  clear HO e1 e2 HP HQ hv
  rw [Nat.add_zero] at hc0
  have b0 : 0 < n := by omega
  have b1 : 1 < n := by omega
  go_enter Try.func88, Try.ntmps88
  go_wp2
  go_region
  go_wp2
  go_ret
  exact ⟨ret_int (by rw [← HR.out]; simp), below_drew (Below.refl _ _)⟩

theorem SeesB.back {w : World} {g off n cap : Nat} {L : List Nat} (h : SeesB w (.slice (some ⟨g, off, none⟩) n cap) L) (m : Nat) (hm : m ≤ n) :
    SeesB w (.slice (if cap = m then some ⟨g, off, none⟩ else some ⟨g, off + m, none⟩) (n - m) (cap - m)) (L.drop m) := by
  obtain ⟨ao', cap', hv, h1, h2, h3⟩ := h
  simp at hv
  obtain ⟨rfl, rfl, rfl⟩ := hv
  refine ⟨_, cap - m, by rw [List.length_drop], ⟨by rw [List.length_drop]; omega, fun h => by split at h <;> cases h⟩, by omega, fun j hj => ?_⟩
  rw [List.length_drop] at hj
  obtain ⟨g', off', ha, hg, hc, hb⟩ := h3 (m + j) (by omega)
  simp at ha
  obtain ⟨rfl, rfl⟩ := ha
  refine ⟨g, off + m, by rw [if_neg (by omega)], hg, ?_, ?_⟩
  · rw [List.getElem_drop, Nat.add_assoc]; exact hc
  · rw [List.getElem_drop]; exact hb

/-- A cut 'x[m:]': its value is kept a letter. -/
theorem SeesB.low {w : World} {ao : Option Addr} {n cap : Nat} {L : List Nat} (h : SeesB w (.slice ao n cap) L) (m : Nat) (i : Int) (hi : i = m) (hm : m ≤ n) :
    ∃ ao', Hid (SeesB w (.slice ao' (n - m) (cap - m)) (L.drop m)) ∧ ∀ u : World, (Instr.sliceAt 22 (.slice ao n cap) (some (.int .i64 i)) none none).run Try.prog u = .ok (.slice ao' (n - m) (cap - m)) u := by
  subst hi
  have hlen : n = L.length := by obtain ⟨_, _, hv, _⟩ := h; simp at hv; exact hv.2.1
  refine ⟨if cap = m then ao else ao.map (·.add m), ?_, fun u => ?_⟩
  · cases ao with
    | none =>
      have hn : n = 0 := by
        rcases Nat.eq_zero_or_pos n with h0 | h0
        · exact h0
        · obtain ⟨_, _, _, hc, _⟩ := h.at 0 h0; cases hc
      have h2 := h
      obtain ⟨_, _, hv, h1, h3, _⟩ := h
      simp at hv
      obtain ⟨rfl, _, rfl⟩ := hv
      have hL : L.drop m = [] := List.drop_eq_nil_of_le (by omega)
      unfold Hid; rw [hL]
      exact ⟨_, cap - m, by rw [show n - m = 0 by omega]; rfl, ⟨by simp, fun h => by have := h1.2 rfl; omega⟩, by omega, fun j hj => absurd hj (by simp)⟩
    | some a =>
      rcases Nat.eq_zero_or_pos n with h0 | h0
      · obtain ⟨_, _, hv, h1, h3, _⟩ := h
        simp at hv
        obtain ⟨rfl, _, rfl⟩ := hv
        have hL : L.drop m = [] := List.drop_eq_nil_of_le (by omega)
        unfold Hid; rw [hL]
        exact ⟨_, cap - m, by rw [show n - m = 0 by omega]; rfl, ⟨by simp, fun h => by split at h <;> cases h⟩, by omega, fun j hj => absurd hj (by simp)⟩
      · obtain ⟨g, off, _, hc, _⟩ := h.at 0 h0
        simp at hc
        subst hc
        have := h.back m hm
        have ea : (⟨g, off, none⟩ : Addr).add m = ⟨g, off + m, none⟩ := by
          rcases Nat.eq_zero_or_pos m with rfl | h0
          · simp [Addr.add]
          · simp [Addr.add]; omega
        unfold Hid
        rw [Option.map_some, ea]
        exact this
  · have hu : Try.prog.underlying 22 = some (.slice (Try.prog.elem 22)) := by kernel_rfl
    have hsz : (sizeOf (Try.prog.elem 22)).run Try.prog u = .ok 1 u := by kernel_rfl
    rw [run_sliceAt_slice (h := hu), run_slice_l (ht := hu) (h0 := by omega) (h1 := by omega), hsz]
    simp [Result.andThen, sliced]

/-- The slice value v shows the lists Ls. -/
def SeesBB (w : World) (v : Value) (Ls : List (List Nat)) : Prop :=
  ∃ ao cap, v = .slice ao Ls.length cap ∧ Ls.length ≤ cap ∧ cap ≤ maxLen ∧
    ∀ j (h : j < Ls.length), ∃ g off u, ao = some ⟨g, off, none⟩ ∧ g < w.heap.size ∧ w.cell? ⟨g, off + j, none⟩ = some u ∧ SeesB w u Ls[j]

theorem SeesBB.shape {w : World} {v : Value} {L : List (List Nat)} (h : SeesBB w v L) : ∃ ao n cap, v = .slice ao n cap ∧ Hid (n = L.length) ∧ n ≤ cap ∧ cap ≤ maxLen := by
  obtain ⟨ao, cap, hv, h1, h2, _⟩ := h
  exact ⟨ao, L.length, cap, hv, rfl, h1, h2⟩

theorem SeesBB.at {w : World} {ao : Option Addr} {n cap : Nat} {L : List (List Nat)} (h : SeesBB w (.slice ao n cap) L) (j : Nat) (hj : j < n) : ∃ (g off : Nat) (u : Value) (l : List Nat), ao = some ⟨g, off, none⟩ ∧ g < w.heap.size ∧ w.cell? ⟨g, off + j, none⟩ = some u ∧ SeesB w u l ∧ Hid (L[j]? = some l) := by
  obtain ⟨ao', cap', hv, h1, h2, h3⟩ := h
  simp at hv
  obtain ⟨rfl, rfl, rfl⟩ := hv
  obtain ⟨g, off, u, a, b, c, d⟩ := h3 j hj
  exact ⟨g, off, u, L[j], a, b, c, d, List.getElem?_eq_getElem hj⟩

theorem SeesBB.below {w w' : World} {v : Value} {L : List (List Nat)} (h : SeesBB w v L) (hb : Below w.heap.size w w') : SeesBB w' v L := by
  obtain ⟨ao, cap, hv, h1, h2, h3⟩ := h
  refine ⟨ao, cap, hv, h1, h2, fun j hj => ?_⟩
  obtain ⟨g, off, u, ha, hg, c0, c1⟩ := h3 j hj
  exact ⟨g, off, u, ha, Nat.lt_of_lt_of_le hg hb.size, (hb.cell (p := ⟨g, _, none⟩) hg).trans c0, c1.below hb⟩
end Go.Proofs.Ytdoeebbcieiimaa
