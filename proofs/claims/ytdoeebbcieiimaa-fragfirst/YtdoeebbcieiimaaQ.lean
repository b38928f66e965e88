import Derived.Test.YtdoeebbcieiimaaL
import Derived.Test.YtdoeebbcieiimaaG
namespace Go.Proofs.Ytdoeebbcieiimaa
open Go.ChangeShapes Go.WideShapes Go.ChangeAt Go.RowKit
set_option maxHeartbeats 400000
set_option maxRecDepth 100000

theorem and_bit (f k : Nat) : f &&& 2 ^ k = 2 ^ k * (f / 2 ^ k % 2) := by
  apply Nat.eq_of_testBit_eq
  intro i
  rw [Nat.testBit_and, Nat.testBit_two_pow, Nat.testBit_two_pow_mul]
  have e : f / 2 ^ k % 2 = f / 2 ^ k % 2 ^ 1 := rfl
  rw [e, Nat.testBit_mod_two_pow, Nat.testBit_div_two_pow]
  by_cases h : k = i
  · subst h; simp
  · by_cases g : k < i
    · have h1 : ¬ i - k < 1 := by omega
      simp [h, h1]
    · have h1 : ¬ i ≥ k := by omega
      simp [h, h1]

theorem and_u16_bit (f k : Nat) (hf : f < 65536) (hk : k < 16) : bits .and .u16 (f : Int) ((2 ^ k : Nat) : Int) = ((2 ^ k * (f / 2 ^ k % 2) : Nat) : Int) := by
  have h1 : 2 ^ k < 65536 := by
    have := Nat.pow_lt_pow_right (a := 2) (by omega) hk
    simpa using this
  rw [u16_and_nat f (2 ^ k) hf h1, and_bit]

theorem and_u16_mask (f : Nat) (hf : f < 65536) : bits .and .u16 (f : Int) 8191 = ((f % 8192 : Nat) : Int) := by
  have := u16_and_nat f 8191 hf (by decide)
  rw [show (f &&& 8191) = f % 8192 from Nat.and_two_pow_sub_one_eq_mod f 13] at this
  exact this

theorem and_u8_mask (f : Nat) (hf : f < 256) : bits .and .u8 (f : Int) 15 = ((f % 16 : Nat) : Int) := by
  have := u8_and_nat f 15 hf (by decide)
  rw [show (f &&& 15) = f % 16 from Nat.and_two_pow_sub_one_eq_mod f 4] at this
  exact this

theorem or_u32 (x y : Nat) (hx : x < 65536) (hy : y < 65536) : bits .or .u32 ((x * 65536 : Nat) : Int) (y : Int) = ((x * 65536 + y : Nat) : Int) := by
  rw [u32_or_nat (x * 65536) y (by omega) (by omega)]
  congr 1
  have := Nat.two_pow_add_eq_or_of_lt (i := 16) (b := y) (by omega) x
  rw [Nat.mul_comm x 65536]
  exact this.symm

def byt (L : List Nat) (i : Nat) : Nat := L.getD i 0
def w16 (L : List Nat) (i : Nat) : Nat := byt L i * 256 + byt L (i + 1)
def w32 (L : List Nat) (i : Nat) : Nat := w16 L i * 65536 + w16 L (i + 2)

theorem byt_some {L : List Nat} {i x : Nat} (h : L[i]? = some x) : byt L i = x := by unfold byt; rw [List.getD_eq_getElem?_getD, h]; rfl

theorem byt_lt {L : List Nat} (h : ∀ x ∈ L, x < 256) (i : Nat) : byt L i < 256 := by
  unfold byt
  rw [List.getD_eq_getElem?_getD]
  cases e : L[i]? with
  | none => simp
  | some x => simpa using h x (List.mem_of_getElem? e)

theorem w16_lt {L : List Nat} (h : ∀ x ∈ L, x < 256) (i : Nat) : w16 L i < 65536 := by
  have h1 := byt_lt h i
  have h2 := byt_lt h (i + 1)
  unfold w16; omega

theorem SeesB.atB {w : World} {ao : Option Addr} {n cap : Nat} {L : List Nat} (h : SeesB w (.slice ao n cap) L) (j : Nat) (hj : j < n) : ∃ (g off : Nat), ao = some ⟨g, off, none⟩ ∧ g < w.heap.size ∧ w.cell? ⟨g, off + j, none⟩ = some (.int .u8 ((byt L j : Nat) : Int)) := by
  obtain ⟨g, off, p, ha, hg, hc, hp, HP⟩ := h.at j hj
  exact ⟨g, off, ha, hg, by rw [hc, byt_some HP.out]⟩

theorem below_drewN {B : Nat} {a w : World} (h : Below B a w) (n : Nat) : Below B a (w.drewN n) := ⟨h.os, h.tape, h.output, h.size, h.block⟩

/-- Two bytes at a slice's head: one draw. -/
theorem read16_x (v : Value) (L : List Nat) (w : World) (hv : SeesB w v L) (hl : 2 ≤ L.length) :
    Calls Try.prog 88 #[v] w fun e w' => e = .returned (.int .u16 ((w16 L 0 : Nat) : Int)) ∧ w' = w.drew := by
  obtain ⟨ao, n, cap, rfl, HN, hn1, hn2⟩ := hv.shape
  have h2 : 2 ≤ n := by have := HN.out; omega
  obtain ⟨g, off, rfl, hg, hc0⟩ := hv.atB 0 (by omega)
  obtain ⟨g', off', he, hg', hc1⟩ := hv.atB 1 (by omega)
  simp at he
  obtain ⟨rfl, rfl⟩ := he
  have hp := byt_lt hv.bytes 0
  have hq := byt_lt hv.bytes 1
  have HR : Hid (bits .or .u16 ((byt L 0 * 256 : Nat) : Int) (byt L 1 : Int) = ((w16 L 0 : Nat) : Int)) := by unfold Hid; rw [or_u16 _ _ hp hq]; rfl
  generalize w16 L 0 = r at *
  generalize byt L 0 = p at *
  generalize byt L 1 = q at *
  clear hv
  rw [Nat.add_zero] at hc0
  have b0 : 0 < n := by omega
  have b1 : 1 < n := by omega
  go_enter Try.func88, Try.ntmps88
  go_wp2
  go_region
  go_wp2
  go_ret
  exact ⟨ret_int (by rw [← HR.out]; simp), rfl⟩

theorem w16_drop (L : List Nat) (i j : Nat) : w16 (L.drop i) j = w16 L (i + j) := by
  unfold w16 byt
  simp only [List.getD_eq_getElem?_getD, List.getElem?_drop, Nat.add_assoc]

theorem sees_drew {w : World} {v : Value} {L : List Nat} (h : SeesB w v L) : SeesB w.drew v L := h.below (below_drew (Below.refl _ _))

end Go.Proofs.Ytdoeebbcieiimaa
