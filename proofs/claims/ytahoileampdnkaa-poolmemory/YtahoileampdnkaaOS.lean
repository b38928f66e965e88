/-
  (*Pool).Room: how many are free.
-/
import Derived.Test.YtahoileampdnkaaOR
namespace Go.Proofs.Ytahoileampdnkaa
open Go.ChangeShapes Go.WideShapes Go.ChangeAt Go.RowKit Ru N Tri
set_option maxHeartbeats 1000000
set_option maxRecDepth 100000

def memB (rs : List R) (n : Nat) : Bool := rs.any fun r => decide (r.1 ≤ n) && decide (n ≤ r.2)
theorem memB_iff {rs : List R} {n : Nat} : memB rs n = true ↔ Mem rs n := by
  unfold memB Mem
  simp

/-- How many from a up to b, without b, are free. -/
def cnt (ks ts : List R) (a b : Nat) : Nat := (List.range' a (b - a)).countP fun x => !(memB ks x || memB ts x)

theorem cnt_add (ks ts : List R) {a b c : Nat} (h1 : a ≤ b) (h2 : b ≤ c) : cnt ks ts a c = cnt ks ts a b + cnt ks ts b c := by
  unfold cnt
  rw [← List.countP_append]
  congr 1
  rw [show c - a = (b - a) + (c - b) by omega, ← List.range'_append_1, show a + (b - a) = b by omega]

theorem cnt_used {ks ts : List R} {a b : Nat} (h : ∀ x, a ≤ x → x < b → Mem ks x ∨ Mem ts x) : cnt ks ts a b = 0 := by
  unfold cnt
  rw [List.countP_eq_zero]
  intro x hx
  rw [List.mem_range'_1] at hx
  have := h x hx.1 (by omega)
  simp only [Bool.not_eq_true', Bool.not_eq_false, Bool.or_eq_true]
  rcases this with h | h
  · exact .inl (memB_iff.2 h)
  · exact .inr (memB_iff.2 h)

theorem cnt_free {ks ts : List R} {a b : Nat} (h : ∀ x, a ≤ x → x < b → ¬ Mem ks x ∧ ¬ Mem ts x) : cnt ks ts a b = b - a := by
  unfold cnt
  rw [List.countP_eq_length.2]
  · simp
  · intro x hx
    rw [List.mem_range'_1] at hx
    obtain ⟨h1, h2⟩ := h x hx.1 (by omega)
    have e1 : memB ks x = false := by rw [← Bool.not_eq_true]; exact fun h => h1 (memB_iff.1 h)
    have e2 : memB ts x = false := by rw [← Bool.not_eq_true]; exact fun h => h2 (memB_iff.1 h)
    simp [e1, e2]

theorem cnt_le (ks ts : List R) (a b : Nat) : cnt ks ts a b ≤ b - a := by
  unfold cnt
  refine Nat.le_trans List.countP_le_length ?_
  simp

theorem cnt_self (ks ts : List R) (a : Nat) : cnt ks ts a a = 0 := by unfold cnt; simp

theorem room_any (pb sub lo hi : Nat) (vk vt : Value) (ks ts : List R) (w : World) (hp : PoolAt w pb vk vt sub lo hi ks ts) :
    Calls Try.prog 13 #[.pointer (some ⟨pb, 0, none⟩)] w fun e w' => e = .returned (.int .i64 ((cnt ks ts lo (hi + 1) : Nat) : Int)) ∧ Below w.heap.size w w' := by
  have hlh := hp.lh
  have hhh := hp.hh
  have HP := hid hp
  have HN : ∀ (n : Nat) (u : World), n ≤ 4294967297 → Below w.heap.size w u → Hid (Calls Try.prog 32 #[.pointer (some ⟨pb, 0, none⟩), .int .i64 (n : Int)] u fun e w' => NextF ks ts hi n e ∧ Below u.heap.size u w') := fun n u hn hu => hid (next_any pb n sub lo hi vk vt ks ts u (HP.out.below hu) hn)
  have HN0 := HN lo w (by omega) (Below.refl _ _)
  obtain ⟨c0, c1, c2, c3, c4⟩ := HP.out.cells w (Below.refl _ _)
  have HSZ := fun x y hx hy u => hid (run_size x y hx hy u)
  clear hp c0 c2 c3 c4
  go_enter Try.func13, Try.ntmps13
  go_upto_region 2 with fail
  go_wp2_with fail
  refine HN0.out.mono ?_
  rintro e w1 ⟨hn, hb1⟩
  have HB1 := hid hb1
  have hex : ∃ (x y : Nat) (ok : Bool), e = .returned (.tuple #[.agg #[.int .i64 (x : Int), .int .i64 (y : Int)], .bool ok]) := by
    rcases hn with ⟨a, b, h, -⟩ | ⟨h, -⟩
    · exact ⟨a, b, true, h⟩
    · exact ⟨0, 0, false, h⟩
  obtain ⟨x, y, ok, rfl⟩ := hex
  have HNF := hid hn
  clear hn hb1 c1
  obtain ⟨jb, HJB⟩ : ∃ jb, Hid (jb = w1.heap.size) := ⟨_, rfl⟩
  obtain ⟨w2, HW2⟩ : ∃ w2, Hid (w2 = w1.alloc (.cells #[.int .i64 (x : Int), .int .i64 (y : Int)] 64)) := ⟨_, rfl⟩
  have HB2 : Hid (Below w.heap.size w w2) := by rw [HW2.out]; exact HB1.out.alloc HB1.out.size _
  have R2 : Hid (w2.heap[jb]? = some (.cells #[.int .i64 (x : Int), .int .i64 (y : Int)] 64 (0, 0))) := by rw [HW2.out, HJB.out]; exact heap_alloc_new w1 _
  have hjb : w.heap.size ≤ jb := by rw [HJB.out]; exact HB1.out.size
  go_upto_region 3 with fail
  rw [← HW2.out, ← HJB.out]
  go_loopw [3, 4, 5] (fun c g k wr => ∃ (n x y jb : Nat) (ok : Bool), c = .int .i64 ((cnt ks ts lo n : Nat) : Int) ∧ g = .pointer (some ⟨jb, 0, none⟩) ∧ k = .bool ok ∧ lo ≤ n ∧ n ≤ hi + 1 ∧ w.heap.size ≤ jb ∧ Hid (NextF ks ts hi n (.returned (.tuple #[.agg #[.int .i64 (x : Int), .int .i64 (y : Int)], .bool ok]))) ∧ Hid (wr.heap[jb]? = some (.cells #[.int .i64 (x : Int), .int .i64 (y : Int)] 64 (0, 0))) ∧ Hid (Below w.heap.size w wr)) (fun c _ _ _ => 4294967297 - (intOf c).toNat)
  case atStart => exact ⟨lo, x, y, jb, ok, by rw [cnt_self]; rfl, rfl, rfl, Nat.le_refl _, by omega, hjb, HNF, R2, HB2⟩
  case round =>
    obtain ⟨n, x, y, jb, ok, rfl, rfl, rfl, hn1, hn2, hjb, HNF, R2, HB2⟩ := hrel
    cases ok with
    | true =>
      have hex : n ≤ x ∧ x ≤ y ∧ y ≤ hi ∧ (∀ z, n ≤ z → z < x → Mem ks z ∨ Mem ts z) ∧ ∀ z, x ≤ z → z ≤ y → ¬ Mem ks z ∧ ¬ Mem ts z := by
        rcases HNF.out with ⟨a, b, h, h1, h2, h3, h4, h5, -⟩ | ⟨h, -⟩
        · simp at h
          obtain ⟨h6, h7⟩ := h
          have : a = x := by omega
          have : b = y := by omega
          subst a b
          exact ⟨h1, h2, h3, h4, h5⟩
        · simp at h
      obtain ⟨h1, h2, h3, h4, h5⟩ := hex
      have hc : cnt ks ts lo (y + 1) = cnt ks ts lo n + (y - x + 1) := by
        rw [cnt_add ks ts hn1 (show n ≤ y + 1 by omega), cnt_add ks ts h1 (show x ≤ y + 1 by omega), cnt_used h4, cnt_free (fun z k1 k2 => h5 z k1 (by omega))]
        omega
      have hcl := cnt_le ks ts lo (y + 1)
      have HC := hid hc
      obtain ⟨c, HCN⟩ : ∃ c, Hid (c = cnt ks ts lo n) := ⟨_, rfl⟩
      rw [← HCN.out] at hc
      have hcb : c + (y - x + 1) ≤ 4294967296 := by omega
      rw [← HCN.out]
      clear h4 h5 hc hcl
      have d0 : wr.cell? ⟨jb, 0, none⟩ = some (.int .i64 (x : Int)) := by rw [cell_of_row _ _ _ _ _ _ R2.out]; rfl
      have d1 : wr.cell? ⟨jb, 1, none⟩ = some (.int .i64 (y : Int)) := by rw [cell_of_row _ _ _ _ _ _ R2.out]; rfl
      have HS := HSZ (x : Int) (y : Int) (by omega) (by omega) wr
      go_upto_region 5 with fail
      go_wp2_with fail
      refine HS.out.mono ?_
      rintro _ w3 ⟨rfl, hb3⟩
      have HB3 : Hid (Below w.heap.size w w3) := HB2.out.trans (hb3.mono HB2.out.size)
      have r3 := below_keeps hb3 R2.out (Array.getElem?_eq_some_iff.1 R2.out).1
      have k0 : w3.cell? ⟨jb, 0, none⟩ = some (.int .i64 (x : Int)) := by rw [cell_of_row _ _ _ _ _ _ r3]; rfl
      have k1 : w3.cell? ⟨jb, 1, none⟩ = some (.int .i64 (y : Int)) := by rw [cell_of_row _ _ _ _ _ _ r3]; rfl
      obtain ⟨j2, HJ2⟩ : ∃ j2, Hid (j2 = w3.heap.size) := ⟨_, rfl⟩
      obtain ⟨w4, HW4⟩ : ∃ w4, Hid (w4 = w3.alloc (.cells #[.int .i64 (x : Int), .int .i64 (y : Int)] 64)) := ⟨_, rfl⟩
      have HB4 : Hid (Below w.heap.size w w4) := by rw [HW4.out]; exact HB3.out.alloc HB3.out.size _
      have R4 : Hid (w4.heap[j2]? = some (.cells #[.int .i64 (x : Int), .int .i64 (y : Int)] 64 (0, 0))) := by rw [HW4.out, HJ2.out]; exact heap_alloc_new w3 _
      have hj2 : w.heap.size ≤ j2 := by rw [HJ2.out]; exact HB3.out.size
      have m0 : w4.cell? ⟨j2, 0, none⟩ = some (.int .i64 (x : Int)) := by rw [cell_of_row _ _ _ _ _ _ R4.out]; rfl
      have m1 : w4.cell? ⟨j2, 1, none⟩ = some (.int .i64 (y : Int)) := by rw [cell_of_row _ _ _ _ _ _ R4.out]; rfl
      have HN2 := HN (y + 1) w4 (by omega) HB4.out
      have ey : (((y + 1 : Nat)) : Int) = (y : Int) + 1 := by omega
      rw [ey] at HN2
      clear ey hb3 r3 d0 d1
      obtain ⟨c', HC'⟩ : ∃ c', Hid (c' = c + (y - x + 1)) := ⟨_, rfl⟩
      have hci : (c : Int) + ((y : Int) - (x : Int) + 1) = (c' : Int) := by rw [HC'.out]; omega
      have hcb' : c' ≤ 4294967296 := by rw [HC'.out]; exact hcb
      have hcc : c < c' := by rw [HC'.out]; omega
      go_upto_region 4 with fail
      rw [← HW4.out, ← HJ2.out]
      clear hci k0 k1
      go_wp2_with fail
      refine HN2.out.mono ?_
      rintro e w5 ⟨hn, hb5⟩
      have hex : ∃ (x y : Nat) (ok : Bool), e = .returned (.tuple #[.agg #[.int .i64 (x : Int), .int .i64 (y : Int)], .bool ok]) := by
        rcases hn with ⟨a, b, h, -⟩ | ⟨h, -⟩
        · exact ⟨a, b, true, h⟩
        · exact ⟨0, 0, false, h⟩
      obtain ⟨x', y', ok', rfl⟩ := hex
      have HNF2 := hid hn
      have HB5 : Hid (Below w.heap.size w w5) := HB4.out.trans (hb5.mono HB4.out.size)
      have r5 := below_keeps hb5 R4.out (Array.getElem?_eq_some_iff.1 R4.out).1
      have k0 : w5.cell? ⟨j2, 0, none⟩ = some (.int .i64 (x : Int)) := by rw [cell_of_row _ _ _ _ _ _ r5]; rfl
      have k1 : w5.cell? ⟨j2, 1, none⟩ = some (.int .i64 (y : Int)) := by rw [cell_of_row _ _ _ _ _ _ r5]; rfl
      have k2 : w5.frozen? ⟨j2, 0, none⟩ = false := frozen_of_row _ _ _ _ _ r5
      have k3 : w5.frozen? ⟨j2, 1, none⟩ = false := frozen_of_row _ _ _ _ _ r5
      have R6 := hid (set_two (a := .int .i64 (x' : Int)) (c := .int .i64 (y' : Int)) r5)
      have HB6 : Hid (Below w.heap.size w ((w5.setCell ⟨j2, 0, none⟩ (.int .i64 (x' : Int))).setCell ⟨j2, 1, none⟩ (.int .i64 (y' : Int)))) :=
        (HB5.out.setCell (p := ⟨j2, 0, none⟩) hj2 _).setCell (p := ⟨j2, 1, none⟩) hj2 _
      clear hn hb5 r5 m0 m1
      go_wp2_with fail
      go_roundw
      case rel => exact ⟨y + 1, x', y', j2, ok', by rw [HC.out, ← HCN.out, HC'.out], rfl, rfl, by omega, by omega, hj2, HNF2, R6, HB6⟩
      case measure => simp [intOf]; omega
    | false =>
      have hex : ∀ z, n ≤ z → z ≤ hi → Mem ks z ∨ Mem ts z := by
        rcases HNF.out with ⟨a, b, h, -⟩ | ⟨-, h⟩
        · simp at h
        · exact h
      have HC : Hid (cnt ks ts lo n = cnt ks ts lo (hi + 1)) := by
        unfold Hid
        rw [cnt_add ks ts hn1 hn2, cnt_used (fun z k1 k2 => hex z k1 (by omega))]
        rfl
      clear hex
      generalize cnt ks ts lo n = c at *
      go_wp2_with fail
      go_ret
      exact ⟨ret_int (by rw [HC.out]), HB2.out⟩
end Go.Proofs.Ytahoileampdnkaa
