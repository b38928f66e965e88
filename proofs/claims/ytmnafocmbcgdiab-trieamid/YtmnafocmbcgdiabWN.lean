/-
  A step at both.
-/
import Derived.Test.YtmnafocmbcgdiabWM
namespace Go.Proofs.Ytmnafocmbcgdiab
open Go.ChangeShapes Go.WideShapes Go.ChangeAt Go.RowKit Tri N
set_option maxHeartbeats 1000000
set_option maxRecDepth 100000

def oCells (k s : Int) (x : Nat) (y : Int) (A : Nat) (a : Int) : Array Value := #[.int .i64 k, .int .i64 s, .int .u32 (x : Int), .int .i64 y, .int .u32 (A : Int), .int .i64 a]

theorem Stepped.from {w wa w2 : World} {tb rb : Nat} {v : Value} {n : Nat} (hb : Below w.heap.size w wa) (h : Stepped wa w2 tb rb v n) : Stepped w w2 tb rb v n := by
  obtain ⟨⟨v', t', L', h1, h2, h3⟩, h4⟩ := h
  exact ⟨⟨v', t', L', h1, h2, h3.imp id fun h b hb' => Nat.le_trans hb.size (h b hb')⟩, (Chg.of_below hb).trans h4⟩

theorem Duo.lt {w : World} {tb rb : Nat} {v : Value} {t : Tr} {L : List (K × Int)} (h : Duo w tb rb v t L) : tb < w.heap.size := h.tr.lt tb rfl

theorem plays_put {w : World} {tb rb x A : Nat} {s y a : Int} {v : Value} {t : Tr} {L : List (K × Int)} (hD : Duo w tb rb v t L) (hx : x < 4294967296) (hlen : L.length ≤ 4000000000000) :
    Calls Try.prog 30 #[.pointer (some ⟨tb, 0, none⟩), .pointer (some ⟨rb, 0, none⟩), .agg (oCells 1 s x y A a)] w fun e w' => e = .returned (.bool true) ∧ Stepped w w' tb rb v L.length := by
  obtain ⟨wa, HWA⟩ : ∃ wa, Hid (wa = w.alloc (.cells (oCells 1 s x y A a) 71)) := ⟨_, rfl⟩
  have hba : Below w.heap.size w wa := by rw [HWA.out]; exact (Below.refl _ _).alloc (Nat.le_refl _) _
  have r1 : wa.heap[w.heap.size]? = some (.cells (oCells 1 s x y A a) 71) := by rw [HWA.out]; exact heap_alloc_new w _
  obtain ⟨er, hcall⟩ := put_duo (y := y) (a := a) (hD.below hba) hx hlen
  have HC := hid hcall
  have HBA := hid hba
  have R1 := hid r1
  have HNE : Hid (w.heap.size ≠ tb) := Nat.ne_of_gt hD.lt
  have x2 : wa.cell? ⟨w.heap.size, 2, none⟩ = some (.int .u32 (x : Int)) := by rw [cell_of_row _ _ _ _ _ _ r1]; rfl
  have x3 : wa.cell? ⟨w.heap.size, 3, none⟩ = some (.int .i64 y) := by rw [cell_of_row _ _ _ _ _ _ r1]; rfl
  have x5 : wa.cell? ⟨w.heap.size, 5, none⟩ = some (.int .i64 a) := by rw [cell_of_row _ _ _ _ _ _ r1]; rfl
  unfold oCells at HWA ⊢
  unfold qv at HC
  clear hba r1 hcall hD
  go_enter Try.func30, Try.ntmps30
  go_upto_region 3 with fail
  rw [← HWA.out]
  go_wp2_with fail
  refine HC.out.mono ?_
  rintro _ w1 ⟨rfl, hc1, hnext⟩
  have r2 := (hc1.block w.heap.size (Array.getElem?_eq_some_iff.1 R1.out).1 HNE.out).trans R1.out
  have x2 : w1.cell? ⟨w.heap.size, 2, none⟩ = some (.int .u32 (x : Int)) := by rw [cell_of_row _ _ _ _ _ _ r2]; rfl
  have x3 : w1.cell? ⟨w.heap.size, 3, none⟩ = some (.int .i64 y) := by rw [cell_of_row _ _ _ _ _ _ r2]; rfl
  have x5 : w1.cell? ⟨w.heap.size, 5, none⟩ = some (.int .i64 a) := by rw [cell_of_row _ _ _ _ _ _ r2]; rfl
  have HX := hid (hnext w1 (Below.refl _ _))
  clear r2 hc1 hnext
  go_wp2_with fail
  refine HX.out.mono ?_
  rintro _ w2 ⟨rfl, hs⟩
  have HS := hid (Stepped.from HBA.out hs)
  clear hs x2 x3 x5
  go_wp2_with fail
  go_ret
  exact ⟨rfl, HS.out⟩

theorem plays_del {w : World} {tb rb x A : Nat} {s y a : Int} {v : Value} {t : Tr} {L : List (K × Int)} (hD : Duo w tb rb v t L) (hx : x < 4294967296) (hlen : L.length ≤ 4000000000000) :
    Calls Try.prog 30 #[.pointer (some ⟨tb, 0, none⟩), .pointer (some ⟨rb, 0, none⟩), .agg (oCells 2 s x y A a)] w fun e w' => e = .returned (.bool true) ∧ Stepped w w' tb rb v L.length := by
  obtain ⟨wa, HWA⟩ : ∃ wa, Hid (wa = w.alloc (.cells (oCells 2 s x y A a) 71)) := ⟨_, rfl⟩
  have hba : Below w.heap.size w wa := by rw [HWA.out]; exact (Below.refl _ _).alloc (Nat.le_refl _) _
  have r1 : wa.heap[w.heap.size]? = some (.cells (oCells 2 s x y A a) 71) := by rw [HWA.out]; exact heap_alloc_new w _
  obtain ⟨a', er, hcall⟩ := del_duo (y := y) (hD.below hba) hx hlen
  have HC := hid hcall
  have HBA := hid hba
  have R1 := hid r1
  have HNE : Hid (w.heap.size ≠ tb) := Nat.ne_of_gt hD.lt
  have x2 : wa.cell? ⟨w.heap.size, 2, none⟩ = some (.int .u32 (x : Int)) := by rw [cell_of_row _ _ _ _ _ _ r1]; rfl
  have x3 : wa.cell? ⟨w.heap.size, 3, none⟩ = some (.int .i64 y) := by rw [cell_of_row _ _ _ _ _ _ r1]; rfl
  have x5 : wa.cell? ⟨w.heap.size, 5, none⟩ = some (.int .i64 a) := by rw [cell_of_row _ _ _ _ _ _ r1]; rfl
  unfold oCells at HWA ⊢
  unfold qv at HC
  clear hba r1 hcall hD
  go_enter Try.func30, Try.ntmps30
  go_upto_region 6 with fail
  rw [← HWA.out]
  go_wp2_with fail
  refine HC.out.mono ?_
  rintro _ w1 ⟨rfl, hc1, hnext⟩
  have r2 := (hc1.block w.heap.size (Array.getElem?_eq_some_iff.1 R1.out).1 HNE.out).trans R1.out
  have x2 : w1.cell? ⟨w.heap.size, 2, none⟩ = some (.int .u32 (x : Int)) := by rw [cell_of_row _ _ _ _ _ _ r2]; rfl
  have x3 : w1.cell? ⟨w.heap.size, 3, none⟩ = some (.int .i64 y) := by rw [cell_of_row _ _ _ _ _ _ r2]; rfl
  have x5 : w1.cell? ⟨w.heap.size, 5, none⟩ = some (.int .i64 a) := by rw [cell_of_row _ _ _ _ _ _ r2]; rfl
  have HX := hid (hnext w1 (Below.refl _ _))
  clear r2 hc1 hnext
  go_wp2_with fail
  refine HX.out.mono ?_
  rintro _ w2 ⟨rfl, hs⟩
  have HS := hid (Stepped.from HBA.out hs)
  clear hs x2 x3 x5
  go_wp2_with fail
  go_ret
  exact ⟨rfl, HS.out⟩

theorem plays_get {w : World} {tb rb x A : Nat} {s y a : Int} {v : Value} {t : Tr} {L : List (K × Int)} (hD : Duo w tb rb v t L) (hx : x < 4294967296) :
    Calls Try.prog 30 #[.pointer (some ⟨tb, 0, none⟩), .pointer (some ⟨rb, 0, none⟩), .agg (oCells 3 s x y A a)] w fun e w' => e = .returned (.bool true) ∧ Stepped w w' tb rb v L.length := by
  obtain ⟨wa, HWA⟩ : ∃ wa, Hid (wa = w.alloc (.cells (oCells 3 s x y A a) 71)) := ⟨_, rfl⟩
  have hba : Below w.heap.size w wa := by rw [HWA.out]; exact (Below.refl _ _).alloc (Nat.le_refl _) _
  have r1 : wa.heap[w.heap.size]? = some (.cells (oCells 3 s x y A a) 71) := by rw [HWA.out]; exact heap_alloc_new w _
  obtain ⟨a', er, hcall⟩ := get_duo (y := y) (hD.below hba) hx
  have HC := hid hcall
  have HBA := hid hba
  have R1 := hid r1
  have HNE : Hid (w.heap.size ≠ tb) := Nat.ne_of_gt hD.lt
  have x2 : wa.cell? ⟨w.heap.size, 2, none⟩ = some (.int .u32 (x : Int)) := by rw [cell_of_row _ _ _ _ _ _ r1]; rfl
  have x3 : wa.cell? ⟨w.heap.size, 3, none⟩ = some (.int .i64 y) := by rw [cell_of_row _ _ _ _ _ _ r1]; rfl
  have x5 : wa.cell? ⟨w.heap.size, 5, none⟩ = some (.int .i64 a) := by rw [cell_of_row _ _ _ _ _ _ r1]; rfl
  unfold oCells at HWA ⊢
  unfold qv at HC
  clear hba r1 hcall hD
  go_enter Try.func30, Try.ntmps30
  go_upto_region 9 with fail
  rw [← HWA.out]
  go_wp2_with fail
  refine HC.out.mono ?_
  rintro _ w1 ⟨rfl, hc1, hnext⟩
  have r2 := (hc1.block w.heap.size (Array.getElem?_eq_some_iff.1 R1.out).1 HNE.out).trans R1.out
  have x2 : w1.cell? ⟨w.heap.size, 2, none⟩ = some (.int .u32 (x : Int)) := by rw [cell_of_row _ _ _ _ _ _ r2]; rfl
  have x3 : w1.cell? ⟨w.heap.size, 3, none⟩ = some (.int .i64 y) := by rw [cell_of_row _ _ _ _ _ _ r2]; rfl
  have x5 : w1.cell? ⟨w.heap.size, 5, none⟩ = some (.int .i64 a) := by rw [cell_of_row _ _ _ _ _ _ r2]; rfl
  have HX := hid (hnext w1 (Below.refl _ _))
  clear r2 hc1 hnext
  go_wp2_with fail
  refine HX.out.mono ?_
  rintro _ w2 ⟨rfl, hs⟩
  have HS := hid (Stepped.from HBA.out hs)
  clear hs x2 x3 x5
  go_wp2_with fail
  go_ret
  exact ⟨rfl, HS.out⟩

theorem plays_none {w : World} {tb rb x A : Nat} {k s y a : Int} {v : Value} {t : Tr} {L : List (K × Int)} (hD : Duo w tb rb v t L) (h1 : k ≤ 3 ∨ 8 < k) (h2 : k ≠ 1) (h3 : k ≠ 2) (h4 : k ≠ 3) :
    Calls Try.prog 30 #[.pointer (some ⟨tb, 0, none⟩), .pointer (some ⟨rb, 0, none⟩), .agg (oCells k s x y A a)] w fun e w' => e = .returned (.bool true) ∧ Stepped w w' tb rb v L.length := by
  have hba : Below w.heap.size w (w.alloc (.cells (oCells k s x y A a) 71)) := (Below.refl _ _).alloc (Nat.le_refl _) _
  have HS := hid (Stepped.same hD hba)
  have q1 : (k == 1) = false := by simp; omega
  have q2 : (k == 2) = false := by simp; omega
  have q3 : (k == 3) = false := by simp; omega
  have q4 : (k == 4) = false := by simp; omega
  have q5 : (k == 5) = false := by simp; omega
  have q6 : (k == 6) = false := by simp; omega
  have q7 : (k == 7) = false := by simp; omega
  have q8 : (k == 8) = false := by simp; omega
  unfold oCells at HS ⊢
  clear hba h1 h2 h3 h4 hD
  go_enter Try.func30, Try.ntmps30
  go_wp2_with fail
  go_ret
  exact ⟨rfl, HS.out⟩
end Go.Proofs.Ytmnafocmbcgdiab
