/-
  putWords, sel, framed, baseLen, copied.
-/
import Derived.Test.YteoebmpfdcbbmacDoorJB
namespace Go.Proofs.YteoebmpfdcbbmacDoor
open Go.ChangeShapes Go.WideShapes Go.ChangeAt Go.RowKit Jn
set_option maxHeartbeats 1000000
set_option maxRecDepth 100000

/-- The block g holds the bytes X. -/
def Blk (w : World) (g : Nat) (T : TypeId) (X : List Nat) : Prop := w.heap[g]? = some (.cells (bs X).toArray T (0, 0))
theorem Blk.lt {w : World} {g : Nat} {T : TypeId} {X : List Nat} (h : Blk w g T X) : g < w.heap.size := (Array.getElem?_eq_some_iff.1 h).1
theorem Blk.cell {w : World} {g : Nat} {T : TypeId} {X : List Nat} (h : Blk w g T X) (i : Nat) (hi : i < X.length) : ∃ y : Nat, w.cell? ⟨g, i, none⟩ = some (.int .u8 (y : Int)) := by
  rw [cell_of_row _ _ _ _ _ _ h]
  exact ⟨X[i], by simp [bs, hi]⟩
theorem Blk.free {w : World} {g : Nat} {T : TypeId} {X : List Nat} (h : Blk w g T X) (i : Nat) : w.frozen? ⟨g, i, none⟩ = false := frozen_of_row _ _ _ _ _ h
theorem Blk.set {w : World} {g : Nat} {T : TypeId} {X : List Nat} (h : Blk w g T X) (i x : Nat) : Blk (w.setCell ⟨g, i, none⟩ (.int .u8 (x : Int))) g T (X.set i x) := by
  unfold Blk at *
  simp only [World.setCell, Array.getElem?_modify, h]
  simp [bs, List.map_set]
theorem Blk.keep {S : Nat → Prop} {w w' : World} {g : Nat} {T : TypeId} {X : List Nat} (h : Blk w g T X) (hk : Keeps S w w') (hn : ¬ S g) : Blk w' g T X := (hk.block g h.lt hn).trans h
theorem Blk.below {B : Nat} {w w' : World} {g : Nat} {T : TypeId} {X : List Nat} (h : Blk w g T X) (hk : Below B w w') (hn : g < B) : Blk w' g T X := (hk.block g hn).trans h

abbrev At1 (g : Nat) : Nat → Prop := fun k => k = g
theorem Keeps.below {S : Nat → Prop} {B : Nat} {w0 w w' : World} (h : Keeps S w w') (hb : Below B w0 w) (hB : B ≤ w.heap.size) (hS : ∀ k, k < B → ¬ S k) : Below B w0 w' :=
  ⟨h.os.trans hb.os, h.tape.trans hb.tape, h.output.trans hb.output, Nat.le_trans hb.size h.size, fun i hi => (h.block i (by omega) (hS i hi)).trans (hb.block i hi)⟩

theorem cut_at (g off n cap m : Nat) (i : Int) (hi : i = m) (hm : m ≤ n) (hmc : m < cap) (u : World) : (Instr.sliceAt 22 (.slice (some ⟨g, off, none⟩) n cap) (some (.int .i64 i)) none none).run Tryd.prog u = .ok (.slice (some ⟨g, off + m, none⟩) (n - m) (cap - m)) u := by
  subst hi
  have hu : Tryd.prog.underlying 22 = some (.slice (Tryd.prog.elem 22)) := by kernel_rfl
  have hsz : (sizeOf (Tryd.prog.elem 22)).run Tryd.prog u = .ok 1 u := by kernel_rfl
  rw [run_sliceAt_slice (h := hu), run_slice_l (ht := hu) (h0 := by omega) (h1 := by omega), hsz]
  have hne : ¬ cap = m := by omega
  simp [Result.andThen, sliced, hne, Addr.add_mid]

/-- A number of four bytes, laid at a place. -/
def put4 (X : List Nat) (p n : Nat) : List Nat := (((X.set p (n / 16777216 % 256)).set (p + 1) (n / 65536 % 256)).set (p + 2) (n / 256 % 256)).set (p + 3) (n % 256)
theorem put4_len (X : List Nat) (p n : Nat) : (put4 X p n).length = X.length := by simp [put4]
theorem put4_eq {X : List Nat} {p n : Nat} (h : p + 4 ≤ X.length) : put4 X p n = X.take p ++ w4 n ++ X.drop (p + 4) := by
  obtain ⟨A, R, rfl, hA⟩ : ∃ A R, X = A ++ R ∧ A.length = p := ⟨X.take p, X.drop p, (List.take_append_drop _ _).symm, by rw [List.length_take]; omega⟩
  have hR : 4 ≤ R.length := by rw [List.length_append] at h; omega
  subst hA
  match R, hR with
  | a :: b :: c :: d :: R, _ => simp [put4, w4]

/-- Numbers, laid side by side from a place on. -/
def puts4 (X : List Nat) (p : Nat) : List Nat → List Nat
  | [] => X
  | n :: N => puts4 (put4 X p n) (p + 4) N
theorem puts4_len : ∀ (N X : List Nat) (p : Nat), (puts4 X p N).length = X.length
  | [], _, _ => rfl
  | n :: N, X, p => by rw [puts4, puts4_len N, put4_len]
theorem puts4_snoc : ∀ (N X : List Nat) (p n : Nat), puts4 X p (N ++ [n]) = put4 (puts4 X p N) (p + 4 * N.length) n
  | [], _, _, _ => rfl
  | m :: N, X, p, n => by
    rw [List.cons_append, puts4, puts4_snoc N, puts4, List.length_cons]
    congr 1
    omega
theorem puts4_eq : ∀ (N X : List Nat) (p : Nat), p + 4 * N.length ≤ X.length → puts4 X p N = X.take p ++ N.flatMap w4 ++ X.drop (p + 4 * N.length)
  | [], X, p, _ => by simp [puts4]
  | n :: N, X, p, h => by
    rw [List.length_cons] at h
    rw [puts4, puts4_eq N _ _ (by rw [put4_len]; omega), put4_eq (by omega)]
    have l1 : (X.take p ++ w4 n).length = p + 4 := by rw [List.length_append, List.length_take, w4_len]; omega
    rw [List.take_left' l1, List.flatMap_cons, List.length_cons]
    have e : (X.take p ++ w4 n ++ X.drop (p + 4)).drop (p + 4 + 4 * N.length) = X.drop (p + 4 * (N.length + 1)) := by
      rw [List.drop_append, l1, List.drop_of_length_le (by omega), List.nil_append, List.drop_drop]
      congr 1
      omega
    rw [e]
    simp [List.append_assoc]

def u32s (N : List Nat) : List Value := N.map fun (x : Nat) => Value.int .u32 (x : Int)

theorem putWords_any (g off n cap h m : Nat) (T T' : TypeId) (X N : List Nat) (w : World) (hB : Blk w g T X) (hN : w.heap[h]? = some (.cells (u32s N).toArray T' (0, 0))) (hm : m = N.length) (hgh : h ≠ g) (hn : 4 * N.length ≤ n) (hc : n ≤ cap) (hcm : cap ≤ 1099511627776) (ho : off + n ≤ X.length) (hlt : ∀ x ∈ N, x < 4294967296) :
    Calls Tryd.prog 68 #[.slice (some ⟨g, off, none⟩) n cap, .slice (some ⟨h, 0, none⟩) m m] w fun e w' => e = .returned (.tuple #[]) ∧ Blk w' g T (puts4 X off N) ∧ Keeps (At1 g) w w' := by
  have HB := hid hB
  have HNN := hid hN
  have HL := hid hlt
  have HM := hid hm
  have hm4 : 4 * m ≤ n := by omega
  clear hB hN hlt hm
  go_enter Tryd.func68, Tryd.ntmps68
  go_wp2_with fail
  go_loopw [9] (fun i wr => ∃ k : Nat, i = .int .i64 (k : Int) ∧ k ≤ m ∧ Hid (Blk wr g T (puts4 X off (N.take k))) ∧ Hid (Keeps (At1 g) w wr)) (fun i _ => m - (intOf i).toNat)
  case atStart => exact ⟨0, rfl, Nat.zero_le _, HB, Keeps.refl _ _⟩
  case round =>
    obtain ⟨k, rfl, hk, HBk, HK⟩ := hrel
    by_cases hlt : k < m
    · obtain ⟨x, hx⟩ : ∃ x, N[k]? = some x := ⟨_, List.getElem?_eq_getElem (by have := HM.out; omega)⟩
      have hx4 := HL.out x (List.mem_of_getElem? hx)
      have hcx : wr.cell? ⟨h, k, none⟩ = some (.int .u32 (x : Int)) := by
        rw [cell_of_row _ _ _ _ _ _ ((HK.out.block h (Array.getElem?_eq_some_iff.1 HNN.out).1 hgh).trans HNN.out)]
        simp [u32s, hx]
      have hcut := cut_at g off n cap (4 * k) (4 * (k : Int)) (by omega) (by omega) (by omega)
      have HE : Hid (puts4 X off (N.take (k + 1)) = put4 (puts4 X off (N.take k)) (off + 4 * k) x) := by
        unfold Hid
        rw [take_snoc hx, puts4_snoc, List.length_take, Nat.min_eq_left (by have := HM.out; omega)]
      have HLn : Hid ((puts4 X off (N.take k)).length = X.length) := puts4_len _ _ _
      generalize puts4 X off (N.take k) = Y at *
      have hp : off + 4 * k + 4 ≤ Y.length := by have := HLn.out; omega
      obtain ⟨p, HP⟩ : ∃ p, Hid (p = off + 4 * k) := ⟨_, rfl⟩
      rw [← HP.out] at hcut hp
      have HE2 : Hid (puts4 X off (N.take (k + 1)) = put4 Y p x) := by unfold Hid; rw [HE.out, HP.out]
      obtain ⟨y0, c0⟩ := HBk.out.cell p (by omega)
      obtain ⟨y1, c1⟩ := HBk.out.cell (p + 1) (by omega)
      obtain ⟨y2, c2⟩ := HBk.out.cell (p + 2) (by omega)
      obtain ⟨y3, c3⟩ := HBk.out.cell (p + 3) (by omega)
      have f0 := HBk.out.free p
      have f1 := HBk.out.free (p + 1)
      have f2 := HBk.out.free (p + 2)
      have f3 := HBk.out.free (p + 3)
      have HR : Hid (Blk ((((wr.setCell ⟨g, p, none⟩ (.int .u8 ((x / 16777216 % 256 : Nat) : Int))).setCell ⟨g, p + 1, none⟩ (.int .u8 ((x / 65536 % 256 : Nat) : Int))).setCell ⟨g, p + 2, none⟩ (.int .u8 ((x / 256 % 256 : Nat) : Int))).setCell ⟨g, p + 3, none⟩ (.int .u8 ((x % 256 : Nat) : Int))) g T (put4 Y p x) ∧ Keeps (At1 g) w ((((wr.setCell ⟨g, p, none⟩ (.int .u8 ((x / 16777216 % 256 : Nat) : Int))).setCell ⟨g, p + 1, none⟩ (.int .u8 ((x / 65536 % 256 : Nat) : Int))).setCell ⟨g, p + 2, none⟩ (.int .u8 ((x / 256 % 256 : Nat) : Int))).setCell ⟨g, p + 3, none⟩ (.int .u8 ((x % 256 : Nat) : Int)))) :=
        ⟨(((HBk.out.set _ _).set _ _).set _ _).set _ _, (((HK.out.set _ rfl _).set _ rfl _).set _ rfl _).set _ rfl _⟩
      have q0 : ((x / 16777216 % 256 : Nat) : Int) = (x : Int) / 16777216 := by omega
      have q1 : ((x / 65536 % 256 : Nat) : Int) = (x : Int) / 65536 % 256 := by omega
      have q2 : ((x / 256 % 256 : Nat) : Int) = (x : Int) / 256 % 256 := by omega
      have q3 : ((x % 256 : Nat) : Int) = (x : Int) % 256 := by omega
      rw [q0, q1, q2, q3] at HR
      clear HE HBk HK q0 q1 q2 q3 hx HLn
      have n1 : ¬ p + 1 = p := by omega
      have n2 : ¬ p + 2 = p := by omega
      have n3 : ¬ p + 3 = p := by omega
      have n4 : ¬ p + 2 = p + 1 := by omega
      have n5 : ¬ p + 3 = p + 1 := by omega
      have n6 : ¬ p + 3 = p + 2 := by omega
      have z0 : (0 : Int) < ((n - 4 * k : Nat) : Int) := by omega
      have z1 : (1 : Int) < ((n - 4 * k : Nat) : Int) := by omega
      have z2 : (2 : Int) < ((n - 4 * k : Nat) : Int) := by omega
      have z3 : (3 : Int) < ((n - 4 * k : Nat) : Int) := by omega
      go_wp2_with fail
      go_round
      case rel => exact ⟨k + 1, by go_num, by omega, by unfold Hid; rw [HE2.out]; exact HR.out.1, HR.out.2⟩
      case measure => simp [intOf]; omega
    · have HE : Hid (puts4 X off (N.take k) = puts4 X off N) := by
        unfold Hid; rw [List.take_of_length_le (by have := HM.out; omega)]
      go_wp2_with fail
      exact bodyPost_end (results_none Tryd.results68 _ _ _) rfl ⟨rfl, by rw [← HE.out]; exact HBk.out, HK.out⟩
end Go.Proofs.YteoebmpfdcbbmacDoor
