import Derived.Test.YtdoeebbcieiimaaQ
namespace Go.Proofs.Ytdoeebbcieiimaa
open Go.ChangeShapes Go.WideShapes Go.ChangeAt Go.RowKit
set_option maxHeartbeats 400000
set_option maxRecDepth 100000

/-- The block g holds the bytes X. -/
def Blk (w : World) (g : Nat) (X : List Nat) : Prop := w.heap[g]? = some (.cells (bs X).toArray 5 (0, 0))

theorem Blk.lt {w : World} {g : Nat} {X : List Nat} (h : Blk w g X) : g < w.heap.size := (Array.getElem?_eq_some_iff.1 h).1

theorem Blk.cell {w : World} {g : Nat} {X : List Nat} (h : Blk w g X) (i : Nat) (hi : i < X.length) : w.cell? ⟨g, i, none⟩ = some (.int .u8 ((byt X i : Nat) : Int)) := by
  rw [cell_of_row _ _ _ _ _ _ h]
  simp [bs, byt, hi]

theorem Blk.free {w : World} {g : Nat} {X : List Nat} (h : Blk w g X) (i : Nat) : w.frozen? ⟨g, i, none⟩ = false := frozen_of_row _ _ _ _ _ h

theorem Blk.set {w : World} {g : Nat} {X : List Nat} (h : Blk w g X) (i x : Nat) : Blk (w.setCell ⟨g, i, none⟩ (.int .u8 (x : Int))) g (X.set i x) := by
  unfold Blk at *
  simp only [World.setCell, Array.getElem?_modify, h]
  simp [bs, List.map_set]

/-- All but the block g stands as it did. -/
structure But (g : Nat) (w w' : World) : Prop where
  os : w'.os = w.os
  tape : w'.tape = w.tape
  output : w'.output = w.output
  size : w.heap.size ≤ w'.heap.size
  block : ∀ i, i < w.heap.size → i ≠ g → w'.heap[i]? = w.heap[i]?

theorem But.refl (g : Nat) (w : World) : But g w w := ⟨rfl, rfl, rfl, Nat.le_refl _, fun _ _ _ => rfl⟩
theorem But.trans {g : Nat} {a b c : World} (h1 : But g a b) (h2 : But g b c) : But g a c :=
  ⟨h2.os.trans h1.os, h2.tape.trans h1.tape, h2.output.trans h1.output, Nat.le_trans h1.size h2.size, fun i hi hn => (h2.block i (Nat.lt_of_lt_of_le hi h1.size) hn).trans (h1.block i hi hn)⟩
theorem But.set (g i : Nat) (w : World) (v : Value) : But g w (w.setCell ⟨g, i, none⟩ v) := ⟨rfl, rfl, rfl, by simp [World.setCell], fun j _ hn => by simp [World.setCell, Array.getElem?_modify, Ne.symm hn]⟩
theorem But.drew {g : Nat} {w w' : World} (h : But g w w') : But g w w'.drew := ⟨h.os, h.tape, h.output, h.size, h.block⟩
theorem But.below {g : Nat} {w w' w0 : World} {B : Nat} (h : But g w w') (hb : Below B w0 w) (hB : B ≤ w.heap.size) (hg : B ≤ g) : Below B w0 w' :=
  ⟨h.os.trans hb.os, h.tape.trans hb.tape, h.output.trans hb.output, Nat.le_trans hb.size h.size, fun i hi => (h.block i (by omega) (by omega)).trans (hb.block i hi)⟩

theorem write16_any (g off n cap x : Nat) (X : List Nat) (w : World) (hB : Blk w g X) (hn : 2 ≤ n) (ho : off + n ≤ X.length) (hx : x < 65536) :
    Calls Try.prog 57 #[.slice (some ⟨g, off, none⟩) n cap, .int .u16 (x : Int)] w fun e w' => e = .returned (.tuple #[]) ∧ Blk w' g ((X.set off (x / 256)).set (off + 1) (x % 256)) ∧ But g w w' := by
  have c0 := hB.cell off (by omega)
  have c1 := hB.cell (off + 1) (by omega)
  have f0 := hB.free off
  have f1 := hB.free (off + 1)
  have HR : Hid (Blk ((w.setCell ⟨g, off, none⟩ (.int .u8 ((x / 256 : Nat) : Int))).setCell ⟨g, off + 1, none⟩ (.int .u8 ((x % 256 : Nat) : Int))) g ((X.set off (x / 256)).set (off + 1) (x % 256)) ∧ But g w ((w.setCell ⟨g, off, none⟩ (.int .u8 ((x / 256 : Nat) : Int))).setCell ⟨g, off + 1, none⟩ (.int .u8 ((x % 256 : Nat) : Int)))) := ⟨(hB.set _ _).set _ _, (But.set _ _ _ _).trans (But.set _ _ _ _)⟩
  generalize byt X off = y0 at c0
  generalize byt X (off + 1) = y1 at c1
  have hne : ¬ off + 1 = off := by omega
  have hne' : ¬ off = off + 1 := by omega
  clear hB
  go_enter Try.func57, Try.ntmps57
  go_wp2_with fail
  have e0 : ((x / 256 : Nat) : Int) = (x : Int) / 256 := by omega
  have e1 : ((x % 256 : Nat) : Int) = (x : Int) % 256 := by omega
  rw [e0, e1] at HR
  exact bodyPost_end (results_none Try.results57 _ _ _) rfl ⟨rfl, HR.out.1, HR.out.2⟩

/-- A cut 'b[m:]' of which something is left room for. -/
theorem cut_at (g off n cap m : Nat) (i : Int) (hi : i = m) (hm : m ≤ n) (hmc : m < cap) (u : World) : (Instr.sliceAt 22 (.slice (some ⟨g, off, none⟩) n cap) (some (.int .i64 i)) none none).run Try.prog u = .ok (.slice (some ⟨g, off + m, none⟩) (n - m) (cap - m)) u := by
  subst hi
  have hu : Try.prog.underlying 22 = some (.slice (Try.prog.elem 22)) := by kernel_rfl
  have hsz : (sizeOf (Try.prog.elem 22)).run Try.prog u = .ok 1 u := by kernel_rfl
  rw [run_sliceAt_slice (h := hu), run_slice_l (ht := hu) (h0 := by omega) (h1 := by omega), hsz]
  have hne : ¬ cap = m := by omega
  simp [Result.andThen, sliced, hne, Addr.add_mid]

theorem write32_any (g off n cap x : Nat) (X : List Nat) (w : World) (hB : Blk w g X) (hn : 4 ≤ n) (hc : n ≤ cap) (ho : off + n ≤ X.length) (hx : x < 4294967296) (_hX : X.length ≤ 1099511627776) :
    Calls Try.prog 59 #[.slice (some ⟨g, off, none⟩) n cap, .int .u32 (x : Int)] w fun e w' => e = .returned (.tuple #[]) ∧ Blk w' g ((((X.set off (x / 65536 / 256)).set (off + 1) (x / 65536 % 256)).set (off + 2) (x % 65536 / 256)).set (off + 3) (x % 65536 % 256)) ∧ But g w w' := by
  have H1 := hid (write16_any g off n cap (x / 65536) X w hB (by omega) ho (by omega))
  have H2 : Hid (∀ (Y : List Nat) (u : World), Blk u g Y → Y.length = X.length → Calls Try.prog 57 #[.slice (some ⟨g, off + 2, none⟩) (n - 2) (cap - 2), .int .u16 ((x % 65536 : Nat) : Int)] u fun e w' => e = .returned (.tuple #[]) ∧ Blk w' g ((Y.set (off + 2) (x % 65536 / 256)).set (off + 2 + 1) (x % 65536 % 256)) ∧ But g u w') := fun Y u hY hl => write16_any g (off + 2) (n - 2) (cap - 2) (x % 65536) Y u hY (by omega) (by omega) (by omega)
  have hcut := cut_at g off n cap 2 2 rfl (by omega) (by omega)
  have e0 : ((x / 65536 : Nat) : Int) = (x : Int) / 65536 := by omega
  have e1 : ((x % 65536 : Nat) : Int) = (x : Int) % 65536 := by omega
  rw [e0] at H1
  rw [e1] at H2
  clear hB
  go_enter Try.func59, Try.ntmps59
  go_wp2_with fail
  refine H1.out.mono ?_
  rintro _ w2 ⟨rfl, hb2, hu2⟩
  go_wp2_with fail
  refine (H2.out _ _ hb2 (by simp)).mono ?_
  rintro _ w3 ⟨rfl, hb3, hu3⟩
  go_wp2_with fail
  exact bodyPost_end (results_none Try.results59 _ _ _) rfl ⟨rfl, hb3, hu2.trans hu3⟩
end Go.Proofs.Ytdoeebbcieiimaa
