import Derived.Test.YthpokoiclfbddaaDoorEA
import Derived.Deep.RegionHeld3
import Derived.Deep.RegionWith
namespace Go.Proofs.YthpokoiclfbddaaDoor.N
open Go.ChangeShapes Go.WideShapes Go.ChangeAt Go.RowKit
set_option maxHeartbeats 400000
set_option maxRecDepth 100000

/-- The block g holds the bytes X. -/
def Blk (w : World) (g : Nat) (X : List Nat) : Prop := w.heap[g]? = some (.cells (bs X).toArray 5 (0, 0))

theorem Blk.lt {w : World} {g : Nat} {X : List Nat} (h : Blk w g X) : g < w.heap.size := (Array.getElem?_eq_some_iff.1 h).1

theorem Blk.cell {w : World} {g : Nat} {X : List Nat} (h : Blk w g X) (i : Nat) (hi : i < X.length) : w.cell? ⟨g, i, none⟩ = some (.int .u8 ((byt X i : Nat) : Int)) := by
  rw [cell_of_row _ _ _ _ _ _ h]
  simp [bs, byt, hi]

theorem Blk.free {w : World} {g : Nat} {X : List Nat} (h : Blk w g X) (i : Nat) : w.frozen? ⟨g, i, none⟩ = false := frozen_of_row _ _ _ _ _ h

theorem Blk.set {w : World} {g : Nat} {X : List Nat} (h : Blk w g X) (i x : Nat) : Blk (w.setCell ⟨g, i, none⟩ (.int .u8 (x : Int))) g (X.set i x) := by
  unfold Blk at *
  simp only [World.setCell, Array.getElem?_modify, h]
  simp [bs, List.map_set]

/-- All but the block g stands as it did. -/
structure But (g : Nat) (w w' : World) : Prop where
  os : w'.os = w.os
  tape : w'.tape = w.tape
  output : w'.output = w.output
  size : w.heap.size ≤ w'.heap.size
  block : ∀ i, i < w.heap.size → i ≠ g → w'.heap[i]? = w.heap[i]?

theorem But.refl (g : Nat) (w : World) : But g w w := ⟨rfl, rfl, rfl, Nat.le_refl _, fun _ _ _ => rfl⟩
theorem But.trans {g : Nat} {a b c : World} (h1 : But g a b) (h2 : But g b c) : But g a c :=
  ⟨h2.os.trans h1.os, h2.tape.trans h1.tape, h2.output.trans h1.output, Nat.le_trans h1.size h2.size, fun i hi hn => (h2.block i (Nat.lt_of_lt_of_le hi h1.size) hn).trans (h1.block i hi hn)⟩
theorem But.set (g i : Nat) (w : World) (v : Value) : But g w (w.setCell ⟨g, i, none⟩ v) := ⟨rfl, rfl, rfl, by simp [World.setCell], fun j _ hn => by simp [World.setCell, Array.getElem?_modify, Ne.symm hn]⟩
theorem But.drew {g : Nat} {w w' : World} (h : But g w w') : But g w w'.drew := ⟨h.os, h.tape, h.output, h.size, h.block⟩
theorem But.below {g : Nat} {w w' w0 : World} {B : Nat} (h : But g w w') (hb : Below B w0 w) (hB : B ≤ w.heap.size) (hg : B ≤ g) : Below B w0 w' :=
  ⟨h.os.trans hb.os, h.tape.trans hb.tape, h.output.trans hb.output, Nat.le_trans hb.size h.size, fun i hi => (h.block i (by omega) (by omega)).trans (hb.block i hi)⟩

theorem write16_any (g off n cap x : Nat) (X : List Nat) (w : World) (hB : Blk w g X) (hn : 2 ≤ n) (ho : off + n ≤ X.length) (hx : x < 65536) :
    Calls Tryd.prog 68 #[.slice (some ⟨g, off, none⟩) n cap, .int .u16 (x : Int)] w fun e w' => e = .returned (.tuple #[]) ∧ Blk w' g ((X.set off (x / 256)).set (off + 1) (x % 256)) ∧ But g w w' := by
  have c0 := hB.cell off (by omega)
  have c1 := hB.cell (off + 1) (by omega)
  have f0 := hB.free off
  have f1 := hB.free (off + 1)
  have HR : Hid (Blk ((w.setCell ⟨g, off, none⟩ (.int .u8 ((x / 256 : Nat) : Int))).setCell ⟨g, off + 1, none⟩ (.int .u8 ((x % 256 : Nat) : Int))) g ((X.set off (x / 256)).set (off + 1) (x % 256)) ∧ But g w ((w.setCell ⟨g, off, none⟩ (.int .u8 ((x / 256 : Nat) : Int))).setCell ⟨g, off + 1, none⟩ (.int .u8 ((x % 256 : Nat) : Int)))) := ⟨(hB.set _ _).set _ _, (But.set _ _ _ _).trans (But.set _ _ _ _)⟩
  generalize byt X off = y0 at c0
  generalize byt X (off + 1) = y1 at c1
  have hne : ¬ off + 1 = off := by omega
  have hne' : ¬ off = off + 1 := by omega
  clear hB
  go_enter Tryd.func68, Tryd.ntmps68
  go_wp2_with fail
  have e0 : ((x / 256 : Nat) : Int) = (x : Int) / 256 := by omega
  have e1 : ((x % 256 : Nat) : Int) = (x : Int) % 256 := by omega
  rw [e0, e1] at HR
  exact bodyPost_end (results_none Tryd.results68 _ _ _) rfl ⟨rfl, HR.out.1, HR.out.2⟩

/-- A cut 'b[m:]' of which something is left room for. -/
theorem cut_at (g off n cap m : Nat) (i : Int) (hi : i = m) (hm : m ≤ n) (hmc : m < cap) (u : World) : (Instr.sliceAt 32 (.slice (some ⟨g, off, none⟩) n cap) (some (.int .i64 i)) none none).run Tryd.prog u = .ok (.slice (some ⟨g, off + m, none⟩) (n - m) (cap - m)) u := by
  subst hi
  have hu : Tryd.prog.underlying 32 = some (.slice (Tryd.prog.elem 32)) := by kernel_rfl
  have hsz : (sizeOf (Tryd.prog.elem 32)).run Tryd.prog u = .ok 1 u := by kernel_rfl
  rw [run_sliceAt_slice (h := hu), run_slice_l (ht := hu) (h0 := by omega) (h1 := by omega), hsz]
  have hne : ¬ cap = m := by omega
  simp [Result.andThen, sliced, hne, Addr.add_mid]

theorem write32_any (g off n cap x : Nat) (X : List Nat) (w : World) (hB : Blk w g X) (hn : 4 ≤ n) (hc : n ≤ cap) (ho : off + n ≤ X.length) (hx : x < 4294967296) (_hX : X.length ≤ 1099511627776) :
    Calls Tryd.prog 70 #[.slice (some ⟨g, off, none⟩) n cap, .int .u32 (x : Int)] w fun e w' => e = .returned (.tuple #[]) ∧ Blk w' g ((((X.set off (x / 65536 / 256)).set (off + 1) (x / 65536 % 256)).set (off + 2) (x % 65536 / 256)).set (off + 3) (x % 65536 % 256)) ∧ But g w w' := by
  have H1 := hid (write16_any g off n cap (x / 65536) X w hB (by omega) ho (by omega))
  have H2 : Hid (∀ (Y : List Nat) (u : World), Blk u g Y → Y.length = X.length → Calls Tryd.prog 68 #[.slice (some ⟨g, off + 2, none⟩) (n - 2) (cap - 2), .int .u16 ((x % 65536 : Nat) : Int)] u fun e w' => e = .returned (.tuple #[]) ∧ Blk w' g ((Y.set (off + 2) (x % 65536 / 256)).set (off + 2 + 1) (x % 65536 % 256)) ∧ But g u w') := fun Y u hY hl => write16_any g (off + 2) (n - 2) (cap - 2) (x % 65536) Y u hY (by omega) (by omega) (by omega)
  have hcut := cut_at g off n cap 2 2 rfl (by omega) (by omega)
  have e0 : ((x / 65536 : Nat) : Int) = (x : Int) / 65536 := by omega
  have e1 : ((x % 65536 : Nat) : Int) = (x : Int) % 65536 := by omega
  rw [e0] at H1
  rw [e1] at H2
  clear hB
  go_enter Tryd.func70, Tryd.ntmps70
  go_wp2_with fail
  refine H1.out.mono ?_
  rintro _ w2 ⟨rfl, hb2, hu2⟩
  go_wp2_with fail
  refine (H2.out _ _ hb2 (by simp)).mono ?_
  rintro _ w3 ⟨rfl, hb3, hu3⟩
  go_wp2_with fail
  exact bodyPost_end (results_none Tryd.results70 _ _ _) rfl ⟨rfl, hb3, hu2.trans hu3⟩
end Go.Proofs.YthpokoiclfbddaaDoor.N

namespace Go.Proofs.YthpokoiclfbddaaDoor.N
open Go.ChangeShapes Go.WideShapes Go.ChangeAt Go.RowKit
set_option maxHeartbeats 400000
set_option maxRecDepth 100000

def lenOfPk (h : Hd) (B : List Nat) : Nat := 20 + h.opts.length + B.length

def builtL (h : Hd) (B : List Nat) : List Nat := if refE h B.length = 0 then hdBytes h (lenOfPk h B) (M.csum (hdBytes h (lenOfPk h B) 0)) ++ B else []

theorem refE_ok {h : Hd} {nb : Nat} (e : refE h nb = 0) : M.area h.opts = true ∧ M.pieceOk h.off nb h.mf = true ∧ 20 + h.opts.length + nb ≤ 65535 := by
  unfold refE at e
  split at e
  · rename_i h1
    split at e
    · rename_i h2
      split at e
      · rename_i h3; exact ⟨h1, h2, h3⟩
      · cases e
    · cases e
  · cases e

theorem area_len {o : List Nat} (h : M.area o = true) : o.length ≤ 40 ∧ o.length % 4 = 0 := by
  unfold M.area at h; simp at h; exact h.1

theorem piece_off {off : Int} {n : Nat} {m : Bool} (h : M.pieceOk off n m = true) : ∃ f : Nat, off = (f : Int) ∧ f ≤ 65528 ∧ f % 8 = 0 := by
  unfold M.pieceOk at h; simp at h
  exact ⟨off.toNat, by omega, by omega, by omega⟩

theorem hdBytes_ok {h : Hd} (hok : h.Ok) (ho : ∀ x ∈ h.opts, x < 256) (hl : h.opts.length ≤ 40) {f : Nat} (hf : h.off = (f : Int)) (hf1 : f ≤ 65528) {len sum : Nat} (h1 : len < 65536) (h2 : sum < 65536) : ∀ x ∈ hdBytes h len sum, x < 256 := by
  obtain ⟨k1, k2, k3, k4, k5, k6, k7⟩ := hok
  have hW : flagW h.df h.mf h.off.toNat < 65536 := by rw [hf, Int.toNat_natCast]; unfold flagW; split <;> split <;> omega
  generalize hw : flagW h.df h.mf h.off.toNat = W at *
  intro x hx
  unfold hdBytes at hx
  rw [hw, List.mem_append] at hx
  rcases hx with hx | hx
  · simp only [List.mem_cons, List.not_mem_nil, or_false] at hx
    rcases hx with rfl | rfl | rfl | rfl | rfl | rfl | rfl | rfl | rfl | rfl | rfl | rfl | rfl | rfl | rfl | rfl | rfl | rfl | rfl | rfl <;> omega
  · exact ho x hx

theorem hdBytes_len (h : Hd) (len sum : Nat) : (hdBytes h len sum).length = 20 + h.opts.length := by
  unfold hdBytes; rw [List.length_append]; rfl

theorem seesBB_one {w : World} {n : Nat} (hn : w.heap.size = n) (v : Value) (L : List Nat) (hv : SeesB w v L) (t : TypeId) : SeesBB (w.alloc (.cells #[v] t)) (.slice (some ⟨n, 0, none⟩) 1 1) [L] := by
  subst hn
  refine ⟨some ⟨w.heap.size, 0, none⟩, 1, rfl, by simp, by unfold maxLen; omega, fun j hj => ⟨w.heap.size, 0, v, rfl, by simp, ?_, ?_⟩⟩
  · match j, hj with
    | 0, _ => simp
  · match j, hj with
    | 0, _ => exact hv.below ((Below.refl _ _).alloc (Nat.le_refl _) _)

theorem ret_two {a b : Value} {k : IntKind} {i j : Int} (h : i = j) (g : a = b) : Ending.returned (.tuple #[a, .int k i]) = .returned (.tuple #[b, .int k j]) := by rw [h, g]

end Go.Proofs.YthpokoiclfbddaaDoor.N

namespace Go.Proofs.YthpokoiclfbddaaDoor.N
open Go.ChangeShapes Go.WideShapes Go.ChangeAt Go.RowKit
set_option maxHeartbeats 400000
set_option maxRecDepth 100000

theorem or_14 (a : Nat) (ha : a < 16384) : bits .or .u16 (a : Int) 16384 = ((a + 16384 : Nat) : Int) := by
  have := u16_or_nat a 16384 (by omega) (by omega)
  rw [show ((16384 : Nat) : Int) = 16384 from rfl] at this
  rw [this]
  congr 1
  have h := Nat.two_pow_add_eq_or_of_lt (i := 14) (b := a) (by omega) 1
  rw [Nat.or_comm]
  have h' : 16384 + a = 16384 ||| a := h
  omega

theorem or_13 (a : Nat) (ha : a < 8192) (k : Nat) (hk : k < 2) : bits .or .u16 ((a + k * 16384 : Nat) : Int) 8192 = ((a + k * 16384 + 8192 : Nat) : Int) := by
  have := u16_or_nat (a + k * 16384) 8192 (by omega) (by omega)
  rw [show ((8192 : Nat) : Int) = 8192 from rfl] at this
  rw [this]
  congr 1
  have h1 := Nat.two_pow_add_eq_or_of_lt (i := 13) (b := a) (by omega) 1
  have h2 := Nat.two_pow_add_eq_or_of_lt (i := 13) (b := a) (by omega) (2 * k)
  have h3 := Nat.two_pow_add_eq_or_of_lt (i := 13) (b := a) (by omega) (2 * k + 1)
  rw [show a + k * 16384 = 2 ^ 13 * (2 * k) + a by omega, h2, show 2 ^ 13 * (2 * k) ||| a ||| 8192 = (2 ^ 13 * (2 * k) ||| 8192) ||| a by rw [Nat.or_assoc, Nat.or_comm a, ← Nat.or_assoc]]
  rw [show 2 ^ 13 * (2 * k) ||| 8192 = 2 ^ 13 * (2 * k + 1) from by
    rcases Nat.lt_or_ge k 1 with h | h
    · obtain rfl : k = 0 := by omega
      decide
    · obtain rfl : k = 1 := by omega
      decide]
  rw [← h3, ← h2]
  omega

theorem frag_any (h : Hd) (vo : Value) (f : Nat) (w : World) (hf : h.off = (f : Int)) (hf1 : f ≤ 65528) :
    Calls Tryd.prog 69 #[.agg (hdCells h vo)] w fun e w' => e = .returned (.int .u16 ((flagW h.df h.mf f : Nat) : Int)) ∧ w' = w.alloc (.cells (hdCells h vo) 34) := by
  obtain ⟨tos, id, df, mf, off, ttl, proto, src, dst, opts⟩ := h
  simp only at hf
  subst hf
  unfold hdCells
  simp only
  have h14 := or_14 (f / 8) (by omega)
  have h13a := or_13 (f / 8) (by omega) 0 (by omega)
  have h13b := or_13 (f / 8) (by omega) 1 (by omega)
  rw [show ((f / 8 : Nat) : Int) = (f : Int) / 8 by omega] at h14
  rw [show ((f / 8 + 0 * 16384 : Nat) : Int) = (f : Int) / 8 by omega] at h13a
  rw [show ((f / 8 + 1 * 16384 : Nat) : Int) = (f : Int) / 8 + 16384 by omega] at h13b
  have HE : Hid (flagW df mf f = f / 8 + (if df then 16384 else 0) + (if mf then 8192 else 0)) := rfl
  generalize flagW df mf f = R at *
  cases df <;> cases mf
  all_goals (
    go_enter Tryd.func69, Tryd.ntmps69
    go_wp2_with fail
    go_ret
    exact ⟨ret_int (by rw [HE.out]; first | (simp; done) | (simp [h13b]; done)), rfl⟩)

theorem or_64 (a : Nat) (ha : a < 64) : bits .or .u8 64 (a : Int) = ((64 + a : Nat) : Int) := by
  have := u8_or_nat 64 a (by omega) (by omega)
  rw [show ((64 : Nat) : Int) = 64 from rfl] at this
  rw [this]
  congr 1
  exact (Nat.two_pow_add_eq_or_of_lt (i := 6) (b := a) (by omega) 1).symm

def hd20 (h : Hd) (len sum : Nat) : List Nat :=
  [69 + h.opts.length / 4, h.tos, len / 256, len % 256, h.id / 256, h.id % 256, flagW h.df h.mf h.off.toNat / 256, flagW h.df h.mf h.off.toNat % 256, h.ttl, h.proto, sum / 256, sum % 256,
   h.src / 65536 / 256, h.src / 65536 % 256, h.src % 65536 / 256, h.src % 65536 % 256, h.dst / 65536 / 256, h.dst / 65536 % 256, h.dst % 65536 / 256, h.dst % 65536 % 256]

theorem hdBytes_eq (h : Hd) (len sum : Nat) : hdBytes h len sum = hd20 h len sum ++ h.opts := rfl

def z20 : List Nat := [0, 0, 0, 0, 0, 0, 0, 0, 0, 0, 0, 0, 0, 0, 0, 0, 0, 0, 0, 0]

set_option maxHeartbeats 2000000 in
theorem layHead_any (h : Hd) (vo : Value) (g len f : Nat) (R : List Nat) (w : World) (hok : h.Ok) (hB : Blk w g (z20 ++ R)) (hlen : (z20 ++ R).length = len) (hl2 : len < 65536) (hf : h.off = (f : Int)) (hf1 : f ≤ 65528) (hvo : SeesB w vo h.opts) (hol : h.opts.length ≤ 40) (hom : h.opts.length % 4 = 0) :
    Calls Tryd.prog 48 #[.slice (some ⟨g, 0, none⟩) len len, .agg (hdCells h vo)] w fun e w' => e = .returned (.tuple #[]) ∧ Blk w' g (hd20 h len 0 ++ R) ∧ But g w w' := by
  have hl20 : 20 ≤ len := by rw [← hlen, List.length_append]; show 20 ≤ 20 + _; omega
  obtain ⟨tos, id, df, mf, off, ttl, proto, src, dst, opts⟩ := h
  simp only at hf hvo hol hom
  subst hf
  obtain ⟨h, hh⟩ : ∃ h : Hd, h = ⟨tos, id, df, mf, (f : Int), ttl, proto, src, dst, opts⟩ := ⟨_, rfl⟩
  rw [← hh] at hok ⊢
  obtain ⟨w1, hw1⟩ : ∃ w1, w1 = w.alloc (.cells (hdCells h vo) 34) := ⟨_, rfl⟩
  have hs1 : w1.heap.size = w.heap.size + 1 := by rw [hw1]; simp
  have hg := hB.lt
  have hu1 : But g w w1 := by
    have hb : Below w.heap.size w w1 := by rw [hw1]; exact (Below.refl _ _).alloc (Nat.le_refl _) _
    exact ⟨hb.os, hb.tape, hb.output, hb.size, fun i hi _ => hb.block i hi⟩
  have hB1 : Blk w1 g (z20 ++ R) := by
    have hb : Below w.heap.size w w1 := by rw [hw1]; exact (Below.refl _ _).alloc (Nat.le_refl _) _
    exact (hb.block g hg).trans hB
  have HD : Hid (∀ u, But g w1 u → u.heap[w.heap.size]? = some (.cells (hdCells h vo) 34)) := fun u hu => by
    rw [hu.block w.heap.size (by omega) (by omega), hw1]
    exact heap_alloc_new w _
  obtain ⟨ao, n, cap, rfl, HN, hn1, hn2⟩ := hvo.shape
  have hn40 : n ≤ 40 := by have := HN.out; omega
  have hn4 : n % 4 = 0 := by have := HN.out; omega
  have H64 := or_64 ((20 + n) / 4) (by omega)
  rw [show (((20 + n) / 4 : Nat) : Int) = (20 + (n : Int)) / 4 by omega] at H64
  have HFR : Hid (∀ u, Calls Tryd.prog 69 #[.agg (hdCells h (.slice ao n cap))] u fun e w' => e = .returned (.int .u16 ((flagW h.df h.mf f : Nat) : Int)) ∧ w' = u.alloc (.cells (hdCells h (.slice ao n cap)) 34)) := fun u => frag_any h _ f u (by rw [hh]) hf1
  have HLD : Hid (∀ u, But g w1 u → (Instr.loadAt 34 (.pointer (some ⟨w.heap.size, 0, none⟩))).run Tryd.prog u = .ok (.agg (hdCells h (.slice ao n cap))) u) := fun u hu => by
    obtain ⟨fs, hu30⟩ := und27
    refine run_loadAt_mid u w.heap.size 0 34 (hdCells h (.slice ao n cap)).toList (.struct fs) (fun j v hv => ?_) hu30 rfl (by rw [show (Tryd.prog.info? 34).map (·.size) = some 10 from by kernel_rfl]; rfl)
    rw [Nat.zero_add, cell_of_row _ _ _ _ _ _ (HD.out u hu), ← hv, Array.getElem?_toList]
  have HFW : Hid (flagW h.df h.mf f < 65536) := by unfold Hid flagW; split <;> split <;> omega
  have HOK := hid hok
  have HW1 := hid hw1
  have HU1 := hid hu1
  clear hw1 hu1 hB
  generalize hfl : flagW h.df h.mf f = fl at *
  have c0 := hB1.cell 0 (by rw [hlen]; omega)
  have f0 := hB1.free 0
  have HDC : Hid (∀ u, But g w1 u → u.cell? ⟨w.heap.size, 0, none⟩ = some (.int .u8 (tos : Int)) ∧ u.cell? ⟨w.heap.size, 1, none⟩ = some (.int .u16 (id : Int)) ∧ u.cell? ⟨w.heap.size, 2, none⟩ = some (.bool df) ∧ u.cell? ⟨w.heap.size, 3, none⟩ = some (.bool mf) ∧ u.cell? ⟨w.heap.size, 4, none⟩ = some (.int .i64 (f : Int)) ∧ u.cell? ⟨w.heap.size, 5, none⟩ = some (.int .u8 (ttl : Int)) ∧ u.cell? ⟨w.heap.size, 6, none⟩ = some (.int .u8 (proto : Int)) ∧ u.cell? ⟨w.heap.size, 7, none⟩ = some (.int .u32 (src : Int)) ∧ u.cell? ⟨w.heap.size, 8, none⟩ = some (.int .u32 (dst : Int)) ∧ u.cell? ⟨w.heap.size, 9, none⟩ = some (.slice ao n cap)) := fun u hu => by
    have hr := hd_at (HD.out u hu)
    rw [hh] at hr
    exact hr
  obtain ⟨d0, _, _, _, _, _, _, _, _, d9⟩ := HDC.out _ (But.refl _ _)
  generalize hX : z20 ++ R = X at *
  generalize byt X 0 = y0 at c0
  have HHC : Hid (hdCells h (.slice ao n cap) = #[.int .u8 (tos : Int), .int .u16 (id : Int), .bool df, .bool mf, .int .i64 (f : Int), .int .u8 (ttl : Int), .int .u8 (proto : Int), .int .u32 (src : Int), .int .u32 (dst : Int), .slice ao n cap]) := by unfold Hid; rw [hh]; rfl
  rw [HHC.out] at HW1 HFR ⊢
  have hsrc : src < 4294967296 := by have := hok.src; rw [hh] at this; exact this
  have hdst : dst < 4294967296 := by have := hok.dst; rw [hh] at this; exact this
  have hid16 : id < 65536 := by have := hok.id; rw [hh] at this; exact this
  have hcut : ∀ m : Nat, m ≤ 16 → ∀ u : World, (Instr.sliceAt 32 (.slice (some ⟨g, 0, none⟩) len len) (some (.int .i64 (m : Int))) none none).run Tryd.prog u = .ok (.slice (some ⟨g, m, none⟩) (len - m) (len - m)) u := fun m hm u => by
    have := cut_at g 0 len len m (m : Int) rfl (by omega) (by omega) u
    rwa [Nat.zero_add] at this
  have k2 : ∀ u : World, (Instr.sliceAt 32 (.slice (some ⟨g, 0, none⟩) len len) (some (.int .i64 2)) none none).run Tryd.prog u = .ok (.slice (some ⟨g, 2, none⟩) (len - 2) (len - 2)) u := hcut 2 (by omega)
  have k4 : ∀ u : World, (Instr.sliceAt 32 (.slice (some ⟨g, 0, none⟩) len len) (some (.int .i64 4)) none none).run Tryd.prog u = .ok (.slice (some ⟨g, 4, none⟩) (len - 4) (len - 4)) u := hcut 4 (by omega)
  have k6 : ∀ u : World, (Instr.sliceAt 32 (.slice (some ⟨g, 0, none⟩) len len) (some (.int .i64 6)) none none).run Tryd.prog u = .ok (.slice (some ⟨g, 6, none⟩) (len - 6) (len - 6)) u := hcut 6 (by omega)
  have k12 : ∀ u : World, (Instr.sliceAt 32 (.slice (some ⟨g, 0, none⟩) len len) (some (.int .i64 12)) none none).run Tryd.prog u = .ok (.slice (some ⟨g, 12, none⟩) (len - 12) (len - 12)) u := hcut 12 (by omega)
  have k16 : ∀ u : World, (Instr.sliceAt 32 (.slice (some ⟨g, 0, none⟩) len len) (some (.int .i64 16)) none none).run Tryd.prog u = .ok (.slice (some ⟨g, 16, none⟩) (len - 16) (len - 16)) u := hcut 16 (by omega)
  clear hcut
  have H16 : Hid (∀ (o x : Nat) (u : World) (Y : List Nat), o + 2 ≤ len → x < 65536 → But g w1 u → Blk u g Y → Y.length = len → Calls Tryd.prog 68 #[.slice (some ⟨g, o, none⟩) (len - o) (len - o), .int .u16 (x : Int)] u fun e w' => e = .returned (.tuple #[]) ∧ Hid (Blk w' g ((Y.set o (x / 256)).set (o + 1) (x % 256))) ∧ But g w1 w') := fun o x u Y h1 h2 h3 h4 h5 =>
    (write16_any g o (len - o) (len - o) x Y u h4 (by omega) (by omega) h2).mono fun e w' ⟨a, b, c⟩ => ⟨a, b, h3.trans c⟩
  have H32 : Hid (∀ (o x : Nat) (u : World) (Y : List Nat), o + 4 ≤ len → x < 4294967296 → But g w1 u → Blk u g Y → Y.length = len → Calls Tryd.prog 70 #[.slice (some ⟨g, o, none⟩) (len - o) (len - o), .int .u32 (x : Int)] u fun e w' => e = .returned (.tuple #[]) ∧ Hid (Blk w' g ((((Y.set o (x / 65536 / 256)).set (o + 1) (x / 65536 % 256)).set (o + 2) (x % 65536 / 256)).set (o + 3) (x % 65536 % 256))) ∧ But g w1 w') := fun o x u Y h1 h2 h3 h4 h5 =>
    (write32_any g o (len - o) (len - o) x Y u h4 (by omega) (Nat.le_refl _) (by omega) h2 (by omega)).mono fun e w' ⟨a, b, c⟩ => ⟨a, b, h3.trans c⟩
  have b0 : (0 : Int) < (len : Int) := by omega
  have b1 : (1 : Int) < (len : Int) := by omega
  have b8 : (8 : Int) < (len : Int) := by omega
  have b9 : (9 : Int) < (len : Int) := by omega
  go_enter Tryd.func48, Tryd.ntmps48
  go_upto_region 1 with fail
  rw [← HW1.out]
  go_upto_region 2 with fail
  have hv0 : (64 + (20 + (n : Int)) / 4) = ((69 + n / 4 : Nat) : Int) := by omega
  rw [hv0]
  have hB2 := hB1.set 0 (69 + n / 4)
  have hu2 := But.set g 0 w1 (.int .u8 ((69 + n / 4 : Nat) : Int))
  generalize w1.setCell ⟨g, 0, none⟩ (.int .u8 ((69 + n / 4 : Nat) : Int)) = w2 at hB2 hu2 ⊢
  obtain ⟨Y2, hY2⟩ : ∃ Y2, Y2 = X.set 0 (69 + n / 4) := ⟨_, rfl⟩
  rw [← hY2] at hB2
  have hl2' : Y2.length = len := by rw [hY2]; simpa using hlen
  have c1 := hB2.cell 1 (by omega)
  have f1 := hB2.free 1
  generalize byt Y2 1 = y1 at c1
  obtain ⟨e0, _, _, _, _, _, _, _, _, _⟩ := HDC.out _ hu2
  clear c0 f0 d0 d9
  go_upto_region 3 with fail
  have hB3 := hB2.set 1 tos
  have hu3 := hu2.trans (But.set g 1 w2 (.int .u8 (tos : Int)))
  generalize w2.setCell ⟨g, 1, none⟩ (.int .u8 (tos : Int)) = w3 at hB3 hu3 ⊢
  obtain ⟨Y3, hY3⟩ : ∃ Y3, Y3 = Y2.set 1 tos := ⟨_, rfl⟩
  rw [← hY3] at hB3
  have hl3' : Y3.length = len := by rw [hY3]; simpa using hl2'
  clear c1 f1 e0 hB2 hu2
  go_wp2_with fail
  refine (H16.out 2 len w3 Y3 (by omega) (by omega) hu3 hB3 hl3').mono ?_
  rintro _ w4 ⟨rfl, hB4, hu4⟩
  obtain ⟨Y4, hY4⟩ : ∃ Y4, Y4 = (Y3.set 2 (len / 256)).set (2 + 1) (len % 256) := ⟨_, rfl⟩
  rw [← hY4] at hB4
  have hl4' : Y4.length = len := by rw [hY4]; simpa using hl3'
  obtain ⟨_, e1, _, _, _, _, _, _, _, _⟩ := HDC.out _ hu4
  have HC4 : Hid (∀ u, (u.cell? ⟨w.heap.size, 1, none⟩ = some (.int .u16 (id : Int)) ∧ But g w1 u) → Blk u g Y4 → Calls Tryd.prog 68 #[.slice (some ⟨g, 4, none⟩) (len - 4) (len - 4), .int .u16 (id : Int)] u fun e w' => e = .returned (.tuple #[]) ∧ Hid (Blk w' g ((Y4.set 4 (id / 256)).set (4 + 1) (id % 256))) ∧ (w'.cell? ⟨w.heap.size, 1, none⟩ = some (.int .u16 (id : Int)) ∧ But g w1 w')) := fun u hu hB => (H16.out 4 id u Y4 (by omega) hid16 hu.2 hB hl4').mono fun e w' ⟨a, b, c⟩ => ⟨a, b, (HDC.out _ c).2.1, c⟩
  clear hB3 hu3
  go_upto_region 4 with fail
  go_cut [] from 23 (fun wx => Hid (Blk wx g ((Y4.set 4 (id / 256)).set (4 + 1) (id % 256))) ∧ But g w1 wx)
  case first =>
    go_region_with (first | (go_at_call 68; refine (HC4.out w4.drew ⟨e1, But.drew hu4⟩ hB4.out).mono ?_; rintro _ w5 ⟨rfl, hB5, hS5⟩) | fail)
    all_goals (
      go_wp2_with fail
      go_meet
      case rel => exact ⟨hB5, hS5.2⟩)
  case rest =>
  obtain ⟨hB5, hu5⟩ := hcut
  obtain ⟨w5, hw5⟩ : ∃ w5, w5 = wc := ⟨_, rfl⟩
  rw [← hw5] at hB5 hu5 ⊢
  clear hw5 e1 HC4
  obtain ⟨Y5, hY5⟩ : ∃ Y5, Y5 = (Y4.set 4 (id / 256)).set (4 + 1) (id % 256) := ⟨_, rfl⟩
  rw [← hY5] at hB5
  have hl5' : Y5.length = len := by rw [hY5]; simpa using hl4'
  obtain ⟨q0, q1, q2, q3, q4, q5, q6, q7, q8, q9⟩ := HDC.out _ hu5
  have hu5a : But g w1 (w5.drew.alloc (.cells #[.int .u8 (tos : Int), .int .u16 (id : Int), .bool df, .bool mf, .int .i64 (f : Int), .int .u8 (ttl : Int), .int .u8 (proto : Int), .int .u32 (src : Int), .int .u32 (dst : Int), .slice ao n cap] 34)) := hu5.trans ⟨rfl, rfl, rfl, by simp, fun i hi _ => by
    have := ((Below.refl w5.drew.heap.size w5.drew).alloc (Nat.le_refl _) (.cells #[.int .u8 (tos : Int), .int .u16 (id : Int), .bool df, .bool mf, .int .i64 (f : Int), .int .u8 (ttl : Int), .int .u8 (proto : Int), .int .u32 (src : Int), .int .u32 (dst : Int), .slice ao n cap] 34)).block i hi
    exact this⟩
  have hB5a : Blk (w5.drew.alloc (.cells #[.int .u8 (tos : Int), .int .u16 (id : Int), .bool df, .bool mf, .int .i64 (f : Int), .int .u8 (ttl : Int), .int .u8 (proto : Int), .int .u32 (src : Int), .int .u32 (dst : Int), .slice ao n cap] 34)) g Y5 := by
    have := ((Below.refl w5.drew.heap.size w5.drew).alloc (Nat.le_refl _) (.cells #[.int .u8 (tos : Int), .int .u16 (id : Int), .bool df, .bool mf, .int .i64 (f : Int), .int .u8 (ttl : Int), .int .u8 (proto : Int), .int .u32 (src : Int), .int .u32 (dst : Int), .slice ao n cap] 34)).block g hB5.out.lt
    exact this.trans hB5.out
  have HC5 := hid (H16.out 6 fl _ Y5 (by omega) HFW.out hu5a hB5a hl5')
  go_upto_region 5 with fail
  go_cut [] from 28 (fun wx => Hid (Blk wx g ((Y5.set 6 (fl / 256)).set (6 + 1) (fl % 256))) ∧ But g w1 wx)
  case first =>
    go_region_with (first | (go_at_call 69; refine (HFR.out w5.drew).mono ?_; rintro _ _ ⟨rfl, rfl⟩) | (go_at_call 68; refine HC5.out.mono ?_; rintro _ w6 ⟨rfl, hB6, hS6⟩) | fail)
    all_goals (
      go_wp2_with fail
      go_meet
      case rel => exact ⟨hB6, hS6⟩)
  case rest =>
  obtain ⟨hB6, hu6⟩ := hcut
  obtain ⟨w6, hw6⟩ : ∃ w6, w6 = wc := ⟨_, rfl⟩
  rw [← hw6] at hB6 hu6 ⊢
  clear hw6 HC5 hB5a hu5a q0 q1 q2 q3 q4 q5 q6 q7 q8 q9
  obtain ⟨Y6, hY6⟩ : ∃ Y6, Y6 = (Y5.set 6 (fl / 256)).set (6 + 1) (fl % 256) := ⟨_, rfl⟩
  rw [← hY6] at hB6
  have hl6' : Y6.length = len := by rw [hY6]; simpa using hl5'
  have hB6 := hB6.out
  obtain ⟨_, _, _, _, _, p5, _, _, _, _⟩ := HDC.out _ hu6
  have c8 := hB6.cell 8 (by omega)
  have f8 := hB6.free 8
  generalize byt Y6 8 = y8 at c8
  go_upto_region 7 with fail
  have hB7 := hB6.set 8 ttl
  have hu7 := hu6.trans (But.set g 8 w6 (.int .u8 (ttl : Int)))
  generalize w6.setCell ⟨g, 8, none⟩ (.int .u8 (ttl : Int)) = w7 at hB7 hu7 ⊢
  obtain ⟨Y7, hY7⟩ : ∃ Y7, Y7 = Y6.set 8 ttl := ⟨_, rfl⟩
  rw [← hY7] at hB7
  have hl7' : Y7.length = len := by rw [hY7]; simpa using hl6'
  obtain ⟨_, _, _, _, _, _, p6, _, _, _⟩ := HDC.out _ hu7
  have c9 := hB7.cell 9 (by omega)
  have f9 := hB7.free 9
  generalize byt Y7 9 = y9 at c9
  clear c8 f8 p5
  go_upto_region 8 with fail
  have hB8 := hB7.set 9 proto
  have hu8 := hu7.trans (But.set g 9 w7 (.int .u8 (proto : Int)))
  generalize w7.setCell ⟨g, 9, none⟩ (.int .u8 (proto : Int)) = w8 at hB8 hu8 ⊢
  obtain ⟨Y8, hY8⟩ : ∃ Y8, Y8 = Y7.set 9 proto := ⟨_, rfl⟩
  rw [← hY8] at hB8
  have hl8' : Y8.length = len := by rw [hY8]; simpa using hl7'
  obtain ⟨_, _, _, _, _, _, _, p7, _, _⟩ := HDC.out _ hu8
  have HC8 := hid (H32.out 12 src w8.drew Y8 (by omega) hsrc (But.drew hu8) hB8 hl8')
  clear c9 f9 p6
  go_cut [] from 41 (fun wx => Hid (Blk wx g ((((Y8.set 12 (src / 65536 / 256)).set (12 + 1) (src / 65536 % 256)).set (12 + 2) (src % 65536 / 256)).set (12 + 3) (src % 65536 % 256))) ∧ But g w1 wx)
  case first =>
    go_region_with (first | (go_at_call 70; refine HC8.out.mono ?_; rintro _ w9 ⟨rfl, hB9, hS9⟩) | fail)
    all_goals (
      go_wp2_with fail
      go_meet
      case rel => exact ⟨hB9, hS9⟩)
  case rest =>
  obtain ⟨hB9, hu9⟩ := hcut
  obtain ⟨w9, hw9⟩ : ∃ w9, w9 = wc := ⟨_, rfl⟩
  rw [← hw9] at hB9 hu9 ⊢
  clear hw9 HC8 p7
  obtain ⟨Y9, hY9⟩ : ∃ Y9, Y9 = ((((Y8.set 12 (src / 65536 / 256)).set (12 + 1) (src / 65536 % 256)).set (12 + 2) (src % 65536 / 256)).set (12 + 3) (src % 65536 % 256)) := ⟨_, rfl⟩
  rw [← hY9] at hB9
  have hl9' : Y9.length = len := by rw [hY9]; simpa using hl8'
  obtain ⟨_, _, _, _, _, _, _, _, p8, _⟩ := HDC.out _ hu9
  have HC9 := hid (H32.out 16 dst w9.drew Y9 (by omega) hdst (But.drew hu9) hB9.out hl9')
  have HY : Hid ((((Y9.set 16 (dst / 65536 / 256)).set (16 + 1) (dst / 65536 % 256)).set (16 + 2) (dst % 65536 / 256)).set (16 + 3) (dst % 65536 % 256) = hd20 h len 0 ++ R) := by
    unfold Hid
    rw [hY9, hY8, hY7, hY6, hY5, hY4, hY3, hY2, ← hX, hh, ← hfl, hh, HN.out]
    rfl
  clear hY9 hY8 hY7 hY6 hY5 hY4 hY3 hY2 hX
  go_upto_region 9 with fail
  go_region_with (first | (go_at_call 70; refine HC9.out.mono ?_; rintro _ w10 ⟨rfl, hB10, hS10⟩) | fail)
  all_goals (
    rw [HY.out] at hB10
    go_wp2_with fail
    exact bodyPost_end (results_none Tryd.results48 _ _ _) rfl ⟨rfl, hB10.out, HU1.out.trans hS10⟩)
end Go.Proofs.YthpokoiclfbddaaDoor.N

namespace Go.Proofs.YthpokoiclfbddaaDoor.N
open Go.ChangeShapes Go.WideShapes Go.ChangeAt Go.RowKit
set_option maxHeartbeats 400000
set_option maxRecDepth 100000

def Z58 : Array Value := #[.int .i64 0, .slice none 0 0, .slice none 0 0, .int .u16 0, .int .u16 0, .int .u16 0, .int .u8 0, .int .u16 0, .bool false, .bool false, .int .i64 0, .int .u8 0, .int .u8 0, .int .u32 0, .int .u32 0, .slice none 0 0, .slice none 0 0]

theorem below_setCells {B b : Nat} {a : World} (hb : B ≤ b) : ∀ (vs : List Value) (o : Nat) (w : World), Below B a w → Below B a (w.setCells b o vs)
  | [], _, _, h => h
  | v :: vs, o, w, h => by
    rw [World.setCells]
    exact below_setCells hb vs (o + 1) _ (h.setCell (p := ⟨b, o, none⟩) hb v)

theorem range_below {w w' : World} {b o : Nat} {cs : List Value} (h : w.rangeAt b o cs) (hb : Below w.heap.size w w') : w'.rangeAt b o cs := fun j v hv => by
  have := h j v hv
  exact (hb.cell (p := ⟨b, o + j, none⟩) (World.block_lt_of_cell? w _ this)).trans this

/-- The cells of a step, and its kind. -/
structure StepIs (cs : List Value) (k : Int) : Prop where
  len : cs.length = 17
  kind : cs[0]? = some (.int .i64 k)
  one : ∀ v ∈ cs, v.oneCell' = true
  lo : -9223372036854775808 ≤ k
  hi : k ≤ 9223372036854775807

/-- The slice value v shows the steps L. -/
def SeesO (w : World) (v : Value) (L : List (List Value × Int)) : Prop :=
  ∃ ao cap, v = .slice ao L.length cap ∧ L.length ≤ cap ∧ cap ≤ maxLen ∧
    ∀ j (h : j < L.length), StepIs L[j].1 L[j].2 ∧ ∃ g off, ao = some ⟨g, off, none⟩ ∧ g < w.heap.size ∧ w.rangeAt g (off + j * 17) L[j].1

end Go.Proofs.YthpokoiclfbddaaDoor.N

namespace Go.Proofs.YthpokoiclfbddaaDoor.N
open Go.ChangeShapes Go.WideShapes Go.ChangeAt Go.RowKit
set_option maxHeartbeats 400000
set_option maxRecDepth 100000

def opL (k : Int) (vy vp : Value) (x y z : Nat) (h : Hd) (vo vb : Value) : List Value :=
  [.int .i64 k, vy, vp, .int .u16 (x : Int), .int .u16 (y : Int), .int .u16 (z : Int), .int .u8 (h.tos : Int), .int .u16 (h.id : Int), .bool h.df, .bool h.mf, .int .i64 h.off, .int .u8 (h.ttl : Int), .int .u8 (h.proto : Int), .int .u32 (h.src : Int), .int .u32 (h.dst : Int), vo, vb]

theorem blk_at {u : World} {n : Nat} {cs : List Value} {t : TypeId} (hb : u.heap[n]? = some (.cells cs.toArray t)) : u.rangeAt n 0 cs := fun j v hv => by
  rw [Nat.zero_add, cell_of_row u _ _ _ _ _ hb]; simpa using hv

theorem blk_new (w : World) (cs : List Value) (t : TypeId) : (w.alloc (.cells cs.toArray t)).heap[w.heap.size]? = some (.cells cs.toArray t) := heap_alloc_new w _

end Go.Proofs.YthpokoiclfbddaaDoor.N

namespace Go.Proofs.YthpokoiclfbddaaDoor.N
open Go.ChangeShapes Go.WideShapes Go.ChangeAt Go.RowKit
set_option maxHeartbeats 400000
set_option maxRecDepth 100000

def smallH : Hd := ⟨0, 7216, true, false, 0, 64, 6, 167838211, 167904004, []⟩
def zeroHd : Hd := ⟨0, 0, false, false, 0, 0, 0, 0, 0, []⟩

theorem small_ok : smallH.Ok := ⟨by decide, by decide, by decide, by decide, by decide, by decide, by decide⟩

theorem small_refE : refE smallH [1, 2, 3].length = 0 := by
  have h1 : M.area smallH.opts = true := by unfold M.area smallH; simp [M.okO_nil]
  unfold refE; rw [if_pos h1, if_pos (by decide), if_pos (by decide)]

theorem sees_three {w : World} (x y z : Nat) (hx : x < 256) (hy : y < 256) (hz : z < 256) (t : TypeId) : SeesB (w.alloc (.cells #[.int .u8 (x : Int), .int .u8 (y : Int), .int .u8 (z : Int)] t)) (.slice (some ⟨w.heap.size, 0, none⟩) 3 3) [x, y, z] := by
  refine ⟨some ⟨w.heap.size, 0, none⟩, 3, rfl, ⟨by simp, fun h => by cases h⟩, by unfold maxLen; omega, fun j hj => ⟨w.heap.size, 0, rfl, by simp, ?_, ?_⟩⟩
  · match j, hj with
    | 0, _ => simp
    | 1, _ => simp
    | 2, _ => simp
  · match j, hj with
    | 0, _ => exact hx
    | 1, _ => exact hy
    | 2, _ => exact hz

def smallC (n : Nat) : Array Value := #[.int .u8 0, .int .u16 7216, .bool true, .bool false, .int .i64 0, .int .u8 64, .int .u8 6, .int .u32 167838211, .int .u32 167904004, .slice none 0 0, .slice (some ⟨n, 0, none⟩) 3 3]

/-- The world behind the making of the packet. -/
def smallW (w : World) : World := (w.alloc (.cells #[.int .u8 1, .int .u8 2, .int .u8 3] 5)).alloc (.cells (smallC w.heap.size) 36)

theorem smallW_below (w : World) : Below w.heap.size w (smallW w) := by
  unfold smallW
  exact ((Below.refl _ _).alloc (Nat.le_refl _) _).alloc (by simp) _

theorem smallW_body (w : World) : SeesB (smallW w) (.slice (some ⟨w.heap.size, 0, none⟩) 3 3) [1, 2, 3] := by
  have h := sees_three (w := w) 1 2 3 (by decide) (by decide) (by decide) 5
  exact h.below ((Below.refl _ _).alloc (Nat.le_refl _) _)

theorem smallB_ok : ∀ x ∈ builtL smallH [1, 2, 3], x < 256 := by
  unfold builtL
  rw [if_pos small_refE]
  intro x hx
  rw [List.mem_append] at hx
  rcases hx with hx | hx
  · exact hdBytes_ok small_ok (by intro x hx; cases hx) (by decide) (f := 0) rfl (by omega) (by decide) (M.csum_lt _) x hx
  · simp at hx; omega

theorem seesBB_two {w : World} {n : Nat} (hn : w.heap.size = n) (v1 v2 : Value) (L1 L2 : List Nat) (h1 : SeesB w v1 L1) (h2 : SeesB w v2 L2) (t : TypeId) : SeesBB (w.alloc (.cells #[v1, v2] t)) (.slice (some ⟨n, 0, none⟩) 2 2) [L1, L2] := by
  subst hn
  refine ⟨some ⟨w.heap.size, 0, none⟩, 2, rfl, by simp, by unfold maxLen; omega, fun j hj => ?_⟩
  match j, hj with
  | 0, _ => exact ⟨w.heap.size, 0, v1, rfl, by simp, by simp, h1.below ((Below.refl _ _).alloc (Nat.le_refl _) _)⟩
  | 1, _ => exact ⟨w.heap.size, 0, v2, rfl, by simp, by simp, h2.below ((Below.refl _ _).alloc (Nat.le_refl _) _)⟩

end Go.Proofs.YthpokoiclfbddaaDoor.N

namespace Go.Proofs.YthpokoiclfbddaaDoor.N
open Go.ChangeShapes Go.WideShapes Go.ChangeAt Go.RowKit
set_option maxHeartbeats 400000
set_option maxRecDepth 100000

end Go.Proofs.YthpokoiclfbddaaDoor.N
