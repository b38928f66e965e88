import Derived.Test.YtcboenmmkaochaaNBC
import Derived.Test.YtcboenmmkaochaaNL
import Derived.Test.YtcboenmmkaochaaNV
import Derived.Laws.CopyOwn
import Derived.Laws.OwnMore
namespace Go.Proofs.Ytcboenmmkaochaa.N
open Go.ChangeShapes Go.WideShapes Go.ChangeAt Go.RowKit
set_option maxHeartbeats 1000000
set_option maxRecDepth 100000

theorem made_blk (u : World) (k : Nat) : Blk (u.alloc (.cells (madeCells #[.int .u8 0] k) 5)) u.heap.size (List.replicate k 0) := by
  unfold Blk
  rw [heap_alloc_new u _]
  have e : madeCells #[.int .u8 0] k = (bs (List.replicate k 0)).toArray := by
    rw [← Array.toArray_toList (xs := madeCells #[.int .u8 0] k), toList_madeCells_one]
    simp [bs]
  rw [e]

theorem bs_splice (X Y : List Nat) (o : Nat) : splice (bs X) o (bs Y) = bs (splice X o Y) := by
  unfold splice bs
  simp [List.map_take, List.map_drop]

theorem splice_head {A R Y : List Nat} {o : Nat} (ho : o = A.length) : splice (A ++ R) o Y = A ++ (Y ++ R.drop Y.length) := by
  subst ho
  unfold splice
  rw [List.take_left', List.drop_append]
  · simp
  · rfl

/-- A cut 'b[m:]' of a whole block: where nothing is left its place is not told. -/
theorem cut_end (g k m : Nat) (i : Int) (hi : i = m) (hm : m ≤ k) : ∃ ao, Hid (m < k → ao = some ⟨g, m, none⟩) ∧ ∀ u : World, (Instr.sliceAt 23 (.slice (some ⟨g, 0, none⟩) k k) (some (.int .i64 i)) none none).run Try.prog u = .ok (.slice ao (k - m) (k - m)) u := by
  subst hi
  refine ⟨if k = m then some ⟨g, 0, none⟩ else some ⟨g, m, none⟩, fun h => by rw [if_neg (by omega)], fun u => ?_⟩
  have hu : Try.prog.underlying 23 = some (.slice (Try.prog.elem 23)) := by kernel_rfl
  have hsz : (sizeOf (Try.prog.elem 23)).run Try.prog u = .ok 1 u := by kernel_rfl
  rw [run_sliceAt_slice (h := hu), run_slice_l (ht := hu) (h0 := by omega) (h1 := by omega), hsz]
  simp [Result.andThen, sliced, Addr.add_mid]

theorem bytes_hd20 {h : Hd} (hok : h.Ok) {len f : Nat} (hl : len < 65536) (hf : h.off = (f : Int)) (hf1 : f ≤ 65528) (hol : h.opts.length ≤ 40) (ho : ∀ x ∈ h.opts, x < 256) : ∀ x ∈ hd20 h len 0, x < 256 := fun x hx =>
  hdBytes_ok hok ho hol hf hf1 hl (by omega : (0 : Nat) < 65536) x (by rw [hdBytes_eq]; exact List.mem_append_left _ hx)

theorem gap20 (h : Hd) (t : Nat) (T U : List Nat) : (hd20 h t 0 ++ T).take 10 ++ 0 :: 0 :: (hd20 h t 0 ++ U).drop 12 = hd20 h t 0 ++ U := by simp [hd20]

theorem set20 (h : Hd) (t s : Nat) (T : List Nat) : ((hd20 h t 0 ++ T).set 10 (s / 256)).set 11 (s % 256) = hd20 h t s ++ T := by simp [hd20]

theorem len20 (h : Hd) (t s : Nat) : (hd20 h t s).length = 20 := rfl

/-- What the sum is written into, and what comes of it. -/
theorem sealed (h : Hd) (B : List Nat) (t n : Nat) (hn : n = h.opts.length) (ht : t = lenOfPk h B) (he : refE h B.length = 0) :
    (((hd20 h t 0 ++ (h.opts ++ B)).set 10 (M.csum ((hd20 h t 0 ++ (h.opts ++ B)).take 10 ++ ((hd20 h t 0 ++ (h.opts ++ B)).take (20 + n)).drop 12) / 256)).set 11 (M.csum ((hd20 h t 0 ++ (h.opts ++ B)).take 10 ++ ((hd20 h t 0 ++ (h.opts ++ B)).take (20 + n)).drop 12) % 256)) = builtL h B := by
  have e1 : (hd20 h t 0 ++ (h.opts ++ B)).take (20 + n) = hd20 h t 0 ++ h.opts := by
    rw [← List.append_assoc, List.take_left' (by rw [List.length_append, len20, hn])]
  have e2 : M.csum ((hd20 h t 0 ++ (h.opts ++ B)).take 10 ++ (hd20 h t 0 ++ h.opts).drop 12) = M.csum (hdBytes h t 0) := by
    have := csum_gap ((hd20 h t 0 ++ (h.opts ++ B)).take 10) ((hd20 h t 0 ++ h.opts).drop 12) (by rw [List.length_take, List.length_append, len20, Nat.min_eq_left (by omega)])
    rw [gap20] at this
    rw [hdBytes_eq, this]
  rw [e1, e2, set20]
  unfold builtL
  rw [if_pos he, ← ht, hdBytes_eq h t (M.csum (hdBytes h t 0)), List.append_assoc]

end Go.Proofs.Ytcboenmmkaochaa.N
