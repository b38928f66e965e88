/-
  weftref7: covered.
-/
import Derived.Test.YtcelcnafcfefhaaTA
namespace Go.Proofs.Ytcelcnafcfefhaa.N
open Go.ChangeShapes Go.WideShapes Go.ChangeAt Go.RowKit
set_option maxHeartbeats 4000000
set_option maxRecDepth 100000

theorem coveredR_any (src dst len : Nat) (v : Value) (b : List Nat) (w : World) (hs : src < 4294967296) (hd : dst < 4294967296) (hv : SeesB w v b) (hl : len ≤ b.length) (hl2 : len < 65536) :
    Calls Try.prog 60 #[.int .u32 (src : Int), .int .u32 (dst : Int), v, .int .i64 (len : Int)] w fun e w' => ∃ l', e = .returned l' ∧ OwnB w' w.heap.size l' (Tn.cov src dst b len) ∧ Below w.heap.size w w' := by
  have HLA : Hid (∀ (l : Value) (M : List Nat) (x n : Nat) (u : World), Below w.heap.size w u → OwnB u w.heap.size l M → n ≤ 8 → x ≤ 4294967296 → M.length ≤ 100 → Calls Try.prog 59 #[l, .int .i64 (x : Int), .int .i64 (n : Int)] u fun e w' => ∃ l', e = .returned l' ∧ OwnB w' w.heap.size l' (M ++ laidL x n) ∧ Below w.heap.size w w') := fun l M x n u hu hO hn hx hM =>
    laidR_any l M x n w u hu hO hn (by omega) (by omega)
  have HJO : Hid (∀ (l : Value) (M : List Nat) (u : World), Below w.heap.size w u → OwnB u w.heap.size l M → M.length ≤ 100 → Calls Try.prog 58 #[l, v, .int .i64 0, .int .i64 (len : Int)] u fun e w' => ∃ l', e = .returned l' ∧ OwnB w' w.heap.size l' (M ++ b.take len) ∧ Below w.heap.size w w') := fun l M u hu hO hM =>
    joinedR_any l v M b 0 len w u hu hO hv (by omega) hl (by omega)
  have HC : Hid (Tn.cov src dst b len = laidL src 4 ++ laidL dst 4 ++ [0, 17] ++ laidL len 2 ++ b.take len) := by
    unfold Hid Tn.cov
    rw [laidL_four, laidL_four, laidL_two]
  obtain ⟨ao, n, cap, rfl, _, _, _⟩ := hv.shape
  have X1 := hid (HLA.out (.slice none 0 0) [] src 4 w (Below.refl _ _) (ownB_nil _ _) (by omega) (by omega) (by simp))
  clear hv hl
  go_enter Try.func60, Try.ntmps60
  go_wp2_with fail
  refine X1.out.mono ?_
  rintro _ w1 ⟨l1, rfl, ho1, hb1⟩
  have X2 := hid (HLA.out l1 _ dst 4 w1 hb1 ho1 (by omega) (by omega) (by simp [laidL_len]))
  clear ho1 hb1 X1
  go_wp2_with fail
  refine X2.out.mono ?_
  rintro _ w2 ⟨l2, rfl, ho2, hb2⟩
  have HO2 := hid ho2
  clear ho2 X2
  go_wp2_with (at_builtin; refine wpList_append_bytes rfl _ _ rfl w.heap.size _ _ rfl (HO2.out.alloc _) _ [0, 17] rfl (sees_two rfl 0 17 (by decide) (by decide) _) ?c1 ?c2 ?_)
  case c1 => simp [laidL_len]
  case c2 => have := hb2.size; simp; omega
  intro l3 w3 ho3 hb3
  have hb3' : Below w.heap.size w w3 := (hb2.alloc hb2.size _).trans hb3
  have X4 := hid (HLA.out l3 _ len 2 w3 hb3' ho3 (by omega) (by omega) (by simp [laidL_len]))
  clear ho3 hb3 hb3' hb2 HO2
  go_wp2_with fail
  refine X4.out.mono ?_
  rintro _ w4 ⟨l4, rfl, ho4, hb4⟩
  have X5 := hid (HJO.out l4 _ w4 hb4 ho4 (by simp [laidL_len]))
  clear ho4 hb4 X4
  go_wp2_with fail
  refine X5.out.mono ?_
  rintro _ w5 ⟨l5, rfl, ho5, hb5⟩
  have HO5 := hid ho5
  have HB5 := hid hb5
  clear ho5 hb5 X5
  go_wp2_with fail
  go_ret
  refine ⟨l5, rfl, ?_, HB5.out⟩
  rw [HC.out]
  have := HO5.out
  simpa using this
end Go.Proofs.Ytcelcnafcfefhaa.N
