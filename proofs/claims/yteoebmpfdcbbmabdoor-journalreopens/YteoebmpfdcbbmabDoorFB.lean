/-
  The law's size, begun.
-/
import Derived.Test.YteoebmpfdcbbmabDoorFA
import Derived.Test.YteoebmpfdcbbmabDoorRB
namespace Go.Proofs.YteoebmpfdcbbmabDoor
open Go.ChangeShapes Go.WideShapes Go.ChangeAt Go.RowKit Jn N
set_option maxHeartbeats 4000000
set_option maxRecDepth 100000

theorem sizeL_any (v : Value) (rs : List (List Nat)) (w : World) (hv : SeesBB w v rs) (hl : rs.length ≤ 8796093022208) (hr : ∀ r ∈ rs, r.length ≤ 65536) :
    Calls Tryd.prog 46 #[v] w fun e w' => e = .returned (.int .i64 ((16 + baseL rs : Nat) : Int)) ∧ w' = w := by
  obtain ⟨ao, n, cap, rfl, HN, hn1, hn2⟩ := hv.shape
  have hn : n ≤ 8796093022208 := by have := HN.out; omega
  have HV := hid hv
  have HR := hid hr
  have HT : Hid (∀ k, baseL (rs.take k) ≤ 576582705658691584) := fun k => by
    have h1 := baseL_le (rs := rs.take k) (fun r hx => hr r (List.mem_of_mem_take hx))
    have h2 : (rs.take k).length ≤ rs.length := by rw [List.length_take]; omega
    omega
  clear hv hl hr
  unfold maxLen at hn2
  go_enter Tryd.func46, Tryd.ntmps46
  go_wp2_with fail
  go_loop [3, 4] (fun t i => ∃ (k s : Nat), i = .int .i64 k ∧ k ≤ n ∧ t = .int .i64 s ∧ Hid (s = 16 + baseL (rs.take k))) (fun _ i => n - (intOf i).toNat)
  case atStart => exact ⟨0, 16, rfl, by omega, rfl, rfl⟩
  case round =>
    obtain ⟨k, s, rfl, hk, rfl, HS⟩ := hrel
    have hs : s ≤ 576582705658691600 := by have := HT.out k; have := HS.out; omega
    by_cases hlt : k < n
    · obtain ⟨g, off, x, l, rfl, hg, hc, hx, HX⟩ := HV.out.at k hlt
      have hll := HR.out l (List.mem_of_getElem? HX.out)
      obtain ⟨ax, nx, cx, rfl, HNX, -, -⟩ := hx.shape
      have HS2 : Hid (16 + baseL (rs.take (k + 1)) = s + 12 + nx) := by
        unfold Hid; rw [take_snoc HX.out, baseL_append, HS.out, HNX.out]; simp [baseL]; omega
      have hnx : nx ≤ 65536 := by have := HNX.out; omega
      clear HS hx HX hll HNX
      go_wp2_with fail
      go_round
      case rel => exact ⟨k + 1, s + 12 + nx, by go_num, by omega, by go_num, HS2.out.symm⟩
      case measure => simp [intOf]; omega
    · have HE : Hid (s = 16 + baseL rs) := by
        have := HS.out
        rw [List.take_of_length_le (by have := HN.out; omega)] at this
        exact this
      go_wp2_with fail
      go_ret
      exact ⟨ret_int (by rw [HE.out]; omega), rfl⟩

theorem begun_any (w : World) (ht : TabN w) :
    Calls Tryd.prog 26 #[] w fun e w' => ∃ p q S, e = .returned (.tuple #[.pointer (some ⟨p, 0, none⟩), q]) ∧ Jr w w' S p fl0 := by
  have H1 : Hid (Calls Tryd.prog 11 #[.agg #[.slice none 0 0, .slice none 0 0]] w fun e w' => ∃ p v S Bd, e = .returned (.tuple #[.pointer (some ⟨p, 0, none⟩), v, .int .i64 0]) ∧ Opened w w' S Bd p v fl0 []) := by
    refine (open_any _ _ [] [] w (sees_nil _) (sees_nil _) ht).mono ?_
    rintro e w' ⟨-, h⟩
    obtain ⟨q1, q2, q3⟩ := opn_nil
    have := h q1
    rw [q2, q3] at this
    exact this
  clear ht
  go_enter Tryd.func26, Tryd.ntmps26
  go_wp2_with fail
  refine H1.out.mono ?_
  rintro _ w1 ⟨p, v, S, Bd, rfl, hO⟩
  have HJ : Hid (Jr w w1 S p fl0) := ⟨hO.be, hO.log, hO.ok, hO.lo⟩
  obtain ⟨av, nv, cv, rfl, -⟩ : ∃ a n c, v = .slice a n c ∧ True := by
    obtain ⟨a, n, c, e, -, -, -⟩ := hO.recs.sees.shape
    exact ⟨a, n, c, e, trivial⟩
  clear hO
  go_wp2_with fail
  refine bodyPost_ret (v := .tuple #[.pointer (some ⟨p, 0, none⟩), .pointer (some ⟨w1.heap.size + 1, 0, none⟩)]) (by simp [results, Tryd.results26, go_sem]) rfl ⟨p, _, S, rfl, HJ.out.below ?_⟩
  refine Below.alloc (Below.alloc (Below.alloc (Below.refl _ _) ?_ _) ?_ _) ?_ _
  · exact Nat.le_refl _
  · simp
  · simp; omega
end Go.Proofs.YteoebmpfdcbbmabDoor
