import Derived.Test.YtjjmopmdiflffacC
namespace Go.Proofs.Ytjjmopmdiflffac
open Go.ChangeShapes Go.WideShapes Go.ChangeAt Go.RowKit
set_option maxHeartbeats 400000
set_option maxRecDepth 100000

theorem sees_one {w : World} {n : Nat} (hn : w.heap.size = n) (x : Nat) (hx : x < 256) (t : TypeId) : SeesB (w.alloc (.cells #[.int .u8 (x : Int)] t)) (.slice (some ⟨n, 0, none⟩) 1 1) [x] := by
  subst hn
  refine ⟨some ⟨w.heap.size, 0, none⟩, 1, rfl, ⟨by simp, fun h => by cases h⟩, by unfold maxLen; omega, fun j hj => ⟨w.heap.size, 0, rfl, by simp, ?_, ?_⟩⟩
  · match j, hj with
    | 0, _ => simp
  · match j, hj with
    | 0, _ => exact hx

theorem sees_two {w : World} {n : Nat} (hn : w.heap.size = n) (x y : Nat) (hx : x < 256) (hy : y < 256) (t : TypeId) : SeesB (w.alloc (.cells #[.int .u8 (x : Int), .int .u8 (y : Int)] t)) (.slice (some ⟨n, 0, none⟩) 2 2) [x, y] := by
  subst hn
  refine ⟨some ⟨w.heap.size, 0, none⟩, 2, rfl, ⟨by simp, fun h => by cases h⟩, by unfold maxLen; omega, fun j hj => ⟨w.heap.size, 0, rfl, by simp, ?_, ?_⟩⟩
  · match j, hj with
    | 0, _ => simp
    | 1, _ => simp
  · match j, hj with
    | 0, _ => exact hx
    | 1, _ => exact hy

theorem OwnB.alloc {w : World} {base : Nat} {v : Value} {L : List Nat} (h : OwnB w base v L) (o : Obj) : OwnB (w.alloc o) base v L :=
  h.below ((Below.refl _ _).alloc (Nat.le_refl _) _)

theorem OwnB.mono {w : World} {b b' : Nat} {v : Value} {L : List Nat} (h : OwnB w b v L) (hb : b' ≤ b) : OwnB w b' v L := by
  refine ⟨h.1, ?_⟩
  rcases h.2 with h | ⟨g, cap, cur, h1, h2, h3⟩
  · exact .inl h
  · exact .inr ⟨g, cap, cur, h1, by omega, h3⟩

theorem join_any (v : Value) (Ls : List (List Nat)) (w : World) (hv : SeesBB w v Ls) (hl : Ls.flatten.length ≤ 1099511627776) :
    Calls Try.prog 47 #[v] w fun e w' => ∃ v', e = .returned v' ∧ OwnB w' w.heap.size v' Ls.flatten ∧ Below w.heap.size w w' := by
  obtain ⟨ao, n, cap, rfl, HN, hn1, hn2⟩ := hv.shape
  have HV := hid hv
  have HL := hid hl
  clear hv hl
  unfold maxLen at hn2
  go_enter Try.func47, Try.ntmps47
  go_wp2_with fail
  go_loopw [3, 4, 5] (fun t i _ wr => ∃ (k : Nat), i = .int .i64 k ∧ k ≤ n ∧ Hid (OwnB wr w.heap.size t (Ls.take k).flatten) ∧ Below w.heap.size w wr) (fun _ i _ _ => n - (intOf i).toNat)
  case atStart => exact ⟨0, rfl, by omega, ownB_nil _ _, Below.refl _ _⟩
  case round =>
    obtain ⟨k, rfl, hk, HO, hb⟩ := hrel
    by_cases hlt : k < n
    · obtain ⟨g, off, u, l, rfl, hg, hc, hu, HU⟩ := HV.out.at k hlt
      have HF : Hid ((Ls.take k).flatten ++ l = (Ls.take (k + 1)).flatten) := by unfold Hid; rw [take_snoc HU.out]; simp
      have HF2 : Hid ((Ls.take k).flatten.length + l.length ≤ 1099511627776) := by
        have h1 : (Ls.take (k + 1)).flatten.length ≤ Ls.flatten.length := flat_take_le
        rw [← HF.out, List.length_append] at h1
        have := HL.out
        unfold Hid; omega
      obtain ⟨ar, nr, capr, rfl, HNR, hr1, hr2⟩ := hu.shape
      have HS := hid hu
      have HC : Hid (∀ x, Below w.heap.size w x → x.cell? ⟨g, off + k, none⟩ = some (.slice ar nr capr)) := fun x hx => (hx.cell (p := ⟨g, _, none⟩) hg).trans hc
      unfold maxLen at hr2
      clear hu hc hg
      go_wp2_with fail
      go_loopw [3, 5] (fun t j wx => ∃ m : Nat, j = .int .i64 m ∧ m ≤ nr ∧ Hid (OwnB wx w.heap.size t ((Ls.take k).flatten ++ l.take m)) ∧ Below w.heap.size w wx) (fun _ j _ => nr - (intOf j).toNat)
      case atStart => exact ⟨0, rfl, by omega, by rw [List.take_zero, List.append_nil]; exact HO, hb⟩
      case round =>
        obtain ⟨m, rfl, hm, HO2, hb2⟩ := hrel
        have hc2 := HC.out _ hb2
        by_cases hlt2 : m < nr
        · obtain ⟨ga, oa, x, rfl, hga, hca, hx, HX⟩ := (HS.out.below hb2).at m hlt2
          have HF3 : Hid ((Ls.take k).flatten ++ (l.take m ++ [x]) = (Ls.take k).flatten ++ l.take (m + 1)) := by unfold Hid; rw [take_snoc HX.out]
          have HF4 : Hid (((Ls.take k).flatten ++ l.take m).length + [x].length ≤ 1099511627777) := by
            have := HF2.out
            rw [List.length_append, List.length_take]; simp only [List.length_cons, List.length_nil]; unfold Hid; omega
          go_wp2_with (at_builtin; refine wpList_append_bytes rfl _ _ rfl w.heap.size _ _ rfl (HO2.out.alloc _) _ [x] rfl (sees_one rfl x hx _) ?c1 ?c2 ?_)
          case c1 => have := HF4.out; omega
          case c2 => have := hb2.size; simp; omega
          · intro v' w2 ho hb3
            rw [HF3.out] at ho
            have HO3 := hid ho
            have hb4 := (hb2.alloc hb2.size _).trans hb3
            clear ho hb3 hca hc2
            go_wp2_with fail
            go_roundw
            case rel => exact ⟨m + 1, by go_num, by omega, HO3, hb4⟩
            case measure => simp [intOf]; omega
        · have HE : Hid ((Ls.take k).flatten ++ l.take m = (Ls.take (k + 1)).flatten) := by
            unfold Hid; rw [← HF.out, show l.take m = l from List.take_of_length_le (by have := HNR.out; omega)]
          rw [HE.out] at HO2
          go_wp2_with fail
          go_roundw
          case rel => exact ⟨k + 1, by go_num, by omega, HO2, hb2⟩
          case measure => simp [intOf]; omega
    · have HE : Hid ((Ls.take k).flatten = Ls.flatten) := by
        unfold Hid; rw [List.take_of_length_le (by have := HN.out; omega)]
      rw [HE.out] at HO
      go_wp2_with fail
      go_ret
      exact ⟨_, rfl, HO.out, hb⟩

theorem put2_any (v : Value) (i : Int) (n base : Nat) (L : List Nat) (w : World) (hO : OwnB w base v L) (hi : i = (n : Int)) (hn : n < 65536) (hbase : base ≤ w.heap.size) (hl : L.length ≤ 1000000) :
    Calls Try.prog 55 #[v, .int .i64 i] w fun e w' => ∃ v', e = .returned v' ∧ OwnB w' base v' (L ++ [n / 256, n % 256]) ∧ Below base w w' := by
  subst hi
  have HO := hid hO
  clear hO
  obtain ⟨a, ha⟩ : ∃ a, a = n / 256 := ⟨_, rfl⟩
  obtain ⟨b, hb⟩ : ∃ b, b = n % 256 := ⟨_, rfl⟩
  have ea : (n : Int) / 256 = (a : Int) := by omega
  have eb : (n : Int) % 256 = (b : Int) := by omega
  have ha1 : a < 256 := by omega
  have hb1 : b < 256 := by omega
  rw [← ha, ← hb]
  clear ha hb
  go_enter Try.func55, Try.ntmps55
  go_wp2_with (at_builtin; refine wpList_append_bytes rfl _ _ rfl base _ _ rfl (HO.out.alloc _) _ [a, b] rfl (sees_two rfl a b ha1 hb1 _) ?c1 ?c2 ?_)
  case c1 => simp only [List.length_cons, List.length_nil]; omega
  case c2 => simp; omega
  · intro v' w2 ho hb2
    have HO2 := hid ho
    have hb3 := ((Below.refl base w).alloc hbase _).trans hb2
    clear ho hb2
    go_wp2_with fail
    go_ret
    exact ⟨v', rfl, HO2.out, hb3⟩
end Go.Proofs.Ytjjmopmdiflffac
