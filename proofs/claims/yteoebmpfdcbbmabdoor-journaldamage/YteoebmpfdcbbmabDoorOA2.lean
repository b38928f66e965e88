/-
  JournalOrdered: size with its -1, place.
-/
import Derived.Test.YteoebmpfdcbbmabDoorGB
import Derived.Test.YteoebmpfdcbbmabDoorOM2
namespace Go.Proofs.YteoebmpfdcbbmabDoor
open Go.ChangeShapes Go.WideShapes Go.ChangeAt Go.RowKit Jn N
set_option maxHeartbeats 4000000
set_option maxRecDepth 100000

def sizeZ (rs : List (List Nat)) : Int := if rs.any (fun r => decide (65536 < r.length)) then -1 else ((16 + baseL rs : Nat) : Int)
theorem sizeZ_any (v : Value) (rs : List (List Nat)) (w : World) (hv : SeesBB w v rs) (hl : rs.length ≤ 8796093022208) :
    Calls Tryd.prog 46 #[v] w fun e w' => e = .returned (.int .i64 (sizeZ rs)) ∧ w' = w := by
  obtain ⟨ao, n, cap, rfl, HN, hn1, hn2⟩ := hv.shape
  have hn : n ≤ 8796093022208 := by have := HN.out; omega
  have HV := hid hv
  have HT : Hid (∀ k, (∀ r ∈ rs.take k, r.length ≤ 65536) → baseL (rs.take k) ≤ 576582705658691584) := fun k hr => by
    have h1 := baseL_le (rs := rs.take k) hr
    have h2 : (rs.take k).length ≤ rs.length := by rw [List.length_take]; omega
    omega
  clear hv hl
  unfold maxLen at hn2
  go_enter Tryd.func46, Tryd.ntmps46
  go_wp2_with fail
  go_loop [3, 4] (fun t i => ∃ (k s : Nat), i = .int .i64 k ∧ k ≤ n ∧ t = .int .i64 s ∧ Hid (s = 16 + baseL (rs.take k)) ∧ Hid (∀ r ∈ rs.take k, r.length ≤ 65536)) (fun _ i => n - (intOf i).toNat)
  case atStart => exact ⟨0, 16, rfl, by omega, rfl, rfl, fun r hr => by simp at hr⟩
  case round =>
    obtain ⟨k, s, rfl, hk, rfl, HS, HR⟩ := hrel
    have hs : s ≤ 576582705658691600 := by have := HT.out k HR.out; have := HS.out; omega
    by_cases hlt : k < n
    · obtain ⟨g, off, x, l, rfl, hg, hc, hx, HX⟩ := HV.out.at k hlt
      obtain ⟨ax, nx, cx, rfl, HNX, hx1, hx2⟩ := hx.shape
      unfold maxLen at hx2
      by_cases hbig : 65536 < nx
      · have HE : Hid (sizeZ rs = -1) := by
          unfold Hid sizeZ
          rw [if_pos (List.any_eq_true.2 ⟨l, List.mem_of_getElem? HX.out, by simp; have := HNX.out; omega⟩)]
        clear hx HX
        go_wp2_with fail
        go_ret
        exact ⟨by rw [HE.out]; rfl, rfl⟩
      · have HS2 : Hid (16 + baseL (rs.take (k + 1)) = s + 12 + nx) := by
          unfold Hid; rw [take_snoc HX.out, baseL_append, HS.out, HNX.out]; simp [baseL]; omega
        have HR2 : Hid (∀ r ∈ rs.take (k + 1), r.length ≤ 65536) := fun r hr => by
          rw [take_snoc HX.out] at hr
          rcases List.mem_append.1 hr with h | h
          · exact HR.out r h
          · simp at h; subst h; have := HNX.out; omega
        clear HS hx HX HNX
        go_wp2_with fail
        go_round
        case rel => exact ⟨k + 1, s + 12 + nx, by go_num, by omega, by go_num, HS2.out.symm, HR2⟩
        case measure => simp [intOf]; omega
    · have HE : Hid (sizeZ rs = (s : Int)) := by
        have h1 := HS.out
        have h2 := HR.out
        rw [List.take_of_length_le (by have := HN.out; omega)] at h1 h2
        unfold Hid sizeZ
        rw [any_short h2, if_neg (by decide), h1]
      go_wp2_with fail
      go_ret
      exact ⟨by rw [HE.out]; rfl, rfl⟩

theorem Aps.syn {rs : List (List Nat)} {l : Lg} (h : Aps rs l) : l.syn.a = arA rs ∧ l.syn.b = [] := by
  have e : play (l.a, l.b) l.ws = (gener 1 [] ++ frames 1 0 rs, []) := by rw [h.a, h.b]; exact h.pl
  exact ⟨by show (play _ _).1 = _; rw [e]; rfl, by show (play _ _).2 = _; rw [e]⟩
theorem arA_len (rs : List (List Nat)) : (arA rs).length = 16 + baseL rs := by unfold arA; rw [List.length_append, gener_len, frames_len]; simp [baseL]
theorem plc_next {rs : List (List Nat)} {i : Nat} {r : List Nat} (h : rs[i]? = some r) : plc rs (i + 1) = plc rs i + 12 + r.length := by
  unfold plc; rw [take_snoc h, base_one]; omega
theorem plc_le (rs : List (List Nat)) (i : Nat) : plc rs i ≤ 16 + baseL rs := by have := baseL_take rs i; unfold plc; omega
theorem plc_mono (rs : List (List Nat)) {i j : Nat} (h : i ≤ j) : plc rs i ≤ plc rs j := by
  have h1 := baseL_take (rs.take j) i
  rw [List.take_take, Nat.min_eq_left h] at h1
  unfold plc; omega
end Go.Proofs.YteoebmpfdcbbmabDoor
