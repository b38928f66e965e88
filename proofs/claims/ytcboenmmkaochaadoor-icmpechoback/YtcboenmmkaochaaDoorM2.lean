import Derived.Test.YtcboenmmkaochaaDoorM1
import Derived.Laws.CopyOwn
import Derived.Laws.MakeOwn
import Derived.Deep.RegionHeld3
import Derived.Laws.OwnMore
namespace Go.Proofs.YtcboenmmkaochaaDoor.N
open Go.ChangeShapes Go.WideShapes Go.ChangeAt Go.RowKit
set_option maxHeartbeats 400000
set_option maxRecDepth 100000

def smallH : Hd := ⟨0, 7216, true, false, 0, 64, 6, 167838211, 167904004, []⟩
def zeroHd : Hd := ⟨0, 0, false, false, 0, 0, 0, 0, 0, []⟩

theorem small_ok : smallH.Ok := ⟨by decide, by decide, by decide, by decide, by decide, by decide, by decide⟩

theorem small_refE : refE smallH [1, 2, 3].length = 0 := by
  have h1 : M.area smallH.opts = true := by unfold M.area smallH; simp [M.okO_nil]
  unfold refE; rw [if_pos h1, if_pos (by decide), if_pos (by decide)]

theorem sees_three {w : World} (x y z : Nat) (hx : x < 256) (hy : y < 256) (hz : z < 256) (t : TypeId) : SeesB (w.alloc (.cells #[.int .u8 (x : Int), .int .u8 (y : Int), .int .u8 (z : Int)] t)) (.slice (some ⟨w.heap.size, 0, none⟩) 3 3) [x, y, z] := by
  refine ⟨some ⟨w.heap.size, 0, none⟩, 3, rfl, ⟨by simp, fun h => by cases h⟩, by unfold maxLen; omega, fun j hj => ⟨w.heap.size, 0, rfl, by simp, ?_, ?_⟩⟩
  · match j, hj with
    | 0, _ => simp
    | 1, _ => simp
    | 2, _ => simp
  · match j, hj with
    | 0, _ => exact hx
    | 1, _ => exact hy
    | 2, _ => exact hz

def smallC (n : Nat) : Array Value := #[.int .u8 0, .int .u16 7216, .bool true, .bool false, .int .i64 0, .int .u8 64, .int .u8 6, .int .u32 167838211, .int .u32 167904004, .slice none 0 0, .slice (some ⟨n, 0, none⟩) 3 3]

/-- The world behind the making of the packet. -/
def smallW (w : World) : World := (w.alloc (.cells #[.int .u8 1, .int .u8 2, .int .u8 3] 5)).alloc (.cells (smallC w.heap.size) 29)

theorem smallW_below (w : World) : Below w.heap.size w (smallW w) := by
  unfold smallW
  exact ((Below.refl _ _).alloc (Nat.le_refl _) _).alloc (by simp) _

theorem smallW_body (w : World) : SeesB (smallW w) (.slice (some ⟨w.heap.size, 0, none⟩) 3 3) [1, 2, 3] := by
  have h := sees_three (w := w) 1 2 3 (by decide) (by decide) (by decide) 5
  exact h.below ((Below.refl _ _).alloc (Nat.le_refl _) _)

theorem smallB_ok : ∀ x ∈ builtL smallH [1, 2, 3], x < 256 := by
  unfold builtL
  rw [if_pos small_refE]
  intro x hx
  rw [List.mem_append] at hx
  rcases hx with hx | hx
  · exact hdBytes_ok small_ok (by intro x hx; cases hx) (by decide) (f := 0) rfl (by omega) (by decide) (M.csum_lt _) x hx
  · simp at hx; omega

theorem seesBB_two {w : World} {n : Nat} (hn : w.heap.size = n) (v1 v2 : Value) (L1 L2 : List Nat) (h1 : SeesB w v1 L1) (h2 : SeesB w v2 L2) (t : TypeId) : SeesBB (w.alloc (.cells #[v1, v2] t)) (.slice (some ⟨n, 0, none⟩) 2 2) [L1, L2] := by
  subst hn
  refine ⟨some ⟨w.heap.size, 0, none⟩, 2, rfl, by simp, by unfold maxLen; omega, fun j hj => ?_⟩
  match j, hj with
  | 0, _ => exact ⟨w.heap.size, 0, v1, rfl, by simp, by simp, h1.below ((Below.refl _ _).alloc (Nat.le_refl _) _)⟩
  | 1, _ => exact ⟨w.heap.size, 0, v2, rfl, by simp, by simp, h2.below ((Below.refl _ _).alloc (Nat.le_refl _) _)⟩

end Go.Proofs.YtcboenmmkaochaaDoor.N

namespace Go.Proofs.YtcboenmmkaochaaDoor.N
open Go.ChangeShapes Go.WideShapes Go.ChangeAt Go.RowKit
set_option maxHeartbeats 400000
set_option maxRecDepth 100000

theorem read32_x (v : Value) (L : List Nat) (w : World) (hv : SeesB w v L) (hl : 4 ≤ L.length) :
    Calls Tryd.prog 61 #[v] w fun e w' => e = .returned (.int .u32 ((w32 L 0 : Nat) : Int)) ∧ ∃ m, w' = w.drewN m := by
  obtain ⟨ao, n, cap, rfl, HN, hn1, hn2⟩ := hv.shape
  have h4 : 4 ≤ n := by have := HN.out; omega
  obtain ⟨al, HSL, hlow⟩ := hv.low 2 2 rfl (by omega)
  have HA : Hid (∀ k, Calls Tryd.prog 52 #[.slice ao n cap] (w.drewN k) fun e w' => e = .returned (.int .u16 ((w16 L 0 : Nat) : Int)) ∧ ∃ m, w' = w.drewN m) := fun k =>
    Calls.quiet_of ((read16_x _ L _ (hv.below (below_drewN (Below.refl _ _) k)) (by omega)).mono fun _ _ ⟨he, hw⟩ => ⟨he, 1, hw⟩)
  have HB : Hid (∀ k, Calls Tryd.prog 52 #[.slice al (n - 2) (cap - 2)] (w.drewN k) fun e w' => e = .returned (.int .u16 ((w16 L 2 : Nat) : Int)) ∧ ∃ m, w' = w.drewN m) := fun k => by
    have := read16_x _ (L.drop 2) (w.drewN k) (HSL.out.below (below_drewN (Below.refl _ _) k)) (by rw [List.length_drop]; omega)
    rw [w16_drop] at this
    exact Calls.quiet_of (this.mono fun _ _ ⟨he, hw⟩ => ⟨he, 1, hw⟩)
  have hx := w16_lt hv.bytes 0
  have hy := w16_lt hv.bytes 2
  have HR : Hid (bits .or .u32 ((w16 L 0 * 65536 : Nat) : Int) (w16 L 2 : Int) = ((w32 L 0 : Nat) : Int)) := by unfold Hid; rw [or_u32 _ _ hx hy]; rfl
  have HC : Hid (∀ (v : Value) (x : Nat), ((v = .slice ao n cap ∧ x = w16 L 0) ∨ (v = .slice al (n - 2) (cap - 2) ∧ x = w16 L 2)) → ∀ k, Calls Tryd.prog 52 #[v] (w.drewN k) fun e w' => e = .returned (.int .u16 (x : Int)) ∧ ∃ m, w' = w.drewN m) := by
    rintro v x (⟨rfl, rfl⟩ | ⟨rfl, rfl⟩) k
    · exact HA.out k
    · exact HB.out k
  clear HA HB
  generalize w32 L 0 = r at *
  generalize w16 L 0 = p at *
  generalize w16 L 2 = q at *
  clear hv HSL
  generalize n - 2 = n2 at *
  generalize cap - 2 = cap2 at *
  go_enter Tryd.func61, Tryd.ntmps61
  go_wp2_with fail
  go_quiet ((first | (go_at_call 52; apply HC.out; first | exact .inl ⟨rfl, rfl⟩ | exact .inr ⟨rfl, rfl⟩) | fail))
  go_wp2_with fail
  go_ret
  exact ⟨ret_int (by rw [← HR.out]; simp), _, rfl⟩

end Go.Proofs.YtcboenmmkaochaaDoor.N

namespace Go.Proofs.YtcboenmmkaochaaDoor.N
open Go.ChangeShapes Go.WideShapes Go.ChangeAt Go.RowKit
set_option maxHeartbeats 400000
set_option maxRecDepth 100000

/-- Where the header ends, where the packet ends, the first error. -/
def lens (L : List Nat) (whole : Bool) : Nat × Nat × Int :=
  if L.length < 20 then (0, 0, 30)
  else if byt L 0 / 16 ≠ 4 then (0, 0, 31)
  else if byt L 0 % 16 * 4 < 20 then (0, 0, 32)
  else if L.length < byt L 0 % 16 * 4 then (0, 0, 30)
  else if w16 L 2 < byt L 0 % 16 * 4 then (0, 0, 32)
  else if whole = true ∧ L.length < w16 L 2 then (0, 0, 30)
  else (byt L 0 % 16 * 4, w16 L 2, 0)

theorem ret_three {k l m : IntKind} {a b c a' b' c' : Int} (h1 : a = a') (h2 : b = b') (h3 : c = c') : Ending.returned (.tuple #[.int k a, .int l b, .int m c]) = .returned (.tuple #[.int k a', .int l b', .int m c']) := by rw [h1, h2, h3]

set_option maxHeartbeats 2000000 in
theorem lens_code (v : Value) (L : List Nat) (whole : Bool) (w : World) (hv : SeesB w v L) (hl : L.length ≤ 140737488355328) :
    Calls Tryd.prog 58 #[v, .bool whole] w fun e w' => e = .returned (.tuple #[.int .i64 ((lens L whole).1 : Int), .int .i64 ((lens L whole).2.1 : Int), .int .i64 (lens L whole).2.2]) ∧ Below w.heap.size w w' := by
  obtain ⟨ao, n, cap, rfl, HN, hn1, hn2⟩ := hv.shape
  have hnl : n ≤ 140737488355328 := by have := HN.out; omega
  unfold maxLen at hn2
  obtain ⟨R, hR⟩ : ∃ R, R = lens L whole := ⟨_, rfl⟩
  have HR := hid hR
  rw [← hR]
  unfold lens at HR
  rw [← HN.out] at HR
  clear hR hl
  by_cases h1 : n < 20
  · have HE : Hid (R = (0, 0, 30)) := by unfold Hid; rw [HR.out, if_pos h1]
    go_enter Tryd.func58, Tryd.ntmps58
    go_wp2_with fail
    go_ret3
    exact ⟨ret_three (by rw [HE.out]; rfl) (by rw [HE.out]; rfl) (by rw [HE.out]), Below.refl _ _⟩
  · obtain ⟨g, off, rfl, hg, hc⟩ := hv.atB 0 (by omega)
    rw [Nat.add_zero] at hc
    have hx := byt_lt hv.bytes 0
    have hy := w16_lt hv.bytes 2
    obtain ⟨al, HSL, hlow⟩ := hv.low 2 2 rfl (by omega)
    have HC := read16_x _ (L.drop 2) w HSL.out (by rw [List.length_drop]; have := HN.out; omega)
    rw [w16_drop] at HC
    have HC := hid HC
    have hA := and_u8_mask (byt L 0) hx
    rw [if_neg h1] at HR
    generalize w16 L 2 = l at *
    generalize byt L 0 = x at *
    clear hv
    have hz1 : x % 16 < 16 := Nat.mod_lt _ (by decide)
    have ez : (x : Int) % 16 = ((x % 16 : Nat) : Int) := by simp
    generalize x % 16 = z at *
    by_cases h2 : x / 16 = 4
    · rw [if_neg (by omega)] at HR
      have hq : ((x : Int) / 16 != 4) = false := by simp; omega
      clear h2
      by_cases h3 : z * 4 < 20
      · have HE : Hid (R = (0, 0, 32)) := by unfold Hid; rw [HR.out, if_pos h3]
        clear HR
        go_enter Tryd.func58, Tryd.ntmps58
        go_wp2_with fail
        refine HC.out.mono ?_
        rintro _ _ ⟨rfl, rfl⟩
        go_wp2_with fail
        go_ret3
        exact ⟨ret_three (by rw [HE.out]; rfl) (by rw [HE.out]; rfl) (by rw [HE.out]), below_drew (Below.refl _ _)⟩
      · rw [if_neg h3] at HR
        by_cases h4 : n < z * 4
        · have HE : Hid (R = (0, 0, 30)) := by unfold Hid; rw [HR.out, if_pos h4]
          clear HR
          go_enter Tryd.func58, Tryd.ntmps58
          go_wp2_with fail
          refine HC.out.mono ?_
          rintro _ _ ⟨rfl, rfl⟩
          go_wp2_with fail
          go_ret3
          exact ⟨ret_three (by rw [HE.out]; rfl) (by rw [HE.out]; rfl) (by rw [HE.out]), below_drew (Below.refl _ _)⟩
        · rw [if_neg h4] at HR
          by_cases h5 : l < z * 4
          · have HE : Hid (R = (0, 0, 32)) := by unfold Hid; rw [HR.out, if_pos h5]
            clear HR
            go_enter Tryd.func58, Tryd.ntmps58
            go_wp2_with fail
            refine HC.out.mono ?_
            rintro _ _ ⟨rfl, rfl⟩
            go_wp2_with fail
            go_ret3
            exact ⟨ret_three (by rw [HE.out]; rfl) (by rw [HE.out]; rfl) (by rw [HE.out]), below_drew (Below.refl _ _)⟩
          · rw [if_neg h5] at HR
            cases whole with
            | false =>
              have HE : Hid (R = (z * 4, l, 0)) := by unfold Hid; rw [HR.out, if_neg (by simp)]
              clear HR
              go_enter Tryd.func58, Tryd.ntmps58
              go_wp2_with fail
              refine HC.out.mono ?_
              rintro _ _ ⟨rfl, rfl⟩
              go_wp2_with fail
              go_ret3
              exact ⟨ret_three (by rw [HE.out]; simp <;> omega) (by rw [HE.out]) (by rw [HE.out]), below_drew (Below.refl _ _)⟩
            | true =>
              by_cases h6 : n < l
              · have HE : Hid (R = (0, 0, 30)) := by unfold Hid; rw [HR.out, if_pos ⟨rfl, h6⟩]
                clear HR
                go_enter Tryd.func58, Tryd.ntmps58
                go_wp2_with fail
                refine HC.out.mono ?_
                rintro _ _ ⟨rfl, rfl⟩
                go_wp2_with fail
                go_ret3
                exact ⟨ret_three (by rw [HE.out]; rfl) (by rw [HE.out]; rfl) (by rw [HE.out]), below_drew (Below.refl _ _)⟩
              · have HE : Hid (R = (z * 4, l, 0)) := by unfold Hid; rw [HR.out, if_neg (by omega)]
                clear HR
                go_enter Tryd.func58, Tryd.ntmps58
                go_wp2_with fail
                refine HC.out.mono ?_
                rintro _ _ ⟨rfl, rfl⟩
                go_wp2_with fail
                go_ret3
                exact ⟨ret_three (by rw [HE.out]; simp <;> omega) (by rw [HE.out]) (by rw [HE.out]), below_drew (Below.refl _ _)⟩
    · have HE : Hid (R = (0, 0, 31)) := by unfold Hid; rw [HR.out, if_pos h2]
      have hq : ((x : Int) / 16 != 4) = true := by simp; omega
      clear h2 HR
      go_enter Tryd.func58, Tryd.ntmps58
      go_wp2_with fail
      go_ret3
      exact ⟨ret_three (by rw [HE.out]; rfl) (by rw [HE.out]; rfl) (by rw [HE.out]), Below.refl _ _⟩

end Go.Proofs.YtcboenmmkaochaaDoor.N

namespace Go.Proofs.YtcboenmmkaochaaDoor.N
open Go.ChangeShapes Go.WideShapes Go.ChangeAt Go.RowKit
set_option maxHeartbeats 400000
set_option maxRecDepth 100000

/-- The first error of a header, its body's length told. -/
def hdE (H : List Nat) (nb : Nat) : Int :=
  if M.csum H ≠ 0 then 33
  else if 128 ≤ byt H 6 then 32
  else if M.area (H.drop 20) = false then 34
  else if M.pieceOk ((w16 H 6 % 8192 * 8 : Nat) : Int) nb (decide (byt H 6 / 32 % 2 = 1)) = false then 36
  else 0

theorem bit15 (H : List Nat) (hb : ∀ x ∈ H, x < 256) : (bits .and .u16 ((w16 H 6 : Nat) : Int) 32768 != 0) = decide (128 ≤ byt H 6) := by
  have h := and_u16_bit (w16 H 6) 15 (w16_lt hb 6) (by decide)
  rw [show ((2 ^ 15 : Nat) : Int) = 32768 from rfl] at h
  rw [h]
  have h1 := byt_lt hb 6
  have h2 := byt_lt hb 7
  unfold w16
  by_cases g : 128 ≤ byt H 6
  · rw [decide_eq_true g]; simp; omega
  · rw [decide_eq_false g]; simp; omega

theorem bit13 (H : List Nat) (hb : ∀ x ∈ H, x < 256) : (bits .and .u16 ((w16 H 6 : Nat) : Int) 8192 != 0) = decide (byt H 6 / 32 % 2 = 1) := by
  have h := and_u16_bit (w16 H 6) 13 (w16_lt hb 6) (by decide)
  rw [show ((2 ^ 13 : Nat) : Int) = 8192 from rfl] at h
  rw [h]
  have h1 := byt_lt hb 6
  have h2 := byt_lt hb 7
  unfold w16
  by_cases g : byt H 6 / 32 % 2 = 1
  · rw [decide_eq_true g]; simp; omega
  · rw [decide_eq_false g]; simp; omega

theorem bit14 (H : List Nat) (hb : ∀ x ∈ H, x < 256) : (bits .and .u16 ((w16 H 6 : Nat) : Int) 16384 != 0) = decide (byt H 6 / 64 % 2 = 1) := by
  have h := and_u16_bit (w16 H 6) 14 (w16_lt hb 6) (by decide)
  rw [show ((2 ^ 14 : Nat) : Int) = 16384 from rfl] at h
  rw [h]
  have h1 := byt_lt hb 6
  have h2 := byt_lt hb 7
  unfold w16
  by_cases g : byt H 6 / 64 % 2 = 1
  · rw [decide_eq_true g]; simp; omega
  · rw [decide_eq_false g]; simp; omega

set_option maxHeartbeats 2000000 in
theorem hdE_code (v : Value) (H : List Nat) (i : Int) (nb : Nat) (w : World) (hv : SeesB w v H) (h20 : 20 ≤ H.length) (h60 : H.length ≤ 60) (hi : i = (nb : Int)) (hnb : nb ≤ 65535) :
    Calls Tryd.prog 59 #[v, .int .i64 i] w fun e w' => e = .returned (.int .i64 (hdE H nb)) ∧ Below w.heap.size w w' := by
  subst hi
  obtain ⟨ao, n, cap, rfl, HN, hn1, hn2⟩ := hv.shape
  have hn20 : 20 ≤ n := by have := HN.out; omega
  have hn60 : n ≤ 60 := by have := HN.out; omega
  unfold maxLen at hn2
  obtain ⟨R, hR⟩ : ∃ R, R = hdE H nb := ⟨_, rfl⟩
  have HR := hid hR
  rw [← hR]
  unfold hdE at HR
  clear hR
  have h15 := bit15 H hv.bytes
  have h13 := bit13 H hv.bytes
  have hf := w16_lt hv.bytes 6
  obtain ⟨al, HSL, hlow⟩ := hv.low 6 6 rfl (by omega)
  obtain ⟨am, HSM, hlow2⟩ := hv.low 20 20 rfl (by omega)
  have HC := read16_x _ (H.drop 6) w HSL.out (by rw [List.length_drop]; omega)
  rw [w16_drop] at HC
  have HC := hid HC
  have HS := sum_code _ _ _ (seesBB_one (w := w.drew) rfl _ _ (sees_drew hv) 25) (by simp; omega)
  rw [show [H].flatten = H by simp] at HS
  have HS := hid HS
  have HA := hid (fun u (hu : Below w.heap.size w u) => area_code _ (H.drop 20) u (HSM.out.below hu))
  have HO := hid (fun u => offset_any (w16 H 6) u hf)
  have HP := hid (fun u => piece_code ((w16 H 6 % 8192 * 8 : Nat) : Int) nb (decide (byt H 6 / 32 % 2 = 1)) u (by omega) (by omega))
  have hcs := M.csum_lt H
  rw [show (6 : Nat) + 0 = 6 from rfl] at HC
  generalize M.csum H = s at *
  generalize M.area (H.drop 20) = a at *
  generalize M.pieceOk ((w16 H 6 % 8192 * 8 : Nat) : Int) nb (decide (byt H 6 / 32 % 2 = 1)) = p at *
  generalize decide (byt H 6 / 32 % 2 = 1) = b13 at *
  by_cases hg : 128 ≤ byt H 6
  all_goals (first | rw [decide_eq_true hg] at h15 | rw [decide_eq_false hg] at h15)
  all_goals generalize byt H 6 = x6 at *
  all_goals generalize w16 H 6 % 8192 * 8 = o8 at *
  all_goals generalize w16 H 6 = f at *
  all_goals (have hw1 : Below w.heap.size w (w.drew.alloc (.cells #[.slice ao n cap] 25)) := (below_drew (Below.refl _ _)).alloc (Nat.le_refl _) _)
  all_goals clear hv HSL HSM
  all_goals (by_cases hs : s = 0)
  · have HE : Hid (R = 32) := by unfold Hid; rw [HR.out, if_neg (by omega), if_pos hg]
    have hq : ((s : Int) != 0) = false := by simp [hs]
    clear hs HR hg
    go_enter Tryd.func59, Tryd.ntmps59
    go_wp2_with fail
    refine HC.out.mono ?_
    rintro _ _ ⟨rfl, rfl⟩
    go_wp2_with fail
    refine HS.out.mono ?_
    rintro _ w2 ⟨rfl, hb2⟩
    go_wp2_with fail
    go_ret
    exact ⟨ret_int (by rw [HE.out]), hw1.trans (hb2.mono hw1.size)⟩
  · have HE : Hid (R = 33) := by unfold Hid; rw [HR.out, if_pos (by omega)]
    have hq : ((s : Int) != 0) = true := by simp; omega
    clear hs HR hg
    go_enter Tryd.func59, Tryd.ntmps59
    go_wp2_with fail
    refine HC.out.mono ?_
    rintro _ _ ⟨rfl, rfl⟩
    go_wp2_with fail
    refine HS.out.mono ?_
    rintro _ w2 ⟨rfl, hb2⟩
    go_wp2_with fail
    go_ret
    exact ⟨ret_int (by rw [HE.out]), hw1.trans (hb2.mono hw1.size)⟩
  · rw [if_neg (by omega), if_neg hg] at HR
    have hq : ((s : Int) != 0) = false := by simp [hs]
    clear hs hg
    cases a with
    | false =>
      have HE : Hid (R = 34) := by unfold Hid; rw [HR.out, if_pos rfl]
      clear HR
      go_enter Tryd.func59, Tryd.ntmps59
      go_wp2_with fail
      refine HC.out.mono ?_
      rintro _ _ ⟨rfl, rfl⟩
      go_wp2_with fail
      refine HS.out.mono ?_
      rintro _ w2 ⟨rfl, hb2⟩
      have hb3 := hw1.trans (hb2.mono hw1.size)
      clear hb2
      go_wp2_with fail
      refine (HA.out _ hb3).mono ?_
      rintro _ _ ⟨rfl, rfl⟩
      go_wp2_with fail
      go_ret
      exact ⟨ret_int (by rw [HE.out]), hb3⟩
    | true =>
      rw [if_neg (by simp)] at HR
      cases p with
      | false =>
        have HE : Hid (R = 36) := by unfold Hid; rw [HR.out, if_pos rfl]
        clear HR
        go_enter Tryd.func59, Tryd.ntmps59
        go_wp2_with fail
        refine HC.out.mono ?_
        rintro _ _ ⟨rfl, rfl⟩
        go_wp2_with fail
        refine HS.out.mono ?_
        rintro _ w2 ⟨rfl, hb2⟩
        have hb3 := hw1.trans (hb2.mono hw1.size)
        clear hb2
        go_wp2_with fail
        refine (HA.out _ hb3).mono ?_
        rintro _ _ ⟨rfl, rfl⟩
        go_wp2_with fail
        refine (HO.out _).mono ?_
        rintro _ _ ⟨rfl, rfl⟩
        go_wp2_with fail
        refine (HP.out _).mono ?_
        rintro _ _ ⟨rfl, rfl⟩
        go_wp2_with fail
        go_ret
        exact ⟨ret_int (by rw [HE.out]), hb3⟩
      | true =>
        have HE : Hid (R = 0) := by unfold Hid; rw [HR.out, if_neg (by simp)]
        clear HR
        go_enter Tryd.func59, Tryd.ntmps59
        go_wp2_with fail
        refine HC.out.mono ?_
        rintro _ _ ⟨rfl, rfl⟩
        go_wp2_with fail
        refine HS.out.mono ?_
        rintro _ w2 ⟨rfl, hb2⟩
        have hb3 := hw1.trans (hb2.mono hw1.size)
        clear hb2
        go_wp2_with fail
        refine (HA.out _ hb3).mono ?_
        rintro _ _ ⟨rfl, rfl⟩
        go_wp2_with fail
        refine (HO.out _).mono ?_
        rintro _ _ ⟨rfl, rfl⟩
        go_wp2_with fail
        refine (HP.out _).mono ?_
        rintro _ _ ⟨rfl, rfl⟩
        go_wp2_with fail
        go_ret
        exact ⟨ret_int (by rw [HE.out]), hb3⟩
  · have HE : Hid (R = 33) := by unfold Hid; rw [HR.out, if_pos (by omega)]
    have hq : ((s : Int) != 0) = true := by simp; omega
    clear hs HR hg
    go_enter Tryd.func59, Tryd.ntmps59
    go_wp2_with fail
    refine HC.out.mono ?_
    rintro _ _ ⟨rfl, rfl⟩
    go_wp2_with fail
    refine HS.out.mono ?_
    rintro _ w2 ⟨rfl, hb2⟩
    go_wp2_with fail
    go_ret
    exact ⟨ret_int (by rw [HE.out]), hw1.trans (hb2.mono hw1.size)⟩
end Go.Proofs.YtcboenmmkaochaaDoor.N

namespace Go.Proofs.YtcboenmmkaochaaDoor.N
open Go.ChangeShapes Go.WideShapes Go.ChangeAt Go.RowKit
set_option maxHeartbeats 400000
set_option maxRecDepth 100000

def exam (L : List Nat) (whole : Bool) : Nat × Nat × Int :=
  if (lens L whole).2.2 ≠ 0 then (0, 0, (lens L whole).2.2)
  else if hdE (L.take (lens L whole).1) ((lens L whole).2.1 - (lens L whole).1) ≠ 0 then (0, 0, hdE (L.take (lens L whole).1) ((lens L whole).2.1 - (lens L whole).1))
  else lens L whole

theorem lens_ok {L : List Nat} {whole : Bool} (h : (lens L whole).2.2 = 0) : 20 ≤ (lens L whole).1 ∧ (lens L whole).1 ≤ 60 ∧ (lens L whole).1 ≤ L.length ∧ (lens L whole).1 ≤ (lens L whole).2.1 ∧ (whole = true → (lens L whole).2.1 ≤ L.length) ∧ (lens L whole).1 = byt L 0 % 16 * 4 ∧ (lens L whole).2.1 = w16 L 2 := by
  by_cases h1 : L.length < 20
  · unfold lens at h; rw [if_pos h1] at h; cases h
  · by_cases h2 : byt L 0 / 16 ≠ 4
    · unfold lens at h; rw [if_neg h1, if_pos h2] at h; cases h
    · by_cases h3 : byt L 0 % 16 * 4 < 20
      · unfold lens at h; rw [if_neg h1, if_neg h2, if_pos h3] at h; cases h
      · by_cases h4 : L.length < byt L 0 % 16 * 4
        · unfold lens at h; rw [if_neg h1, if_neg h2, if_neg h3, if_pos h4] at h; cases h
        · by_cases h5 : w16 L 2 < byt L 0 % 16 * 4
          · unfold lens at h; rw [if_neg h1, if_neg h2, if_neg h3, if_neg h4, if_pos h5] at h; cases h
          · by_cases h6 : whole = true ∧ L.length < w16 L 2
            · unfold lens at h; rw [if_neg h1, if_neg h2, if_neg h3, if_neg h4, if_neg h5, if_pos h6] at h; cases h
            · have e : lens L whole = (byt L 0 % 16 * 4, w16 L 2, 0) := by
                unfold lens; rw [if_neg h1, if_neg h2, if_neg h3, if_neg h4, if_neg h5, if_neg h6]
              rw [e]
              simp only
              refine ⟨by omega, by omega, by omega, by omega, fun hw => ?_, trivial, trivial⟩
              rcases Nat.lt_or_ge L.length (w16 L 2) with h7 | h7
              · exact absurd ⟨hw, h7⟩ h6
              · exact h7

theorem exam_ok {L : List Nat} {whole : Bool} (h : (exam L whole).2.2 = 0) : (lens L whole).2.2 = 0 ∧ hdE (L.take (lens L whole).1) ((lens L whole).2.1 - (lens L whole).1) = 0 ∧ exam L whole = lens L whole := by
  by_cases h1 : (lens L whole).2.2 = 0
  · by_cases h2 : hdE (L.take (lens L whole).1) ((lens L whole).2.1 - (lens L whole).1) = 0
    · refine ⟨h1, h2, ?_⟩
      unfold exam; rw [if_neg (by simp [h1]), if_neg (by simp [h2])]
    · exfalso; unfold exam at h; rw [if_neg (by simp [h1]), if_pos h2] at h; exact h2 h
  · exfalso; unfold exam at h; rw [if_pos h1] at h; exact h1 h

set_option maxHeartbeats 300000 in
theorem exam_code (v : Value) (L : List Nat) (whole : Bool) (w : World) (hv : SeesB w v L) (hl : L.length ≤ 140737488355328) :
    Calls Tryd.prog 50 #[v, .bool whole] w fun e w' => e = .returned (.tuple #[.int .i64 ((exam L whole).1 : Int), .int .i64 ((exam L whole).2.1 : Int), .int .i64 (exam L whole).2.2]) ∧ Below w.heap.size w w' := by
  have HL := hid (lens_code v L whole w hv hl)
  obtain ⟨ao, n, cap, rfl, HN, hn1, hn2⟩ := hv.shape
  unfold maxLen at hn2
  obtain ⟨R, hR⟩ : ∃ R, R = exam L whole := ⟨_, rfl⟩
  have HR := hid hR
  rw [← hR]
  unfold exam at HR
  clear hR
  by_cases h1 : (lens L whole).2.2 = 0
  · obtain ⟨a1, a2, a3, a4, a5, a6, a7⟩ := lens_ok h1
    clear a5 a6
    have hl16 := w16_lt hv.bytes 2
    rw [← a7] at hl16
    rw [if_neg (by simp [h1])] at HR
    rw [h1] at HL
    obtain ⟨ah, HSH, hhigh⟩ := hv.high (lens L whole).1 ((lens L whole).1 : Int) rfl (by have := HN.out; omega)
    have HC := hid (fun u (hu : Below w.heap.size w u) (i : Int) (hi : i = (((lens L whole).2.1 - (lens L whole).1 : Nat) : Int)) => hdE_code _ (L.take (lens L whole).1) i ((lens L whole).2.1 - (lens L whole).1) u (HSH.out.below hu) (by rw [List.length_take]; omega) (by rw [List.length_take]; omega) hi (by omega))
    have HRL : Hid (∀ h l : Nat, lens L whole = (h, l, 0) → lens L whole = (h, l, 0)) := fun _ _ h => h
    have HLE : Hid (lens L whole = ((lens L whole).1, (lens L whole).2.1, 0)) := by
      unfold Hid
      apply Prod.ext
      · rfl
      · apply Prod.ext
        · rfl
        · exact h1
    generalize hdE (L.take (lens L whole).1) ((lens L whole).2.1 - (lens L whole).1) = e at *
    generalize lens L whole = t at *
    obtain ⟨h, l, z⟩ := t
    simp only at *
    subst h1
    clear hv HSH HRL HLE a7
    by_cases he : e = 0
    · have HE : Hid (R = (h, l, 0)) := by unfold Hid; rw [HR.out, if_neg (by simp [he])]
      have hq : (e != 0) = false := by simp [he]
      clear he HR
      go_enter Tryd.func50, Tryd.ntmps50
      go_wp2_with fail
      refine HL.out.mono ?_
      rintro _ w2 ⟨rfl, hb2⟩
      go_wp2_with fail
      refine (HC.out _ hb2 _ (by omega)).mono ?_
      rintro _ w3 ⟨rfl, hb3⟩
      go_wp2_with fail
      go_ret3
      exact ⟨ret_three (by rw [HE.out]) (by rw [HE.out]) (by rw [HE.out]), hb2.trans (hb3.mono hb2.size)⟩
    · have HE : Hid (R = (0, 0, e)) := by unfold Hid; rw [HR.out, if_pos he]
      have hq : (e != 0) = true := by simp [he]
      clear he HR
      go_enter Tryd.func50, Tryd.ntmps50
      go_wp2_with fail
      refine HL.out.mono ?_
      rintro _ w2 ⟨rfl, hb2⟩
      go_wp2_with fail
      refine (HC.out _ hb2 _ (by omega)).mono ?_
      rintro _ w3 ⟨rfl, hb3⟩
      go_wp2_with fail
      go_ret3
      exact ⟨ret_three (by rw [HE.out]; rfl) (by rw [HE.out]; rfl) (by rw [HE.out]), hb2.trans (hb3.mono hb2.size)⟩
  · rw [if_pos h1] at HR
    generalize lens L whole = t at *
    obtain ⟨h, l, z⟩ := t
    simp only at *
    have HE := HR
    have hq : (z != 0) = true := by simp [h1]
    clear h1 HR hv
    go_enter Tryd.func50, Tryd.ntmps50
    go_wp2_with fail
    refine HL.out.mono ?_
    rintro _ w2 ⟨rfl, hb2⟩
    go_wp2_with fail
    go_ret3
    exact ⟨ret_three (by rw [HE.out]; rfl) (by rw [HE.out]; rfl) (by rw [HE.out]), hb2⟩

/-- A cut 'x[:m:m]'. -/
theorem SeesB.high3 {w : World} {ao : Option Addr} {n cap : Nat} {L : List Nat} (h : SeesB w (.slice ao n cap) L) (m : Nat) (i : Int) (hi : i = m) (hm : m ≤ n) (hs : ao ≠ none) :
    ∃ ao', Hid (SeesB w (.slice ao' m m) (L.take m)) ∧ Hid (ao' = ao) ∧ ∀ u : World, (Instr.sliceAt 25 (.slice ao n cap) none (some (.int .i64 i)) (some (.int .i64 i))).run Tryd.prog u = .ok (.slice ao' m m) u := by
  subst hi
  obtain ⟨ao1, cap1, hv, h1, h2, h3⟩ := h
  simp at hv
  obtain ⟨rfl, hlen, rfl⟩ := hv
  refine ⟨ao, ?_, rfl, fun u => ?_⟩
  · refine ⟨ao, m, by rw [List.length_take]; congr 1; omega, ⟨by rw [List.length_take]; omega, fun h => absurd h hs⟩, by omega, fun j hj => ?_⟩
    rw [List.length_take] at hj
    obtain ⟨g, off, ha, hg, hc, hb⟩ := h3 j (by omega)
    exact ⟨g, off, ha, hg, by rw [List.getElem_take]; exact hc, by rw [List.getElem_take]; exact hb⟩
  · have hu : Tryd.prog.underlying 25 = some (.slice (Tryd.prog.elem 25)) := by kernel_rfl
    have hsz : (sizeOf (Tryd.prog.elem 25)).run Tryd.prog u = .ok 1 u := by kernel_rfl
    rw [run_sliceAt_slice (h := hu), run_slice_hm (ht := hu) (h0 := by omega) (h2 := by omega) (h3 := by omega), hsz]
    simp [Result.andThen, sliced]
    intro _
    cases ao <;> simp [Addr.add]

/-- A cut 'x[m:n:n]' up to a list's whole room. -/
theorem SeesB.low3 {w : World} {g n : Nat} {L : List Nat} (h : SeesB w (.slice (some ⟨g, 0, none⟩) n n) L) (m : Nat) (i k : Int) (hi : i = m) (hk : k = n) (hm : m ≤ n) :
    ∃ ao', Hid (SeesB w (.slice (some ao') (n - m) (n - m)) (L.drop m)) ∧ Hid (ao'.block = g) ∧ ∀ u : World, (Instr.sliceAt 25 (.slice (some ⟨g, 0, none⟩) n n) (some (.int .i64 i)) (some (.int .i64 k)) (some (.int .i64 k))).run Tryd.prog u = .ok (.slice (some ao') (n - m) (n - m)) u := by
  subst hi hk
  have hb := h.back m hm
  refine ⟨if n = m then ⟨g, 0, none⟩ else ⟨g, 0 + m, none⟩, ?_, by unfold Hid; split <;> rfl, fun u => ?_⟩
  · have e : (if n = m then some (⟨g, 0, none⟩ : Addr) else some ⟨g, 0 + m, none⟩) = some (if n = m then ⟨g, 0, none⟩ else ⟨g, 0 + m, none⟩) := by split <;> rfl
    rw [e] at hb
    exact hb
  · have hu : Tryd.prog.underlying 25 = some (.slice (Tryd.prog.elem 25)) := by kernel_rfl
    have hsz : (sizeOf (Tryd.prog.elem 25)).run Tryd.prog u = .ok 1 u := by kernel_rfl
    rw [run_sliceAt_slice (h := hu), run_slice_lhm (ht := hu) (h0 := by omega) (h1 := by omega) (h2 := by omega) (h3 := by omega), hsz]
    have ea : (⟨g, 0, none⟩ : Addr).add m = ⟨g, 0 + m, none⟩ := Addr.add_mid g 0 m
    simp [Result.andThen, sliced]
    by_cases e : n = m
    · simp [e]
    · simp [e, ea]
end Go.Proofs.YtcboenmmkaochaaDoor.N

namespace Go.Proofs.YtcboenmmkaochaaDoor.N
open Go.ChangeShapes Go.WideShapes Go.ChangeAt Go.RowKit
set_option maxHeartbeats 400000
set_option maxRecDepth 100000

/-- The header that bytes tell. -/
def rdH (L : List Nat) (h : Nat) : Hd := ⟨byt L 1, w16 L 4, decide (byt L 6 / 64 % 2 = 1), decide (byt L 6 / 32 % 2 = 1), ((w16 L 6 % 8192 * 8 : Nat) : Int), byt L 8, byt L 9, w32 L 12, w32 L 16, (L.take h).drop 20⟩

theorem make_bytes (k : Nat) (hk : k ≤ 1099511627776) (u : World) : (Instr.makeSlice 25 (.int .i64 (k : Int)) (.int .i64 (k : Int))).run Tryd.prog u = .ok (.slice (some ⟨u.heap.size, 0, none⟩) k k) (u.alloc (.cells (madeCells #[.int .u8 0] k) 5)) := by
  obtain ⟨i0, hi0, hz0, hz1, hz2⟩ := info_parts Tryd.info5
  have := run_make (P := Tryd.prog) u 25 5 i0 (.int .u8 0) Tryd.underlying25 hi0 hz0 .i64 .i64 (k : Int) (k : Int) (by omega) (by omega) (by rw [hz2]; simp; omega) (by omega)
  rw [hz1] at this
  simpa [Value.cells] using this

theorem sees_blk {u : World} {g k : Nat} {X : List Nat} {t : TypeId} (hb : u.heap[g]? = some (.cells (bs X).toArray t)) (hk : X.length = k) (hkm : k ≤ 1099511627776) (hx : ∀ x ∈ X, x < 256) : SeesB u (.slice (some ⟨g, 0, none⟩) k k) X := by
  subst hk
  refine ⟨some ⟨g, 0, none⟩, X.length, rfl, ⟨Nat.le_refl _, fun h => by cases h⟩, by unfold maxLen; omega, fun j hj => ⟨g, 0, rfl, (Array.getElem?_eq_some_iff.1 hb).1, ?_, hx _ (List.getElem_mem hj)⟩⟩
  rw [Nat.zero_add, cell_of_row u _ _ _ _ _ hb]
  simp [bs, hj]

theorem size5 : (Tryd.prog.info? 5).map (·.size) = some 1 := by kernel_rfl

theorem keep_drew {B : Nat} {w0 u : World} {p q r : Addr} {a b c : Value} (h : Below B w0 u ∧ u.cell? p = some a ∧ u.cell? q = some b ∧ u.cell? r = some c) : Below B w0 u.drew ∧ u.drew.cell? p = some a ∧ u.drew.cell? q = some b ∧ u.drew.cell? r = some c :=
  ⟨below_drew h.1, by simpa using h.2.1, by simpa using h.2.2.1, by simpa using h.2.2.2⟩

theorem keep_drewN {B m : Nat} {w0 u : World} {p q r : Addr} {a b c : Value} (h : Below B w0 u ∧ u.cell? p = some a ∧ u.cell? q = some b ∧ u.cell? r = some c) : Below B w0 (u.drewN m) ∧ (u.drewN m).cell? p = some a ∧ (u.drewN m).cell? q = some b ∧ (u.drewN m).cell? r = some c :=
  ⟨below_drewN h.1 m, h.2.1, h.2.2.1, h.2.2.2⟩

theorem keep_alloc {B : Nat} {w0 u : World} {p q r : Addr} {a b c : Value} (h : Below B w0 u ∧ u.cell? p = some a ∧ u.cell? q = some b ∧ u.cell? r = some c) (o : Obj) (hB : B = w0.heap.size) : Below B w0 (u.alloc o) ∧ (u.alloc o).cell? p = some a ∧ (u.alloc o).cell? q = some b ∧ (u.alloc o).cell? r = some c :=
  ⟨h.1.alloc (by subst hB; exact h.1.size) _, (World.cell?_alloc_lt _ _ _ (World.block_lt_of_cell? u _ h.2.1)).trans h.2.1, (World.cell?_alloc_lt _ _ _ (World.block_lt_of_cell? u _ h.2.2.1)).trans h.2.2.1, (World.cell?_alloc_lt _ _ _ (World.block_lt_of_cell? u _ h.2.2.2)).trans h.2.2.2⟩

theorem SeesB.src {w : World} {ao : Option Addr} {n cap : Nat} {L : List Nat} (h : SeesB w (.slice ao n cap) L) (hpos : 0 < (bs L).length) : ∃ ad, ao = some ad ∧ ∀ j v, (bs L)[j]? = some v → w.cell? (ad.add j) = some v := by
  have hL : 0 < L.length := by simpa [bs] using hpos
  have hn : n = L.length := by obtain ⟨_, _, hv, _⟩ := h; simp at hv; exact hv.2.1
  obtain ⟨g, off, p, ha, _⟩ := h.at 0 (by omega)
  refine ⟨_, ha, fun j v hv => ?_⟩
  have hj : j < L.length := by have := (List.getElem?_eq_some_iff.1 hv).1; simpa [bs] using this
  obtain ⟨g', off', p', ha', _, hc, _, HP⟩ := h.at j (by omega)
  rw [ha] at ha'
  simp at ha'
  obtain ⟨rfl, rfl⟩ := ha'
  rw [Addr.add_mid, hc]
  have e : (bs L)[j]? = some (.int .u8 (p' : Int)) := by unfold bs; rw [List.getElem?_map, HP.out]; rfl
  rw [← e, hv]

theorem splice_whole {cur cs : List Value} (h : cs.length = cur.length) : splice cur 0 cs = cs := by
  unfold splice; simp; omega

theorem keep_of {w0 u : World} {p q r : Addr} {a b c : Value} (h1 : w0.cell? p = some a) (h2 : w0.cell? q = some b) (h3 : w0.cell? r = some c) (h : Below w0.heap.size w0 u) : Below w0.heap.size w0 u ∧ u.cell? p = some a ∧ u.cell? q = some b ∧ u.cell? r = some c :=
  ⟨h, (h.cell (World.block_lt_of_cell? w0 _ h1)).trans h1, (h.cell (World.block_lt_of_cell? w0 _ h2)).trans h2, (h.cell (World.block_lt_of_cell? w0 _ h3)).trans h3⟩

theorem size27 : (Tryd.prog.info? 27).map (·.size) = some 10 := by kernel_rfl

def Z27 : Array Value := #[.int .u8 0, .int .u16 0, .bool false, .bool false, .int .i64 0, .int .u8 0, .int .u8 0, .int .u32 0, .int .u32 0, .slice none 0 0]

theorem there_blk {u : World} {n k : Nat} {C : Array Value} {t : TypeId} (hb : u.heap[n]? = some (.cells C t (0, 0))) (hk : k = C.size) : u.there n 0 k := fun i hi => by
  subst hk
  refine ⟨?_, by rw [Nat.zero_add]; exact frozen_of_row _ _ _ _ _ hb⟩
  rw [Nat.zero_add, cell_of_row _ _ _ _ _ _ hb, Array.getElem?_eq_getElem hi]; rfl

theorem there_new (u : World) (n : Nat) (hn : u.heap.size = n) : (u.alloc (.cells Z27 27)).there n 0 10 := by
  subst hn
  exact there_blk (C := Z27) (heap_alloc_new u _) rfl

end Go.Proofs.YtcboenmmkaochaaDoor.N

namespace Go.Proofs.YtcboenmmkaochaaDoor.N
open Go.ChangeShapes Go.WideShapes Go.ChangeAt Go.RowKit
set_option maxHeartbeats 400000
set_option maxRecDepth 100000

theorem SeesB.lowS {w : World} {ao : Option Addr} {n cap : Nat} {L : List Nat} (h : SeesB w (.slice ao n cap) L) (m : Nat) (hm : m ≤ n) :
    SeesB w (.slice (if cap = m then ao else ao.map (·.add m)) (n - m) (cap - m)) (L.drop m) := by
  have hlen : n = L.length := by obtain ⟨_, _, hv, _⟩ := h; simp at hv; exact hv.2.1
  cases ao with
  | none =>
    have hn : n = 0 := by
      rcases Nat.eq_zero_or_pos n with h0 | h0
      · exact h0
      · obtain ⟨_, _, _, hc, _⟩ := h.at 0 h0; cases hc
    obtain ⟨_, _, hv, h1, h3, _⟩ := h
    simp at hv
    obtain ⟨rfl, _, rfl⟩ := hv
    have hL : L.drop m = [] := List.drop_eq_nil_of_le (by omega)
    rw [hL]
    exact ⟨_, cap - m, by rw [show n - m = 0 by omega]; rfl, ⟨by simp, fun h => by have := h1.2 rfl; omega⟩, by omega, fun j hj => absurd hj (by simp)⟩
  | some a =>
    rcases Nat.eq_zero_or_pos n with h0 | h0
    · obtain ⟨_, _, hv, h1, h3, _⟩ := h
      simp at hv
      obtain ⟨rfl, _, rfl⟩ := hv
      have hL : L.drop m = [] := List.drop_eq_nil_of_le (by omega)
      rw [hL]
      exact ⟨_, cap - m, by rw [show n - m = 0 by omega]; rfl, ⟨by simp, fun h => by split at h <;> cases h⟩, by omega, fun j hj => absurd hj (by simp)⟩
    · obtain ⟨g, off, _, hc, _⟩ := h.at 0 h0
      simp at hc
      subst hc
      have := h.back m hm
      have ea : (⟨g, off, none⟩ : Addr).add m = ⟨g, off + m, none⟩ := by
        rcases Nat.eq_zero_or_pos m with rfl | h0
        · simp [Addr.add]
        · simp [Addr.add]; omega
      rw [Option.map_some, ea]
      exact this

/-- A cut 'x[a:b]': its value is kept a letter. -/
theorem SeesB.mid {w : World} {ao : Option Addr} {n cap : Nat} {L : List Nat} (h : SeesB w (.slice ao n cap) L) (a b : Nat) (i k : Int) (hi : i = a) (hk : k = b) (hab : a ≤ b) (hb : b ≤ n) :
    ∃ ao', Hid (SeesB w (.slice ao' (b - a) (cap - a)) ((L.take b).drop a)) ∧ ∀ u : World, (Instr.sliceAt 25 (.slice ao n cap) (some (.int .i64 i)) (some (.int .i64 k)) none).run Tryd.prog u = .ok (.slice ao' (b - a) (cap - a)) u := by
  subst hi hk
  have hT : SeesB w (.slice ao b cap) (L.take b) := by
    obtain ⟨ao1, cap1, hv, h1, h2, h3⟩ := h
    simp at hv
    obtain ⟨rfl, hlen, rfl⟩ := hv
    refine ⟨ao, cap, by rw [List.length_take]; congr 1; omega, ⟨by rw [List.length_take]; omega, h1.2⟩, h2, fun j hj => ?_⟩
    rw [List.length_take] at hj
    obtain ⟨g, off, ha, hg, hc, hb⟩ := h3 j (by omega)
    exact ⟨g, off, ha, hg, by rw [List.getElem_take]; exact hc, by rw [List.getElem_take]; exact hb⟩
  have hcap : n ≤ cap := by obtain ⟨_, _, hv, h1, _⟩ := h; simp at hv; obtain ⟨rfl, rfl, rfl⟩ := hv; exact h1.1
  refine ⟨_, hT.lowS a hab, fun u => ?_⟩
  have hu : Tryd.prog.underlying 25 = some (.slice (Tryd.prog.elem 25)) := by kernel_rfl
  have hsz : (sizeOf (Tryd.prog.elem 25)).run Tryd.prog u = .ok 1 u := by kernel_rfl
  rw [run_sliceAt_slice (h := hu), run_slice_lh (ht := hu) (h0 := by omega) (h1 := by omega) (h2 := by omega), hsz]
  simp [Result.andThen, sliced]

theorem size29' : (Tryd.prog.info? 29).map (·.size) = some 11 := by kernel_rfl
def Z29 : Array Value := #[.int .u8 0, .int .u16 0, .bool false, .bool false, .int .i64 0, .int .u8 0, .int .u8 0, .int .u32 0, .int .u32 0, .slice none 0 0, .slice none 0 0]

theorem byt_take {L : List Nat} {h i : Nat} (hi : i < h) : byt (L.take h) i = byt L i := by
  unfold byt; rw [List.getD_eq_getElem?_getD, List.getD_eq_getElem?_getD, List.getElem?_take_of_lt hi]

/-- What read's ends use: the zero packet's two blocks. -/
structure Ends (w : World) (zz : Array Value) (u : World) : Prop where
  ld : (Instr.loadAt 29 (.pointer (some ⟨w.heap.size + 1, 0, none⟩))).run Tryd.prog u = .ok (.agg zz) u
  th : u.there w.heap.size 0 zz.size
  lv : (loadVar 29 ⟨w.heap.size, 0, none⟩).run Tryd.prog (u.setCells w.heap.size 0 zz.toList) = .ok (.agg zz) (u.setCells w.heap.size 0 zz.toList)
  bf : Below w.heap.size w (u.setCells w.heap.size 0 zz.toList)

theorem below_sets {B b : Nat} {a : World} (hb : B ≤ b) : ∀ (vs : List Value) (o : Nat) (w : World), Below B a w → Below B a (w.setCells b o vs)
  | [], _, _, h => h
  | v :: vs, o, w, h => by
    rw [World.setCells]
    exact below_sets hb vs (o + 1) _ (h.setCell (p := ⟨b, o, none⟩) hb v)

theorem ends_any {w u : World} (hb : Below (w.heap.size + 2) ((w.alloc (.cells Z29 29)).alloc (.cells Z29 29)) u) : Ends w Z29 u := by
  have b0 : u.heap[w.heap.size]? = some (.cells Z29 29) := by
    have h1 : Below (w.heap.size + 1) (w.alloc (.cells Z29 29)) ((w.alloc (.cells Z29 29)).alloc (.cells Z29 29)) := (Below.refl _ _).alloc (by simp) _
    rw [hb.block w.heap.size (by omega), h1.block w.heap.size (by omega)]
    exact heap_alloc_new w _
  have b1 : u.heap[w.heap.size + 1]? = some (.cells Z29 29) := by
    rw [hb.block (w.heap.size + 1) (by omega)]
    have := heap_alloc_new (w.alloc (.cells Z29 29)) (.cells Z29 29)
    rw [World.size_alloc] at this
    exact this
  have hth : u.there w.heap.size 0 Z29.size := there_blk b0 rfl
  obtain ⟨fs, hu29⟩ := und29
  refine ⟨?_, hth, ?_, ?_⟩
  · refine run_loadAt_mid u (w.heap.size + 1) 0 29 Z29.toList (.struct fs) (fun j v hv => ?_) hu29 rfl (by rw [size29']; rfl)
    have hj : j < 11 := (List.getElem?_eq_some_iff.1 hv).1
    rw [Nat.zero_add, cell_of_row _ _ _ _ _ _ b1, ← hv, Array.getElem?_toList]
  · have hrg := World.rangeAt_setCells_same u w.heap.size 0 Z29.toList (by rw [Array.length_toList]; exact hth)
    exact run_loadVar_mid _ w.heap.size 0 29 Z29.toList (.struct fs) hrg hu29 rfl (by rw [size29']; rfl)
  · refine below_sets (Nat.le_refl _) _ _ _ ?_
    have h1 : Below w.heap.size w ((w.alloc (.cells Z29 29)).alloc (.cells Z29 29)) := ((Below.refl _ _).alloc (Nat.le_refl _) _).alloc (by simp) _
    exact h1.trans (hb.mono (by omega))
end Go.Proofs.YtcboenmmkaochaaDoor.N

namespace Go.Proofs.YtcboenmmkaochaaDoor.N
open Go.ChangeShapes Go.WideShapes Go.ChangeAt Go.RowKit
set_option maxHeartbeats 400000
set_option maxRecDepth 100000

theorem But.of_below {g : Nat} {w w' : World} (hb : Below w.heap.size w w') : But g w w' := ⟨hb.os, hb.tape, hb.output, hb.size, fun i hi _ => hb.block i hi⟩
theorem Blk.below {g : Nat} {w w' : World} {X : List Nat} (h : Blk w g X) (hb : Below w.heap.size w w') : Blk w' g X := (hb.block g h.lt).trans h

/-- A cut of a block of bytes. -/
theorem Blk.sees {g : Nat} {w : World} {X : List Nat} (h : Blk w g X) (hx : ∀ x ∈ X, x < 256) (o k c : Nat) (hk : o + k ≤ X.length) (hc : k ≤ c) (hcm : c ≤ maxLen) : SeesB w (.slice (some ⟨g, o, none⟩) k c) ((X.drop o).take k) := by
  have hl : ((X.drop o).take k).length = k := by rw [List.length_take, List.length_drop]; omega
  refine ⟨some ⟨g, o, none⟩, c, by rw [hl], ⟨by rw [hl]; exact hc, fun h => by cases h⟩, hcm, fun j hj => ?_⟩
  rw [hl] at hj
  have e : ((X.drop o).take k)[j]'(by rw [hl]; exact hj) = byt X (o + j) := by
    rw [List.getElem_take, List.getElem_drop]
    unfold byt
    rw [List.getD_eq_getElem?_getD, List.getElem?_eq_getElem (by omega)]
    rfl
  refine ⟨g, o, rfl, h.lt, ?_, ?_⟩
  · rw [h.cell (o + j) (by omega), e]
  · rw [e]; exact byt_lt hx _

theorem csum_gap (A B : List Nat) (hA : A.length % 2 = 0) : M.csum (A ++ 0 :: 0 :: B) = M.csum (A ++ B) := by
  unfold M.csum
  rw [M.tot_append, M.tot_append]
  have : M.par false A.length = false := by unfold M.par; rw [if_pos hA]
  rw [this]
  simp [M.tot]

set_option maxHeartbeats 2000000 in
/-- The sum is written into a header. -/
theorem seal_any (g size cap : Nat) (X : List Nat) (w : World) (hB : Blk w g X) (hx : ∀ x ∈ X, x < 256) (hs : 20 ≤ size) (hsz : size ≤ X.length) (hc : size ≤ cap) (hcap : cap ≤ 1099511627776) :
    Calls Tryd.prog 31 #[.slice (some ⟨g, 0, none⟩) size cap] w fun e w' => e = .returned (.tuple #[]) ∧ Blk w' g ((X.set 10 (M.csum (X.take 10 ++ (X.take size).drop 12) / 256)).set 11 (M.csum (X.take 10 ++ (X.take size).drop 12) % 256)) ∧ But g w w' := by
  have s1 : SeesB w.drew (.slice (some ⟨g, 0, none⟩) 10 cap) (X.take 10) := by
    have := (show Blk w.drew g X from hB).sees hx 0 10 cap (by omega) (by omega) (by unfold maxLen; omega)
    simpa using this
  have s2 : SeesB w.drew (.slice (some ⟨g, 12, none⟩) (size - 12) (cap - 12)) ((X.take size).drop 12) := by
    have := (show Blk w.drew g X from hB).sees hx 12 (size - 12) (cap - 12) (by omega) (by omega) (by unfold maxLen; omega)
    rwa [List.drop_take]
  obtain ⟨wA, hwA⟩ : ∃ wA, wA = w.drew.alloc (.cells #[.slice (some ⟨g, 0, none⟩) 10 cap, .slice (some ⟨g, 12, none⟩) (size - 12) (cap - 12)] 25) := ⟨_, rfl⟩
  have hbA : Below w.heap.size w wA := by rw [hwA]; exact (below_drew (Below.refl w.heap.size w)).alloc (Nat.le_refl _) _
  have HSM := sum_code _ _ _ (seesBB_two (w := w.drew) rfl _ _ _ _ s1 s2 25) (by simp; omega)
  rw [show [X.take 10, (X.take size).drop 12].flatten = X.take 10 ++ (X.take size).drop 12 by simp] at HSM
  have hlt := M.csum_lt (X.take 10 ++ (X.take size).drop 12)
  generalize M.csum (X.take 10 ++ (X.take size).drop 12) = s at *
  have HC : Hid (∀ u, Below w.heap.size w u → Calls Tryd.prog 44 #[.slice (some ⟨g, 10, none⟩) (size - 10) (cap - 10), .int .u16 (s : Int)] u fun e w' => e = .returned (.tuple #[]) ∧ Blk w' g ((X.set 10 (s / 256)).set (10 + 1) (s % 256)) ∧ But g u w') := fun u hu => write16_any g 10 (size - 10) (cap - 10) s X u (hB.below hu) (by omega) (by omega) hlt
  have HSM : Hid (Calls Tryd.prog 40 #[.slice (some ⟨w.heap.size, 0, none⟩) 2 2] (w.drew.alloc (.cells #[.slice (some ⟨g, 0, none⟩) 10 cap, .slice (some ⟨g, 12, none⟩) (size - 12) (cap - 12)] 25)) fun e w' => e = .returned (.int .u16 (s : Int)) ∧ Below w.heap.size w w') := by
    refine HSM.mono ?_
    rintro e w' ⟨rfl, hb⟩
    rw [← hwA] at hb
    exact ⟨rfl, hbA.trans (hb.mono hbA.size)⟩
  have k10 : ∀ u : World, (Instr.sliceAt 25 (.slice (some ⟨g, 0, none⟩) size cap) (some (.int .i64 10)) none none).run Tryd.prog u = .ok (.slice (some ⟨g, 10, none⟩) (size - 10) (cap - 10)) u := fun u => by
    have := cut_at g 0 size cap 10 10 rfl (by omega) (by omega) u
    rwa [Nat.zero_add] at this
  have k12 : ∀ u : World, (Instr.sliceAt 25 (.slice (some ⟨g, 0, none⟩) size cap) (some (.int .i64 12)) none none).run Tryd.prog u = .ok (.slice (some ⟨g, 12, none⟩) (size - 12) (cap - 12)) u := fun u => by
    have := cut_at g 0 size cap 12 12 rfl (by omega) (by omega) u
    rwa [Nat.zero_add] at this
  have hz : ∀ u : World, (Instr.sliceAt 25 (.slice (some ⟨g, 0, none⟩) size cap) none (some (.int .i64 10)) none).run Tryd.prog u = .ok (.slice (some ⟨g, 0, none⟩) 10 cap) u := fun u => by
    have hu : Tryd.prog.underlying 25 = some (.slice (Tryd.prog.elem 25)) := by kernel_rfl
    have hsz : (sizeOf (Tryd.prog.elem 25)).run Tryd.prog u = .ok 1 u := by kernel_rfl
    rw [run_sliceAt_slice (h := hu), run_slice_h (ht := hu) (h0 := by omega) (h2 := by omega), hsz]
    simp [Result.andThen, sliced, Addr.add]
  clear s1 s2 hB hwA hbA
  generalize size - 10 = z10 at *
  generalize size - 12 = z12 at *
  generalize cap - 10 = c10 at *
  generalize cap - 12 = c12 at *
  go_enter Tryd.func31, Tryd.ntmps31
  go_wp2_with fail
  go_region_with (first | (go_at_call 40; refine HSM.out.mono ?_; rintro _ w2 ⟨rfl, hb2⟩) | (go_at_call 44; refine (HC.out _ hb2).mono ?_; rintro _ w3 ⟨rfl, hB3, hu3⟩) | fail)
  all_goals (
    go_wp2_with fail
    exact bodyPost_end (results_none Tryd.results31 _ _ _) rfl ⟨rfl, hB3, (But.of_below hb2).trans hu3⟩)
end Go.Proofs.YtcboenmmkaochaaDoor.N

namespace Go.Proofs.YtcboenmmkaochaaDoor.N
open Go.ChangeShapes Go.WideShapes Go.ChangeAt Go.RowKit
set_option maxHeartbeats 1000000
set_option maxRecDepth 100000

theorem made_blk (u : World) (k : Nat) : Blk (u.alloc (.cells (madeCells #[.int .u8 0] k) 5)) u.heap.size (List.replicate k 0) := by
  unfold Blk
  rw [heap_alloc_new u _]
  have e : madeCells #[.int .u8 0] k = (bs (List.replicate k 0)).toArray := by
    rw [← Array.toArray_toList (xs := madeCells #[.int .u8 0] k), toList_madeCells_one]
    simp [bs]
  rw [e]

theorem bs_splice (X Y : List Nat) (o : Nat) : splice (bs X) o (bs Y) = bs (splice X o Y) := by
  unfold splice bs
  simp [List.map_take, List.map_drop]

theorem splice_head {A R Y : List Nat} {o : Nat} (ho : o = A.length) : splice (A ++ R) o Y = A ++ (Y ++ R.drop Y.length) := by
  subst ho
  unfold splice
  rw [List.take_left', List.drop_append]
  · simp
  · rfl

/-- A cut 'b[m:]' of a whole block: where nothing is left its place is not told. -/
theorem cut_end (g k m : Nat) (i : Int) (hi : i = m) (hm : m ≤ k) : ∃ ao, Hid (m < k → ao = some ⟨g, m, none⟩) ∧ ∀ u : World, (Instr.sliceAt 25 (.slice (some ⟨g, 0, none⟩) k k) (some (.int .i64 i)) none none).run Tryd.prog u = .ok (.slice ao (k - m) (k - m)) u := by
  subst hi
  refine ⟨if k = m then some ⟨g, 0, none⟩ else some ⟨g, m, none⟩, fun h => by rw [if_neg (by omega)], fun u => ?_⟩
  have hu : Tryd.prog.underlying 25 = some (.slice (Tryd.prog.elem 25)) := by kernel_rfl
  have hsz : (sizeOf (Tryd.prog.elem 25)).run Tryd.prog u = .ok 1 u := by kernel_rfl
  rw [run_sliceAt_slice (h := hu), run_slice_l (ht := hu) (h0 := by omega) (h1 := by omega), hsz]
  simp [Result.andThen, sliced, Addr.add_mid]

/-- Build, refused. -/
theorem build_bad (h : Hd) (vo vb : Value) (B : List Nat) (w : World) (hok : h.Ok) (hvo : SeesB w vo h.opts) (hvb : SeesB w vb B) (hlo : h.opts.length ≤ 140737488355328) (hlb : B.length ≤ 140737488355328) (he : refE h B.length ≠ 0) :
    Calls Tryd.prog 13 #[.agg (pkCells h vo vb)] w fun e w' => e = .returned (.tuple #[.slice none 0 0, .int .i64 (refE h B.length)]) ∧ Below w.heap.size w w' := by
  obtain ⟨w1, hw1⟩ : ∃ w1, w1 = w.alloc (.cells (pkCells h vo vb) 29) := ⟨_, rfl⟩
  have hb1 : Below w.heap.size w w1 := by rw [hw1]; exact (Below.refl _ _).alloc (Nat.le_refl _) _
  have hk1 : w1.heap[w.heap.size]? = some (.cells (pkCells h vo vb) 29) := by rw [hw1]; exact heap_alloc_new w _
  have HA := hid (area_code vo h.opts w1 (hvo.below hb1))
  have HP := hid (piece_code h.off B.length h.mf w1 hok.off (by omega))
  obtain ⟨ao, n, cap, rfl, HN, hn1, hn2⟩ := hvo.shape
  obtain ⟨ab, nb, capb, rfl, HNB, hnb1, hnb2⟩ := hvb.shape
  have hn47 : n ≤ 140737488355328 := by have := HN.out; omega
  have hnb47 : nb ≤ 140737488355328 := by have := HNB.out; omega
  have c3 : w1.cell? ⟨w.heap.size, 3, none⟩ = some (.bool h.mf) := pk_at hk1 3 (by omega)
  have c4 : w1.cell? ⟨w.heap.size, 4, none⟩ = some (.int .i64 h.off) := pk_at hk1 4 (by omega)
  have c9 : w1.cell? ⟨w.heap.size, 9, none⟩ = some (.slice ao n cap) := pk_at hk1 9 (by omega)
  have c10 : w1.cell? ⟨w.heap.size, 10, none⟩ = some (.slice ab nb capb) := pk_at hk1 10 (by omega)
  rw [← HNB.out] at HP
  have HW1 := hid hw1
  have HB1 := hid hb1
  obtain ⟨R, hR⟩ : ∃ R, R = refE h B.length := ⟨_, rfl⟩
  have HR : Hid (R = if M.area h.opts then (if M.pieceOk h.off nb h.mf then (if 20 + n + nb ≤ 65535 then 0 else 37) else 36) else 34) := by
    unfold Hid; rw [hR, HN.out, HNB.out]; rfl
  have HRN : Hid (R ≠ 0) := by unfold Hid; rw [hR]; exact he
  rw [← hR]
  clear hw1 hb1 hvo hvb hk1 hR he hlo hlb
  generalize M.area h.opts = ar at *
  generalize M.pieceOk h.off nb h.mf = pc at *
  generalize pkCells h (.slice ao n cap) (.slice ab nb capb) = pk at *
  cases ar
  · have HE : Hid (R = 34) := HR.out
    go_enter Tryd.func13, Tryd.ntmps13
    go_upto_region 1 with fail
    rw [← HW1.out]
    go_wp2_with fail
    refine HA.out.mono ?_
    rintro _ _ ⟨rfl, e⟩
    obtain rfl := e.symm
    go_wp2_with fail
    refine bodyPost_ret (results_tmp2 Tryd.results13 _ _ _) rfl ?_
    exact ⟨by rw [HE.out]; rfl, HB1.out⟩
  · cases pc
    · have HE : Hid (R = 36) := HR.out
      go_enter Tryd.func13, Tryd.ntmps13
      go_upto_region 1 with fail
      rw [← HW1.out]
      go_wp2_with fail
      refine HA.out.mono ?_
      rintro _ _ ⟨rfl, e⟩
      obtain rfl := e.symm
      go_wp2_with fail
      refine HP.out.mono ?_
      rintro _ _ ⟨rfl, e⟩
      obtain rfl := e.symm
      go_wp2_with fail
      refine bodyPost_ret (results_tmp2 Tryd.results13 _ _ _) rfl ?_
      exact ⟨by rw [HE.out]; rfl, HB1.out⟩
    · have hbig : 65535 < 20 + n + nb := by
        rcases Nat.lt_or_ge 65535 (20 + n + nb) with g | g
        · exact g
        · exfalso; apply HRN.out; rw [HR.out]; simp [g]
      have HE : Hid (R = 37) := by
        unfold Hid; rw [HR.out]; simp; omega
      go_enter Tryd.func13, Tryd.ntmps13
      go_upto_region 1 with fail
      rw [← HW1.out]
      go_wp2_with fail
      refine HA.out.mono ?_
      rintro _ _ ⟨rfl, e⟩
      obtain rfl := e.symm
      go_wp2_with fail
      refine HP.out.mono ?_
      rintro _ _ ⟨rfl, e⟩
      obtain rfl := e.symm
      go_wp2_with fail
      refine bodyPost_ret (results_tmp2 Tryd.results13 _ _ _) rfl ?_
      exact ⟨by rw [HE.out]; rfl, HB1.out⟩

theorem bytes_hd20 {h : Hd} (hok : h.Ok) {len f : Nat} (hl : len < 65536) (hf : h.off = (f : Int)) (hf1 : f ≤ 65528) (hol : h.opts.length ≤ 40) (ho : ∀ x ∈ h.opts, x < 256) : ∀ x ∈ hd20 h len 0, x < 256 := fun x hx =>
  hdBytes_ok hok ho hol hf hf1 hl (by omega : (0 : Nat) < 65536) x (by rw [hdBytes_eq]; exact List.mem_append_left _ hx)

theorem gap20 (h : Hd) (t : Nat) (T U : List Nat) : (hd20 h t 0 ++ T).take 10 ++ 0 :: 0 :: (hd20 h t 0 ++ U).drop 12 = hd20 h t 0 ++ U := by simp [hd20]

theorem set20 (h : Hd) (t s : Nat) (T : List Nat) : ((hd20 h t 0 ++ T).set 10 (s / 256)).set 11 (s % 256) = hd20 h t s ++ T := by simp [hd20]

theorem len20 (h : Hd) (t s : Nat) : (hd20 h t s).length = 20 := rfl

/-- What the sum is written into, and what comes of it. -/
theorem sealed (h : Hd) (B : List Nat) (t n : Nat) (hn : n = h.opts.length) (ht : t = lenOfPk h B) (he : refE h B.length = 0) :
    (((hd20 h t 0 ++ (h.opts ++ B)).set 10 (M.csum ((hd20 h t 0 ++ (h.opts ++ B)).take 10 ++ ((hd20 h t 0 ++ (h.opts ++ B)).take (20 + n)).drop 12) / 256)).set 11 (M.csum ((hd20 h t 0 ++ (h.opts ++ B)).take 10 ++ ((hd20 h t 0 ++ (h.opts ++ B)).take (20 + n)).drop 12) % 256)) = builtL h B := by
  have e1 : (hd20 h t 0 ++ (h.opts ++ B)).take (20 + n) = hd20 h t 0 ++ h.opts := by
    rw [← List.append_assoc, List.take_left' (by rw [List.length_append, len20, hn])]
  have e2 : M.csum ((hd20 h t 0 ++ (h.opts ++ B)).take 10 ++ (hd20 h t 0 ++ h.opts).drop 12) = M.csum (hdBytes h t 0) := by
    have := csum_gap ((hd20 h t 0 ++ (h.opts ++ B)).take 10) ((hd20 h t 0 ++ h.opts).drop 12) (by rw [List.length_take, List.length_append, len20, Nat.min_eq_left (by omega)])
    rw [gap20] at this
    rw [hdBytes_eq, this]
  rw [e1, e2, set20]
  unfold builtL
  rw [if_pos he, ← ht, hdBytes_eq h t (M.csum (hdBytes h t 0)), List.append_assoc]

set_option maxHeartbeats 1000000 in
/-- Build, done. -/
theorem build_good (h : Hd) (vo vb : Value) (B : List Nat) (w : World) (hok : h.Ok) (hvo : SeesB w vo h.opts) (hvb : SeesB w vb B) (he : refE h B.length = 0) :
    Calls Tryd.prog 13 #[.agg (pkCells h vo vb)] w fun e w' => ∃ ao n cap, e = .returned (.tuple #[.slice ao n cap, .int .i64 0]) ∧ SeesB w' (.slice ao n cap) (builtL h B) ∧ Below w.heap.size w w' := by
  obtain ⟨r1, r2, r3⟩ := refE_ok he
  obtain ⟨l1, l2⟩ := area_len r1
  obtain ⟨f, hf, hf1⟩ : ∃ f : Nat, h.off = (f : Int) ∧ f ≤ 65528 := by
    unfold M.pieceOk at r2
    simp at r2
    exact ⟨h.off.toNat, by omega, by omega⟩
  obtain ⟨w1, hw1⟩ : ∃ w1, w1 = w.alloc (.cells (pkCells h vo vb) 29) := ⟨_, rfl⟩
  have hb1 : Below w.heap.size w w1 := by rw [hw1]; exact (Below.refl _ _).alloc (Nat.le_refl _) _
  have hs1 : w1.heap.size = w.heap.size + 1 := by rw [hw1]; simp
  have HK : Hid (∀ u, Below w1.heap.size w1 u → u.heap[w.heap.size]? = some (.cells (pkCells h vo vb) 29)) := fun u hu => by
    rw [hu.block _ (by omega), hw1]; exact heap_alloc_new w _
  have hk1 := HK.out _ (Below.refl _ _)
  have HA0 := area_code vo h.opts w1 (hvo.below hb1)
  have HP0 := piece_code h.off B.length h.mf w1 hok.off (by omega)
  rw [r1] at HA0
  rw [r2] at HP0
  have HVO := hid hvo
  have HVB := hid hvb
  obtain ⟨ao, n, cap, rfl, HN, hn1, hn2⟩ := hvo.shape
  obtain ⟨ab, nb, capb, rfl, HNB, hnb1, hnb2⟩ := hvb.shape
  unfold maxLen at hn2 hnb2
  rw [← HNB.out] at HP0
  have HA := hid HA0
  have HP := hid HP0
  clear HA0 HP0
  have c3 : w1.cell? ⟨w.heap.size, 3, none⟩ = some (.bool h.mf) := pk_at hk1 3 (by omega)
  have c4 : w1.cell? ⟨w.heap.size, 4, none⟩ = some (.int .i64 h.off) := pk_at hk1 4 (by omega)
  have c9 : w1.cell? ⟨w.heap.size, 9, none⟩ = some (.slice ao n cap) := pk_at hk1 9 (by omega)
  have c10 : w1.cell? ⟨w.heap.size, 10, none⟩ = some (.slice ab nb capb) := pk_at hk1 10 (by omega)
  have hn40 : n ≤ 40 := by have := HN.out; omega
  have htot : 20 + n + nb ≤ 65535 := by have := HN.out; have := HNB.out; omega
  obtain ⟨tot, ht⟩ : ∃ tot, tot = 20 + n + nb := ⟨_, rfl⟩
  have hmk := make_bytes tot (by omega)
  obtain ⟨w2, hw2⟩ : ∃ w2, w2 = w1.alloc (.cells (madeCells #[.int .u8 0] tot) 5) := ⟨_, rfl⟩
  have hB2 : Blk w2 w1.heap.size (z20 ++ List.replicate (n + nb) 0) := by
    have := made_blk w1 tot
    rw [← hw2, ht, show 20 + n + nb = 20 + (n + nb) by omega, ← List.replicate_append_replicate] at this
    exact this
  have hb2 : Below w1.heap.size w1 w2 := by rw [hw2]; exact (Below.refl _ _).alloc (Nat.le_refl _) _
  have hbw2 : Below w.heap.size w w2 := hb1.trans (hb2.mono hb1.size)
  have HLAY := hid (layHead_any h (.slice ao n cap) w1.heap.size tot f (List.replicate (n + nb) 0) w2 hok hB2 (by rw [List.length_append, List.length_replicate, ht]; show 20 + _ = _; omega) (by omega) hf hf1 (HVO.out.below hbw2) l1 l2)
  have HL2 := hid (pk_loadH (HK.out _ hb2))
  obtain ⟨a20, HA20, k20⟩ := cut_end w1.heap.size tot 20 20 rfl (by omega)
  obtain ⟨aS, HAS, kS⟩ := cut_end w1.heap.size tot (20 + n) (20 + (n : Int)) (by omega) (by omega)
  have kH : ∀ u : World, (Instr.sliceAt 25 (.slice (some ⟨w1.heap.size, 0, none⟩) tot tot) none (some (.int .i64 (20 + (n : Int)))) none).run Tryd.prog u = .ok (.slice (some ⟨w1.heap.size, 0, none⟩) (20 + n) tot) u := fun u => by
    have hu : Tryd.prog.underlying 25 = some (.slice (Tryd.prog.elem 25)) := by kernel_rfl
    have hsz : (sizeOf (Tryd.prog.elem 25)).run Tryd.prog u = .ok 1 u := by kernel_rfl
    rw [run_sliceAt_slice (h := hu), run_slice_h (ht := hu) (h0 := by omega) (h2 := by omega), hsz]
    simp [Result.andThen, sliced, Addr.add]
    omega
  have HOB : Hid (∀ x ∈ h.opts, x < 256) := HVO.out.bytes
  have HBB : Hid (∀ x ∈ B, x < 256) := HVB.out.bytes
  have H20B := hid (bytes_hd20 hok (len := tot) (by omega) hf hf1 l1 HOB.out)
  have HSEAL : Hid (∀ u, Blk u w1.heap.size (hd20 h tot 0 ++ (h.opts ++ B)) → Calls Tryd.prog 31 #[.slice (some ⟨w1.heap.size, 0, none⟩) (20 + n) tot] u fun e w' => e = .returned (.tuple #[]) ∧ Hid (Blk w' w1.heap.size (builtL h B)) ∧ But w1.heap.size u w') := fun u hu => by
    have hlen : (hd20 h tot 0 ++ (h.opts ++ B)).length = tot := by
      rw [List.length_append, List.length_append, ht, HN.out, HNB.out]; show 20 + _ = _; omega
    have := seal_any w1.heap.size (20 + n) tot (hd20 h tot 0 ++ (h.opts ++ B)) u hu (fun x hx => by
      rcases List.mem_append.1 hx with hx | hx
      · exact H20B.out x hx
      · rcases List.mem_append.1 hx with hx | hx
        · exact HOB.out x hx
        · exact HBB.out x hx) (by omega) (by omega) (by omega) (by omega)
    refine this.mono ?_
    rintro e w' ⟨rfl, hB, hu'⟩
    refine ⟨rfl, ?_, hu'⟩
    rw [sealed h B tot n HN.out (by unfold lenOfPk; rw [ht, HN.out, HNB.out]) he] at hB
    exact hB
  have HEZ := hid he
  have HBX : Hid (∀ x ∈ builtL h B, x < 256) := by
    unfold Hid builtL
    rw [if_pos he]
    intro x hx
    rcases List.mem_append.1 hx with hx | hx
    · exact hdBytes_ok hok HOB.out l1 hf hf1 (by unfold lenOfPk; omega) (M.csum_lt _) x hx
    · exact HBB.out x hx
  have HW1 := hid hw1
  have HW2 := hid hw2
  have HB1 := hid hb1
  have HBW : Hid (∀ u, Below w1.heap.size w1 u → Below w.heap.size w u) := fun u hu => HB1.out.trans (hu.mono HB1.out.size)
  have HCC : Hid (∀ u, Below w1.heap.size w1 u → u.cell? ⟨w.heap.size, 9, none⟩ = some (.slice ao n cap) ∧ u.cell? ⟨w.heap.size, 10, none⟩ = some (.slice ab nb capb)) := fun u hu => ⟨pk_at (HK.out u hu) 9 (by omega), pk_at (HK.out u hu) 10 (by omega)⟩
  have HTT := hid ht
  have hS20 : (20 : Int) + (n : Int) ≤ (tot : Int) := by omega
  have htot' : tot ≤ 65535 := by omega
  have htn : 20 + n ≤ tot := by omega
  have HET : Hid ((20 : Int) + (n : Int) + (nb : Int) = (tot : Int)) := by unfold Hid; omega
  have HB2 := hid hb2
  clear hw1 hw2 hvo hvb hk1 hb1 hbw2 r1 r2 r3 he hf ht hs1
  generalize pkCells h (.slice ao n cap) (.slice ab nb capb) = pk at *
  generalize hdCells h (.slice ao n cap) = hc at *
  go_enter Tryd.func13, Tryd.ntmps13
  go_upto_region 1 with fail
  rw [← HW1.out]
  go_wp2_with fail
  refine HA.out.mono ?_
  rintro _ _ ⟨rfl, e⟩
  obtain rfl := e.symm
  go_wp2_with fail
  refine HP.out.mono ?_
  rintro _ _ ⟨rfl, e⟩
  obtain rfl := e.symm
  go_upto_region 9 with fail
  simp only [HET.out]
  go_upto_region 10 with fail
  rw [← HW2.out]
  go_wp2_with (first | (refine wpList_ld 27 ⟨w.heap.size, 0, none⟩ (.tmp 41) rfl rfl HL2.out rfl ?_) | fail)
  refine HLAY.out.mono ?_
  rintro _ w3 ⟨rfl, hB3, hu3⟩
  have hb3 : Below w1.heap.size w1 w3 := hu3.below HB2.out HB2.out.size (Nat.le_refl _)
  obtain ⟨d9, d10⟩ := HCC.out _ hb3
  have HG3 : Hid (w3.heap[w1.heap.size]? = some (.cells (bs (hd20 h tot 0 ++ List.replicate (n + nb) 0)).toArray 5 (0, 0))) := hB3
  obtain ⟨X3, hX3⟩ : ∃ X3, X3 = bs (hd20 h tot 0 ++ List.replicate (n + nb) 0) := ⟨_, rfl⟩
  obtain ⟨O3, hO3⟩ : ∃ O3, O3 = bs h.opts := ⟨_, rfl⟩
  have HO3 := hid hO3
  have HX3 := hid hX3
  have HLO : Hid (O3.length = n) := by unfold Hid; rw [hO3, bs, List.length_map, HN.out]
  have HLX : Hid (X3.length = tot) := by unfold Hid; rw [hX3, bs, List.length_map, List.length_append, len20, List.length_replicate]; have := HTT.out; omega
  rw [← hX3] at HG3
  clear hX3 hO3 HLAY HA HP c3 c4 c9 c10 hu3 hB3 hmk HL2 HW2
  have HMN : Hid (O3.length = Nat.min n (tot - 20)) := by unfold Hid; rw [HLO.out]; have := HTT.out; show n = min n (tot - 20); omega
  have HPS : Hid (0 < O3.length → a20 = some ⟨w1.heap.size, 20, none⟩ ∧ ∃ ad, ao = some ad ∧ ∀ j v, O3[j]? = some v → w3.drew.cell? (ad.add j) = some v) := fun hp => by
    refine ⟨HA20.out (by have := HLO.out; have := HTT.out; omega), ?_⟩
    rw [HO3.out] at hp ⊢
    exact (HVO.out.below (HBW.out _ (below_drew hb3))).src hp
  have HFT : Hid (20 + O3.length ≤ X3.length) := by unfold Hid; rw [HLO.out, HLX.out]; have := HTT.out; omega
  have HO1 : Hid (∀ v ∈ O3, v.oneCell' = true) := fun v hv => by
    rw [HO3.out] at hv
    obtain ⟨y, _, rfl⟩ := List.mem_map.1 hv
    rfl
  have HBD3 := hid (below_drew hb3)
  go_upto_region 11 with fail
  go_cut [] from 44 (fun wx => Hid (wx.heap[w1.heap.size]? = some (.cells (splice X3 20 O3).toArray 5 (0, 0))) ∧ Below w1.heap.size w1 wx)
  case first =>
    go_region_law (first
      | (refine step_copy_splice rfl (.tmp 45) (.tmp 48) 25 25 rfl 5 Tryd.underlying25 size5 a20 ao (tot - 20) (tot - 20) n cap rfl rfl w1.heap.size 20 X3 5 HG3.out O3 HMN.out HPS.out HFT.out HO1.out w1.heap.size w1 HBD3.out (Nat.le_refl _) ?_; intro w4 hg4 hb4)
      | fail)
    all_goals (
      go_wp2_with fail
      go_meet
      case rel => exact ⟨hg4, hb4⟩)
  case rest =>
  obtain ⟨HG4, hb4⟩ := hcut
  obtain ⟨w4, hw4⟩ : ∃ w4, w4 = wc := ⟨_, rfl⟩
  rw [← hw4] at HG4 hb4 ⊢
  clear hw4 d9 d10 HMN HPS HFT HO1 HBD3 hb3 HG3 k20
  obtain ⟨e9, e10⟩ := HCC.out _ hb4
  obtain ⟨X4, hX4⟩ : ∃ X4, X4 = splice X3 20 O3 := ⟨_, rfl⟩
  obtain ⟨O4, hO4⟩ : ∃ O4, O4 = bs B := ⟨_, rfl⟩
  rw [← hX4] at HG4
  have HX4 := hid hX4
  have HO4 := hid hO4
  have HLO4 : Hid (O4.length = nb) := by unfold Hid; rw [hO4, bs, List.length_map, HNB.out]
  have HLX4 : Hid (X4.length = tot) := by unfold Hid; rw [hX4, length_splice _ _ _ (by rw [HLO.out, HLX.out]; have := HTT.out; omega), HLX.out]
  have HMN : Hid (O4.length = Nat.min nb (tot - (20 + n))) := by unfold Hid; rw [HLO4.out]; have := HTT.out; show nb = min nb (tot - (20 + n)); omega
  have HPS : Hid (0 < O4.length → aS = some ⟨w1.heap.size, 20 + n, none⟩ ∧ ∃ ad, ab = some ad ∧ ∀ j v, O4[j]? = some v → w4.drew.cell? (ad.add j) = some v) := fun hp => by
    refine ⟨HAS.out (by have := HLO4.out; have := HTT.out; omega), ?_⟩
    rw [HO4.out] at hp ⊢
    exact (HVB.out.below (HBW.out _ (below_drew hb4))).src hp
  have HFT : Hid (20 + n + O4.length ≤ X4.length) := by unfold Hid; rw [HLO4.out, HLX4.out]; have := HTT.out; omega
  have HO1 : Hid (∀ v ∈ O4, v.oneCell' = true) := fun v hv => by
    rw [HO4.out] at hv
    obtain ⟨y, _, rfl⟩ := List.mem_map.1 hv
    rfl
  have HBD4 := hid (below_drew hb4)
  clear hX4 hO4
  go_upto_region 12 with fail
  go_cut [] from 50 (fun wx => Hid (wx.heap[w1.heap.size]? = some (.cells (splice X4 (20 + n) O4).toArray 5 (0, 0))) ∧ Below w1.heap.size w1 wx)
  case first =>
    go_region_law (first
      | (refine step_copy_splice rfl (.tmp 52) (.tmp 54) 25 25 rfl 5 Tryd.underlying25 size5 aS ab (tot - (20 + n)) (tot - (20 + n)) nb capb rfl rfl w1.heap.size (20 + n) X4 5 HG4.out O4 HMN.out HPS.out HFT.out HO1.out w1.heap.size w1 HBD4.out (Nat.le_refl _) ?_; intro w5 hg5 hb5)
      | fail)
    all_goals (
      go_wp2_with fail
      go_meet
      case rel => exact ⟨hg5, hb5⟩)
  case rest =>
  obtain ⟨HG5, hb5⟩ := hcut
  obtain ⟨w5, hw5⟩ : ∃ w5, w5 = wc := ⟨_, rfl⟩
  rw [← hw5] at HG5 hb5 ⊢
  clear hw5 e9 e10 HMN HPS HFT HO1 HBD4 HG4 kS
  have hB5 : Blk w5 w1.heap.size (hd20 h tot 0 ++ (h.opts ++ B)) := by
    have e1 : splice X3 20 O3 = bs (hd20 h tot 0 ++ (h.opts ++ List.replicate nb 0)) := by
      rw [HX3.out, HO3.out, bs_splice, splice_head (len20 _ _ _).symm, List.drop_replicate, ← HN.out, show n + nb - n = nb by omega]
    have e2 : splice X4 (20 + n) O4 = bs (hd20 h tot 0 ++ (h.opts ++ B)) := by
      rw [HX4.out, e1, HO4.out, bs_splice, ← List.append_assoc, splice_head (by rw [List.length_append, len20, HN.out]), List.drop_replicate, ← HNB.out, Nat.sub_self]
      simp
    have := HG5.out
    rw [e2] at this
    exact this
  have HSL := hid (HSEAL.out _ hB5)
  clear hB5 HSEAL HG5
  go_wp2_with fail
  refine HSL.out.mono ?_
  rintro _ w6 ⟨rfl, hB6, hu6⟩
  have hb6 : Below w1.heap.size w1 w6 := hu6.below hb5 hb5.size (Nat.le_refl _)
  go_wp2_with fail
  refine bodyPost_ret (results_tmp2 Tryd.results13 _ _ _) rfl ?_
  refine ⟨some ⟨w1.heap.size, 0, none⟩, tot, tot, rfl, ?_, HBW.out _ hb6⟩
  have hlen : (builtL h B).length = tot := by
    have := HTT.out
    have e : (bs (builtL h B)).length = tot := by
      unfold builtL
      rw [if_pos HEZ.out, bs, List.length_map, List.length_append, hdBytes_len, this, HN.out, HNB.out]
    simpa [bs] using e
  have hx : ∀ x ∈ builtL h B, x < 256 := HBX.out
  have := hB6.out.sees hx 0 tot tot (by omega) (Nat.le_refl _) (by unfold maxLen; omega)
  rwa [List.drop_zero, List.take_of_length_le (by omega)] at this
end Go.Proofs.YtcboenmmkaochaaDoor.N

namespace Go.Proofs.YtcboenmmkaochaaDoor.N
open Go.ChangeShapes Go.WideShapes Go.ChangeAt Go.RowKit
set_option maxHeartbeats 400000
set_option maxRecDepth 100000

theorem same_any (v v' : Value) (A B : List Nat) (w : World) (hv : SeesB w v A) (hv' : SeesB w v' B) :
    Calls Tryd.prog 25 #[v, v'] w fun e w' => e = .returned (.bool (decide (A = B))) ∧ Below w.heap.size w w' := by
  obtain ⟨ao, n, cap, rfl, HN, hn1, hn2⟩ := hv.shape
  obtain ⟨ao', n', cap', rfl, HN', hn1', hn2'⟩ := hv'.shape
  unfold maxLen at hn2 hn2'
  obtain ⟨R, hR⟩ : ∃ R, R = decide (A = B) := ⟨_, rfl⟩
  have HR := hid hR
  rw [← hR]
  have HV := hid hv
  have HV' := hid hv'
  clear hR hv hv'
  by_cases hl : n = n'
  · subst hl
    have hq : ((n : Int) != (n : Int)) = false := by simp
    go_enter Tryd.func25, Tryd.ntmps25
    go_wp2_with fail
    go_loopw [5] (fun i wv => ∃ (k : Nat) (wr : World), i = .int .i64 (k : Int) ∧ k ≤ n ∧ Hid (A.take k = B.take k) ∧ wr = wv ∧ Below w.heap.size w wr) (fun i _ => n - (intOf i).toNat)
    case atStart => exact ⟨0, _, rfl, by omega, rfl, rfl, Below.refl _ _⟩
    case round =>
      obtain ⟨k, wr, rfl, hk, HK, rfl, hb⟩ := hrel
      by_cases hlt : k < n
      · obtain ⟨g, off, x, rfl, hg, hc, hx, HX⟩ := (HV.out.below hb).at k hlt
        obtain ⟨g', off', y, rfl, hg', hc', hy, HY⟩ := (HV'.out.below hb).at k hlt
        have b0 : (k : Int) < (n : Int) := by omega
        have b1 : (0 : Int) ≤ (k : Int) := by omega
        by_cases hxy : x = y
        · have hq2 : ((x : Int) != (y : Int)) = false := by simp [hxy]
          have HK2 : Hid (A.take (k + 1) = B.take (k + 1)) := by unfold Hid; rw [take_snoc HX.out, take_snoc HY.out, HK.out, hxy]
          clear hxy
          go_wp2_with fail
          go_quiet (fail)
          go_wp2_with fail
          go_roundw
          case rel => exact ⟨k + 1, _, by go_num, by omega, HK2, rfl, below_drewN hb _⟩
          case measure => simp [intOf]; omega
        · have hq2 : ((x : Int) != (y : Int)) = true := by simp; omega
          have HE : Hid (R = false) := by
            unfold Hid; rw [HR.out]; refine decide_eq_false (fun h => hxy ?_)
            have h1 := HX.out
            rw [h, HY.out] at h1
            simpa using h1.symm
          clear hxy
          go_wp2_with fail
          go_quiet (fail)
          go_wp2_with fail
          go_ret
          exact ⟨ret_bool (by rw [HE.out]), below_drewN hb _⟩
      · have HE : Hid (R = true) := by
          unfold Hid; rw [HR.out]; refine decide_eq_true ?_
          have h := HK.out
          rw [List.take_of_length_le (by have := HN.out; omega), List.take_of_length_le (by have := HN'.out; omega)] at h
          exact h
        go_wp2_with fail
        go_ret
        exact ⟨ret_bool (by rw [HE.out]), hb⟩
  · have hq : ((n : Int) != (n' : Int)) = true := by simp; omega
    have HE : Hid (R = false) := by
      unfold Hid; rw [HR.out]; refine decide_eq_false (fun h => hl ?_)
      rw [HN.out, HN'.out, h]
    clear hl
    go_enter Tryd.func25, Tryd.ntmps25
    go_wp2_with fail
    go_ret
    exact ⟨ret_bool (by rw [HE.out]), Below.refl _ _⟩
end Go.Proofs.YtcboenmmkaochaaDoor.N

namespace Go.Proofs.YtcboenmmkaochaaDoor.N.Im
open M

/-- A control message. -/
structure Ct where
  t : Nat
  c : Nat
  r : Nat
  B : List Nat

structure Ct.Ok (m : Ct) : Prop where
  t : m.t < 256
  c : m.c < 256
  r : m.r < 4294967296

/-- What lies behind the sum's field. -/
def tail (m : Ct) : List Nat := m.r / 65536 / 256 :: m.r / 65536 % 256 :: m.r % 65536 / 256 :: m.r % 65536 % 256 :: m.B

/-- A message with that in its sum's place. -/
def msg (m : Ct) (s : Nat) : List Nat := m.t :: m.c :: s / 256 :: s % 256 :: tail m

/-- A message with its sum. -/
def laid (m : Ct) : List Nat := msg m (csum (msg m 0))

theorem msg_len (m : Ct) (s : Nat) : (msg m s).length = 8 + m.B.length := by simp [msg, tail]; omega
theorem laid_len (m : Ct) : (laid m).length = 8 + m.B.length := msg_len _ _

theorem tot_msg (m : Ct) (s : Nat) : tot false (msg m s) = tot false (msg m 0) + s := by
  simp only [msg, tot]; simp; omega

theorem csum_laid (m : Ct) : csum (laid m) = 0 := by
  unfold laid
  generalize hT : csum (msg m 0) = s
  unfold csum at hT ⊢
  rw [tot_msg]
  generalize tot false (msg m 0) = T at *
  subst hT
  unfold fold
  by_cases h0 : T = 0
  · subst h0; simp
  · rw [if_neg h0, if_neg (by omega)]
    omega

theorem msg_bytes {m : Ct} (h : m.Ok) (hb : ∀ x ∈ m.B, x < 256) {s : Nat} (hs : s < 65536) : ∀ x ∈ msg m s, x < 256 := by
  obtain ⟨h1, h2, h3⟩ := h
  intro x hx
  simp only [msg, tail, List.mem_cons] at hx
  rcases hx with rfl | rfl | rfl | rfl | rfl | rfl | rfl | rfl | hx
  · exact h1
  · exact h2
  · omega
  · omega
  · omega
  · omega
  · omega
  · omega
  · exact hb x hx

theorem laid_bytes {m : Ct} (h : m.Ok) (hb : ∀ x ∈ m.B, x < 256) : ∀ x ∈ laid m, x < 256 := msg_bytes h hb (csum_lt _)

/-- The error of reading. -/
def prE (L : List Nat) : Int := if L.length < 8 then 30 else if 65515 < L.length then 37 else if csum L = 0 then 0 else 33

def at0 (L : List Nat) (i : Nat) : Nat := L.getD i 0

def rest4 (L : List Nat) : Nat := (at0 L 4 * 256 + at0 L 5) * 65536 + (at0 L 6 * 256 + at0 L 7)

def none0 : Ct := ⟨0, 0, 0, []⟩

/-- What is read. -/
def prC (L : List Nat) : Ct := if prE L = 0 then ⟨at0 L 0, at0 L 1, rest4 L, L.drop 8⟩ else none0

theorem at0_lt {L : List Nat} (h : ∀ x ∈ L, x < 256) (i : Nat) : at0 L i < 256 := by
  unfold at0
  rw [List.getD_eq_getElem?_getD]
  cases e : L[i]? with
  | none => simp
  | some x => exact h x (List.mem_of_getElem? e)

theorem rest4_lt {L : List Nat} (h : ∀ x ∈ L, x < 256) : rest4 L < 4294967296 := by
  have h4 := at0_lt h 4
  have h5 := at0_lt h 5
  have h6 := at0_lt h 6
  have h7 := at0_lt h 7
  unfold rest4; omega

theorem none_ok : none0.Ok := ⟨by decide, by decide, by decide⟩

theorem prC_ok {L : List Nat} (h : ∀ x ∈ L, x < 256) : (prC L).Ok := by
  unfold prC
  split
  · exact ⟨at0_lt h 0, at0_lt h 1, rest4_lt h⟩
  · exact none_ok

theorem prC_bytes {L : List Nat} (h : ∀ x ∈ L, x < 256) : ∀ x ∈ (prC L).B, x < 256 := by
  unfold prC
  split
  · intro x hx; exact h x (List.mem_of_mem_drop hx)
  · intro x hx; cases hx

theorem prC_len (L : List Nat) : (prC L).B.length ≤ 65507 := by
  unfold prC
  split
  · rename_i h
    unfold prE at h
    split at h
    · cases h
    · split at h
      · cases h
      · show (L.drop 8).length ≤ 65507
        rw [List.length_drop]; omega
  · simp [none0]

theorem prE_cases (L : List Nat) : prE L = 0 ∨ prE L = 30 ∨ prE L = 37 ∨ prE L = 33 := by
  unfold prE
  split
  · simp
  · split
    · simp
    · split <;> simp

/-- What was laid is read back. -/
theorem prE_laid (m : Ct) (hl : m.B.length ≤ 65507) : prE (laid m) = 0 := by
  unfold prE
  rw [laid_len, if_neg (by omega), if_neg (by omega), if_pos (csum_laid m)]

theorem prC_laid (m : Ct) (h : m.Ok) (hl : m.B.length ≤ 65507) : prC (laid m) = m := by
  obtain ⟨h1, h2, h3⟩ := h
  unfold prC
  rw [if_pos (prE_laid m hl)]
  obtain ⟨t, c, r, B⟩ := m
  simp only at h3
  simp only [laid, msg, tail, at0, rest4, List.getD_cons_zero, List.getD_cons_succ, List.drop_succ_cons, List.drop_zero]
  congr 1
  omega

/-- What is built. -/
def bdE (m : Ct) : Int := if 65507 < m.B.length then 37 else 0
def bdL (m : Ct) : List Nat := if 65507 < m.B.length then [] else laid m

theorem tot_set (L : List Nat) : ∀ (o : Bool) (i y : Nat), i < L.length → ∃ wt, (wt = 1 ∨ wt = 256) ∧ tot o (L.set i y) + wt * L.getD i 0 = tot o L + wt * y := by
  induction L with
  | nil => intro o i y h; simp at h
  | cons x L ih =>
    intro o i y h
    cases i with
    | zero =>
      cases o
      · exact ⟨256, .inr rfl, by simp only [List.set_cons_zero, tot, List.getD_cons_zero]; simp; omega⟩
      · exact ⟨1, .inl rfl, by simp only [List.set_cons_zero, tot, List.getD_cons_zero]; simp; omega⟩
    | succ i =>
      obtain ⟨wt, h1, h2⟩ := ih (!o) i y (by simpa using h)
      refine ⟨wt, h1, ?_⟩
      simp only [List.set_cons_succ, tot, List.getD_cons_succ]
      omega

theorem csum_zero {L : List Nat} (h : csum L = 0) : tot false L ≠ 0 ∧ tot false L % 65535 = 0 := by
  unfold csum fold at h
  split at h
  · omega
  · omega

/-- One bit. -/
def IsBit (m : Nat) : Prop := m = 1 ∨ m = 2 ∨ m = 4 ∨ m = 8 ∨ m = 16 ∨ m = 32 ∨ m = 64 ∨ m = 128

theorem csum_flip {L : List Nat} {i x y m : Nat} (hi : i < L.length) (hx : L.getD i 0 = x) (hm : IsBit m) (hxy : y = x + m ∨ x = y + m) (h0 : csum L = 0) : csum (L.set i y) ≠ 0 := by
  intro h1
  obtain ⟨a1, a2⟩ := csum_zero h0
  obtain ⟨b1, b2⟩ := csum_zero h1
  obtain ⟨wt, hw, e⟩ := tot_set L false i y hi
  rw [hx] at e
  generalize tot false (L.set i y) = T' at *
  generalize tot false L = T at *
  unfold IsBit at hm
  rcases hw with rfl | rfl <;> rcases hm with rfl | rfl | rfl | rfl | rfl | rfl | rfl | rfl <;> omega

/-- What was read is a message. -/
theorem msg_read {L : List Nat} (hb : ∀ x ∈ L, x < 256) (h : prE L = 0) : L = msg (prC L) (at0 L 2 * 256 + at0 L 3) ∧ at0 L 2 * 256 + at0 L 3 < 65536 := by
  have h2 := at0_lt hb 2
  have h3 := at0_lt hb 3
  refine ⟨?_, by omega⟩
  unfold prC
  rw [if_pos h]
  have hl : 8 ≤ L.length := by
    unfold prE at h
    split at h
    · cases h
    · omega
  match L, hl with
  | a :: b :: c :: d :: e :: f :: g :: k :: B, _ =>
    have q : ∀ x ∈ [a, b, c, d, e, f, g, k], x < 256 := fun x hx => hb x (by simp only [List.mem_cons, List.not_mem_nil, or_false] at hx ⊢; rcases hx with h | h | h | h | h | h | h | h <;> simp [h])
    simp only [List.mem_cons, List.not_mem_nil, or_false, forall_eq_or_imp, forall_eq] at q
    obtain ⟨qa, qb, qc, qd, qe, qf, qg, qk⟩ := q
    simp only [msg, tail, at0, rest4, List.getD_cons_zero, List.getD_cons_succ, List.drop_succ_cons, List.drop_zero]
    congr 1; congr 1
    congr 1
    · omega
    · congr 1
      · omega
      · congr 1
        · omega
        · congr 1
          · omega
          · congr 1
            · omega
            · congr 1
              omega

/-- The sum of what was read, laid anew. -/
theorem sum_read {L : List Nat} (hb : ∀ x ∈ L, x < 256) (h : prE L = 0) :
    at0 L 2 * 256 + at0 L 3 = csum (msg (prC L) 0) ∨ (at0 L 2 * 256 + at0 L 3 = 65535 ∧ csum (msg (prC L) 0) = 0) := by
  obtain ⟨e, hs⟩ := msg_read hb h
  have h0 : csum L = 0 := by
    unfold prE at h
    split at h
    · cases h
    · split at h
      · cases h
      · split at h
        · assumption
        · cases h
  obtain ⟨a1, a2⟩ := csum_zero h0
  rw [e, tot_msg] at a1 a2
  generalize at0 L 2 * 256 + at0 L 3 = s at *
  unfold csum fold
  generalize tot false (msg (prC L) 0) = T at *
  split <;> omega
end Go.Proofs.YtcboenmmkaochaaDoor.N.Im

namespace Go.Proofs.YtcboenmmkaochaaDoor.N
open Go.ChangeShapes Go.WideShapes Go.ChangeAt Go.RowKit
set_option maxHeartbeats 1000000
set_option maxRecDepth 100000

theorem iwrite16_any (g off n cap x : Nat) (X : List Nat) (w : World) (hB : Blk w g X) (hn : 2 ≤ n) (ho : off + n ≤ X.length) (hx : x < 65536) :
    Calls Tryd.prog 49 #[.slice (some ⟨g, off, none⟩) n cap, .int .u16 (x : Int)] w fun e w' => e = .returned (.tuple #[]) ∧ Blk w' g ((X.set off (x / 256)).set (off + 1) (x % 256)) ∧ But g w w' := by
  have c0 := hB.cell off (by omega)
  have c1 := hB.cell (off + 1) (by omega)
  have f0 := hB.free off
  have f1 := hB.free (off + 1)
  have HR : Hid (Blk ((w.setCell ⟨g, off, none⟩ (.int .u8 ((x / 256 : Nat) : Int))).setCell ⟨g, off + 1, none⟩ (.int .u8 ((x % 256 : Nat) : Int))) g ((X.set off (x / 256)).set (off + 1) (x % 256)) ∧ But g w ((w.setCell ⟨g, off, none⟩ (.int .u8 ((x / 256 : Nat) : Int))).setCell ⟨g, off + 1, none⟩ (.int .u8 ((x % 256 : Nat) : Int)))) := ⟨(hB.set _ _).set _ _, (But.set _ _ _ _).trans (But.set _ _ _ _)⟩
  generalize byt X off = y0 at c0
  generalize byt X (off + 1) = y1 at c1
  have hne : ¬ off + 1 = off := by omega
  have hne' : ¬ off = off + 1 := by omega
  clear hB
  go_enter Tryd.func49, Tryd.ntmps49
  go_wp2_with fail
  have e0 : ((x / 256 : Nat) : Int) = (x : Int) / 256 := by omega
  have e1 : ((x % 256 : Nat) : Int) = (x : Int) % 256 := by omega
  rw [e0, e1] at HR
  exact bodyPost_end (results_none Tryd.results49 _ _ _) rfl ⟨rfl, HR.out.1, HR.out.2⟩

theorem iwrite32_any (g off n cap x : Nat) (X : List Nat) (w : World) (hB : Blk w g X) (hn : 4 ≤ n) (hc : n ≤ cap) (ho : off + n ≤ X.length) (hx : x < 4294967296) :
    Calls Tryd.prog 48 #[.slice (some ⟨g, off, none⟩) n cap, .int .u32 (x : Int)] w fun e w' => e = .returned (.tuple #[]) ∧ Blk w' g ((((X.set off (x / 65536 / 256)).set (off + 1) (x / 65536 % 256)).set (off + 2) (x % 65536 / 256)).set (off + 3) (x % 65536 % 256)) ∧ But g w w' := by
  have H1 := hid (iwrite16_any g off n cap (x / 65536) X w hB (by omega) ho (by omega))
  have H2 : Hid (∀ (Y : List Nat) (u : World), Blk u g Y → Y.length = X.length → Calls Tryd.prog 49 #[.slice (some ⟨g, off + 2, none⟩) (n - 2) (cap - 2), .int .u16 ((x % 65536 : Nat) : Int)] u fun e w' => e = .returned (.tuple #[]) ∧ Blk w' g ((Y.set (off + 2) (x % 65536 / 256)).set (off + 2 + 1) (x % 65536 % 256)) ∧ But g u w') := fun Y u hY hl => iwrite16_any g (off + 2) (n - 2) (cap - 2) (x % 65536) Y u hY (by omega) (by omega) (by omega)
  have hcut := cut_at g off n cap 2 2 rfl (by omega) (by omega)
  have e0 : ((x / 65536 : Nat) : Int) = (x : Int) / 65536 := by omega
  have e1 : ((x % 65536 : Nat) : Int) = (x : Int) % 65536 := by omega
  rw [e0] at H1
  rw [e1] at H2
  clear hB
  go_enter Tryd.func48, Tryd.ntmps48
  go_wp2_with fail
  refine H1.out.mono ?_
  rintro _ w2 ⟨rfl, hb2, hu2⟩
  go_wp2_with fail
  refine (H2.out _ _ hb2 (by simp)).mono ?_
  rintro _ w3 ⟨rfl, hb3, hu3⟩
  go_wp2_with fail
  exact bodyPost_end (results_none Tryd.results48 _ _ _) rfl ⟨rfl, hb3, hu2.trans hu3⟩

theorem or_u32k (k x y : Nat) (hx : 2 ^ k * x + y < 4294967296) (hy : y < 2 ^ k) : bits .or .u32 ((2 ^ k * x : Nat) : Int) (y : Int) = ((2 ^ k * x + y : Nat) : Int) := by
  rw [u32_or_nat (2 ^ k * x) y (by omega) (by omega)]
  congr 1
  exact (Nat.two_pow_add_eq_or_of_lt (i := k) (b := y) hy x).symm

theorem or4 (a b c d : Nat) (ha : a < 256) (hb : b < 256) (hc : c < 256) (hd : d < 256) :
    bits .or .u32 (bits .or .u32 (bits .or .u32 ((a * 16777216 : Nat) : Int) ((b * 65536 : Nat) : Int)) ((c * 256 : Nat) : Int)) (d : Int) = (((a * 256 + b) * 65536 + (c * 256 + d) : Nat) : Int) := by
  have h1 := or_u32k 24 a (b * 65536) (by omega) (by omega)
  rw [show 2 ^ 24 * a = a * 16777216 by omega] at h1
  rw [h1]
  have h2 := or_u32k 16 (a * 256 + b) (c * 256) (by omega) (by omega)
  rw [show 2 ^ 16 * (a * 256 + b) = a * 16777216 + b * 65536 by omega] at h2
  rw [h2]
  have h3 := or_u32k 8 (a * 65536 + b * 256 + c) d (by omega) (by omega)
  rw [show 2 ^ 8 * (a * 65536 + b * 256 + c) = a * 16777216 + b * 65536 + c * 256 by omega] at h3
  rw [h3]
  exact congrArg Nat.cast (show a * 16777216 + b * 65536 + c * 256 + d = (a * 256 + b) * 65536 + (c * 256 + d) by omega)

theorem iread32_any (v : Value) (L : List Nat) (w : World) (hv : SeesB w v L) (hl : 4 ≤ L.length) :
    Calls Tryd.prog 41 #[v] w fun e w' => e = .returned (.int .u32 (((byt L 0 * 256 + byt L 1) * 65536 + (byt L 2 * 256 + byt L 3) : Nat) : Int)) ∧ Below w.heap.size w w' := by
  obtain ⟨ao, n, cap, rfl, HN, hn1, hn2⟩ := hv.shape
  have h2 : 4 ≤ n := by have := HN.out; omega
  obtain ⟨g, off, rfl, hg, hc0⟩ := hv.atB 0 (by omega)
  obtain ⟨g', off', he, hg', hc1⟩ := hv.atB 1 (by omega)
  simp at he
  obtain ⟨rfl, rfl⟩ := he
  obtain ⟨g', off', he, hg', hc2⟩ := hv.atB 2 (by omega)
  simp at he
  obtain ⟨rfl, rfl⟩ := he
  obtain ⟨g', off', he, hg', hc3⟩ := hv.atB 3 (by omega)
  simp at he
  obtain ⟨rfl, rfl⟩ := he
  have ha := byt_lt hv.bytes 0
  have hb := byt_lt hv.bytes 1
  have hc := byt_lt hv.bytes 2
  have hd := byt_lt hv.bytes 3
  have HR := hid (or4 _ _ _ _ ha hb hc hd)
  generalize (byt L 0 * 256 + byt L 1) * 65536 + (byt L 2 * 256 + byt L 3) = r at *
  generalize byt L 0 = p at *
  generalize byt L 1 = q at *
  generalize byt L 2 = s at *
  generalize byt L 3 = t at *
  clear hv
  rw [Nat.add_zero] at hc0
  have b0 : (0 : Int) < (n : Int) := by omega
  have b1 : (1 : Int) < (n : Int) := by omega
  have b2 : (2 : Int) < (n : Int) := by omega
  have b3 : (3 : Int) < (n : Int) := by omega
  go_enter Tryd.func41, Tryd.ntmps41
  go_wp2_with fail
  go_quiet (fail)
  go_wp2_with fail
  go_ret
  exact ⟨ret_int (by rw [← HR.out]; simp), below_drewN (Below.refl _ _) _⟩
end Go.Proofs.YtcboenmmkaochaaDoor.N

namespace Go.Proofs.YtcboenmmkaochaaDoor.N
open Go.ChangeShapes Go.WideShapes Go.ChangeAt Go.RowKit
set_option maxHeartbeats 2000000
set_option maxRecDepth 100000

def ctCells (m : Im.Ct) (vb : Value) : Array Value := #[.int .u8 (m.t : Int), .int .u8 (m.c : Int), .int .u32 (m.r : Int), vb]

theorem ct_at {u : World} {n : Nat} {m : Im.Ct} {vb : Value} {t : TypeId} (hb : u.heap[n]? = some (.cells (ctCells m vb) t)) :
    u.cell? ⟨n, 0, none⟩ = some (.int .u8 (m.t : Int)) ∧ u.cell? ⟨n, 1, none⟩ = some (.int .u8 (m.c : Int)) ∧ u.cell? ⟨n, 2, none⟩ = some (.int .u32 (m.r : Int)) ∧ u.cell? ⟨n, 3, none⟩ = some vb := by
  refine ⟨?_, ?_, ?_, ?_⟩ <;> (rw [cell_of_row u _ _ _ _ _ hb]; rfl)

theorem splice8 (a b c d e f g h : Nat) (R B : List Nat) (hl : B.length = R.length) : splice (a :: b :: c :: d :: e :: f :: g :: h :: R) 8 B = a :: b :: c :: d :: e :: f :: g :: h :: B := by
  unfold splice
  simp [hl]
  omega

theorem But.boxed {g n : Nat} {w w' : World} (h : But g w w') (hn : n < w.heap.size) (hne : n ≠ g) {o : Obj} (ho : w.heap[n]? = some o) : w'.heap[n]? = some o := (h.block n hn hne).trans ho

theorem But.alloc {g : Nat} {w w' : World} (h : But g w w') (o : Obj) : But g w (w'.alloc o) := by
  have hb := (Below.refl w'.heap.size w').alloc (Nat.le_refl _) o
  exact ⟨hb.os.trans h.os, hb.tape.trans h.tape, hb.output.trans h.output, Nat.le_trans h.size hb.size, fun i hi hn => (hb.block i (Nat.lt_of_lt_of_le hi h.size)).trans (h.block i hi hn)⟩

theorem lay_any (m : Im.Ct) (vb : Value) (w : World) (hok : m.Ok) (hvb : SeesB w vb m.B) (hl : m.B.length ≤ 65507) :
    Calls Tryd.prog 37 #[.agg (ctCells m vb)] w fun e w' => ∃ g k, e = .returned (.slice (some ⟨g, 0, none⟩) k k) ∧ SeesB w' (.slice (some ⟨g, 0, none⟩) k k) (Im.laid m) ∧ Blk w' g (Im.laid m) ∧ w.heap.size ≤ g ∧ Below w.heap.size w w' := by
  obtain ⟨w1, hw1⟩ : ∃ w1, w1 = w.alloc (.cells (ctCells m vb) 37) := ⟨_, rfl⟩
  have hb1 : Below w.heap.size w w1 := by rw [hw1]; exact (Below.refl _ _).alloc (Nat.le_refl _) _
  have hs1 : w1.heap.size = w.heap.size + 1 := by rw [hw1]; simp
  have hk1 : w1.heap[w.heap.size]? = some (.cells (ctCells m vb) 37) := by rw [hw1]; exact heap_alloc_new w _
  have HVB := hid hvb
  obtain ⟨ab, nb, capb, rfl, HNB, hnb1, hnb2⟩ := hvb.shape
  unfold maxLen at hnb2
  have hnb : nb ≤ 65507 := by have := HNB.out; omega
  obtain ⟨g, hg⟩ : ∃ g, g = w1.heap.size := ⟨_, rfl⟩
  obtain ⟨tot, ht⟩ : ∃ tot, tot = 8 + nb := ⟨_, rfl⟩
  have hmk : ∀ u : World, (Instr.makeSlice 25 (.int .i64 (8 + (nb : Int))) (.int .i64 (8 + (nb : Int)))).run Tryd.prog u = .ok (.slice (some ⟨u.heap.size, 0, none⟩) tot tot) (u.alloc (.cells (madeCells #[.int .u8 0] tot) 5)) := by
    rw [show (8 : Int) + (nb : Int) = (tot : Int) by omega]
    exact make_bytes tot (by omega)
  obtain ⟨w2, hw2⟩ : ∃ w2, w2 = w1.alloc (.cells (madeCells #[.int .u8 0] tot) 5) := ⟨_, rfl⟩
  obtain ⟨R, hR⟩ : ∃ R, R = List.replicate nb 0 := ⟨_, rfl⟩
  have hB2 : Blk w2 g (0 :: 0 :: 0 :: 0 :: 0 :: 0 :: 0 :: 0 :: R) := by
    have := made_blk w1 tot
    rw [← hw2, ← hg, ht, ← List.replicate_append_replicate, ← hR] at this
    exact this
  have hb2 : Below w1.heap.size w1 w2 := by rw [hw2]; exact (Below.refl _ _).alloc (Nat.le_refl _) _
  have hs2 : w2.heap.size = w1.heap.size + 1 := by rw [hw2]; simp
  have HK : Hid (∀ u, But g w2 u → u.heap[w.heap.size]? = some (.cells (ctCells m (.slice ab nb capb)) 37)) := fun u hu => hu.boxed (by omega) (by omega) ((hb2.block _ (by omega)).trans hk1)
  have HBW : Hid (∀ u, But g w2 u → Below w.heap.size w u) := fun u hu => by
    have h0 := hb1.trans (hb2.mono hb1.size)
    exact hu.below h0 h0.size (by omega)
  have hRl : R.length = nb := by rw [hR, List.length_replicate]
  have HRL := hid hRl
  have c0 := hB2.cell 0 (by simp)
  have c1 := hB2.cell 1 (by simp)
  have f0 := hB2.free 0
  have f1 := hB2.free 1
  obtain ⟨d0, d1, d2, d3⟩ := ct_at (HK.out _ (But.refl _ _))
  have e3 := (ct_at hk1).2.2.2
  obtain ⟨ht1, hc1, hr1⟩ := hok
  have hne : ¬ w.heap.size = g := by omega
  have hne' : ¬ g = w.heap.size := by omega
  have b0 : (0 : Int) < (tot : Int) := by omega
  have b1 : (1 : Int) < (tot : Int) := by omega
  have HT : Hid ((8 : Int) + (nb : Int) = (tot : Int)) := by unfold Hid; omega
  have hB3 : Blk ((w2.setCell ⟨g, 0, none⟩ (.int .u8 (m.t : Int))).setCell ⟨g, 1, none⟩ (.int .u8 (m.c : Int))) g (m.t :: m.c :: 0 :: 0 :: 0 :: 0 :: 0 :: 0 :: R) := (hB2.set 0 m.t).set 1 m.c
  have hu3 : But g w2 ((w2.setCell ⟨g, 0, none⟩ (.int .u8 (m.t : Int))).setCell ⟨g, 1, none⟩ (.int .u8 (m.c : Int))) := (But.set _ _ _ _).trans (But.set _ _ _ _)
  have HB3 := hid (And.intro hB3 hu3)
  have HW1 := hid hw1
  have HW2 := hid hw2
  have HG := hid hg
  have HTT := hid ht
  have hOK : m.Ok := ⟨ht1, hc1, hr1⟩
  have HOK := hid hOK
  have HB2X := hid (And.intro hb2 hb1)
  have HS := hid (And.intro hs1 hs2)
  have htl : tot ≤ 65515 := by omega
  have ht8 : 8 ≤ tot := by omega
  have HLEN : Hid (m.B.length = nb) := HNB.out.symm
  have k4 : ∀ u : World, (Instr.sliceAt 25 (.slice (some ⟨g, 0, none⟩) tot tot) (some (.int .i64 4)) none none).run Tryd.prog u = .ok (.slice (some ⟨g, 4, none⟩) (tot - 4) (tot - 4)) u := fun u => by
    have := cut_at g 0 tot tot 4 4 rfl (by omega) (by omega) u
    rwa [Nat.zero_add] at this
  have k2 : ∀ u : World, (Instr.sliceAt 25 (.slice (some ⟨g, 0, none⟩) tot tot) (some (.int .i64 2)) none none).run Tryd.prog u = .ok (.slice (some ⟨g, 2, none⟩) (tot - 2) (tot - 2)) u := fun u => by
    have := cut_at g 0 tot tot 2 2 rfl (by omega) (by omega) u
    rwa [Nat.zero_add] at this
  obtain ⟨a8, HA8, k8⟩ := cut_end g tot 8 8 rfl (by omega)
  clear hw1 hw2 hg ht hR hvb hk1 hb1 hb2 hB2 hB3 hu3 hRl hs1 hs2 hl hOK HNB
  obtain ⟨mt, mc, mr, mB⟩ := m
  simp only at *
  have HCT : Hid (ctCells ⟨mt, mc, mr, mB⟩ (.slice ab nb capb) = #[.int .u8 (mt : Int), .int .u8 (mc : Int), .int .u32 (mr : Int), .slice ab nb capb]) := rfl
  rw [HCT.out] at HW1 ⊢
  go_enter Tryd.func37, Tryd.ntmps37
  go_upto_region 1 with fail
  rw [← HW1.out]
  go_upto_region 2 with fail
  rw [← HG.out, ← HW2.out]
  go_cut [] from 17 (fun wx => Hid (Blk wx g (mt :: mc :: 0 :: 0 :: 0 :: 0 :: 0 :: 0 :: R)) ∧ But g w2 wx)
  case first =>
    go_region
    all_goals (
      go_wp2_with fail
      go_meet
      case rel => exact ⟨HB3.out.1, But.drew HB3.out.2⟩)
  case rest =>
  obtain ⟨hB3, hu3⟩ := hcut
  obtain ⟨w3, hw3⟩ : ∃ w3, w3 = wc := ⟨_, rfl⟩
  rw [← hw3] at hB3 hu3 ⊢
  clear hw3 HB3 c0 c1 f0 f1 d0 d1 d2 d3 e3
  have hg3 := hB3.out.lt
  obtain ⟨_, _, d2, _⟩ := ct_at (HK.out _ hu3)
  have HC3 := hid (iwrite32_any g 4 (tot - 4) (tot - 4) mr _ w3.drew hB3.out (by omega) (Nat.le_refl _) (by simp; have := HRL.out; have := HTT.out; omega) hr1)
  go_upto_region 3 with fail
  go_cut [] from 22 (fun wx => Hid (Blk wx g (mt :: mc :: 0 :: 0 :: mr / 65536 / 256 :: mr / 65536 % 256 :: mr % 65536 / 256 :: mr % 65536 % 256 :: R)) ∧ But g w2 wx)
  case first =>
    go_region_with (first | (go_at_call 48; refine HC3.out.mono ?_; rintro _ w4 ⟨rfl, hB4, hu4⟩) | fail)
    all_goals (
      go_wp2_with fail
      go_meet
      case rel => exact ⟨hB4, hu3.trans ((But.drew (But.refl _ _)).trans hu4)⟩)
  case rest =>
  obtain ⟨HB4, hu4⟩ := hcut
  obtain ⟨w4, hw4⟩ : ∃ w4, w4 = wc := ⟨_, rfl⟩
  rw [← hw4] at HB4 hu4 ⊢
  clear hw4 HC3 d2 hB3 hu3
  obtain ⟨_, _, _, d3⟩ := ct_at (HK.out _ hu4)
  have hb4 : Below g w1 w4 := hu4.below (by rw [HG.out]; exact HB2X.out.1) (by have := HS.out; have := HG.out; omega) (Nat.le_refl _)
  obtain ⟨X4, hX4⟩ : ∃ X4, X4 = bs (mt :: mc :: 0 :: 0 :: mr / 65536 / 256 :: mr / 65536 % 256 :: mr % 65536 / 256 :: mr % 65536 % 256 :: R) := ⟨_, rfl⟩
  obtain ⟨O4, hO4⟩ : ∃ O4, O4 = bs mB := ⟨_, rfl⟩
  have HG4 : Hid (w4.heap[g]? = some (.cells X4.toArray 5 (0, 0))) := by unfold Hid; rw [hX4]; exact HB4.out
  have HX4 := hid hX4
  have HO4 := hid hO4
  have HLO4 : Hid (O4.length = nb) := by unfold Hid; rw [hO4, bs, List.length_map, HLEN.out]
  have HLX4 : Hid (X4.length = tot) := by unfold Hid; rw [hX4, bs, List.length_map]; simp; have := HRL.out; have := HTT.out; omega
  have HMN : Hid (O4.length = Nat.min nb (tot - 8)) := by unfold Hid; rw [HLO4.out]; have := HTT.out; show nb = min nb (tot - 8); omega
  have HPS : Hid (0 < O4.length → a8 = some ⟨g, 8, none⟩ ∧ ∃ ad, ab = some ad ∧ ∀ j v, O4[j]? = some v → w4.drew.cell? (ad.add j) = some v) := fun hp => by
    refine ⟨HA8.out (by have := HLO4.out; have := HTT.out; omega), ?_⟩
    rw [HO4.out] at hp ⊢
    exact (HVB.out.below (HBW.out _ (But.drew hu4))).src hp
  have HFT : Hid (8 + O4.length ≤ X4.length) := by unfold Hid; rw [HLO4.out, HLX4.out]; have := HTT.out; omega
  have HO1 : Hid (∀ v ∈ O4, v.oneCell' = true) := fun v hv => by
    rw [HO4.out] at hv
    obtain ⟨y, _, rfl⟩ := List.mem_map.1 hv
    rfl
  have HBD4 := hid (below_drew hb4)
  clear hX4 hO4 HB4
  go_upto_region 4 with fail
  go_cut [] from 27 (fun wx => Hid (wx.heap[g]? = some (.cells (splice X4 8 O4).toArray 5 (0, 0))) ∧ Below g w1 wx)
  case first =>
    go_region_law (first
      | (refine step_copy_splice rfl (.tmp 23) (.tmp 25) 25 25 rfl 5 Tryd.underlying25 size5 a8 ab (tot - 8) (tot - 8) nb capb rfl rfl g 8 X4 5 HG4.out O4 HMN.out HPS.out HFT.out HO1.out g w1 HBD4.out (Nat.le_refl _) ?_; intro w5 hg5 hb5)
      | fail)
    all_goals (
      go_wp2_with fail
      go_meet
      case rel => exact ⟨hg5, hb5⟩)
  case rest =>
  obtain ⟨HG5, hb5⟩ := hcut
  obtain ⟨w5, hw5⟩ : ∃ w5, w5 = wc := ⟨_, rfl⟩
  rw [← hw5] at HG5 hb5 ⊢
  clear hw5 d3 HG4 HMN HPS HFT HO1 HBD4 hb4 hu4
  have HB5 : Hid (Blk w5 g (Im.msg ⟨mt, mc, mr, mB⟩ 0)) := by
    unfold Hid
    have e : splice X4 8 O4 = bs (Im.msg ⟨mt, mc, mr, mB⟩ 0) := by
      rw [HX4.out, HO4.out, bs_splice, splice8 _ _ _ _ _ _ _ _ _ _ (by rw [HRL.out, HLEN.out])]
      rfl
    have := HG5.out
    rw [e] at this
    exact this
  have hlen : (Im.msg ⟨mt, mc, mr, mB⟩ 0).length = tot := by
    rw [Im.msg_len]
    have := HTT.out; have := HLEN.out
    simp only at *
    omega
  have hbytes : ∀ x ∈ Im.msg ⟨mt, mc, mr, mB⟩ 0, x < 256 := Im.msg_bytes HOK.out HVB.out.bytes (by decide)
  have s1 : SeesB w5.drew (.slice (some ⟨g, 0, none⟩) tot tot) (Im.msg ⟨mt, mc, mr, mB⟩ 0) := sees_blk (show w5.drew.heap[g]? = _ from HB5.out) hlen (by omega) hbytes
  have HSM0 := sum_code _ _ _ (seesBB_one (w := w5.drew) rfl _ _ s1 25) (by simp; omega)
  rw [show [Im.msg ⟨mt, mc, mr, mB⟩ 0].flatten = Im.msg ⟨mt, mc, mr, mB⟩ 0 by simp] at HSM0
  have HLD : Hid (Im.laid ⟨mt, mc, mr, mB⟩ = ((Im.msg ⟨mt, mc, mr, mB⟩ 0).set 2 (M.csum (Im.msg ⟨mt, mc, mr, mB⟩ 0) / 256)).set (2 + 1) (M.csum (Im.msg ⟨mt, mc, mr, mB⟩ 0) % 256)) := rfl
  have HLB : Hid (∀ x ∈ Im.laid ⟨mt, mc, mr, mB⟩, x < 256) := Im.laid_bytes HOK.out HVB.out.bytes
  have HLL : Hid ((Im.laid ⟨mt, mc, mr, mB⟩).length = tot) := by
    unfold Hid; rw [Im.laid_len]
    have := HTT.out; have := HLEN.out
    simp only at *
    omega
  generalize hLDE : Im.laid ⟨mt, mc, mr, mB⟩ = LD at *
  have HLDE := hid hLDE
  clear hLDE
  have hlt := M.csum_lt (Im.msg ⟨mt, mc, mr, mB⟩ 0)
  generalize M.csum (Im.msg ⟨mt, mc, mr, mB⟩ 0) = s at *
  generalize Im.msg ⟨mt, mc, mr, mB⟩ 0 = X5 at *
  have hg5 := HB5.out.lt
  have HC : Hid (∀ u, Below w5.heap.size w5 u → Calls Tryd.prog 49 #[.slice (some ⟨g, 2, none⟩) (tot - 2) (tot - 2), .int .u16 (s : Int)] u fun e w' => e = .returned (.tuple #[]) ∧ Blk w' g LD ∧ But g u w') := fun u hu => by
    rw [HLD.out]
    exact iwrite16_any g 2 (tot - 2) (tot - 2) s X5 u ((hu.block g hg5).trans HB5.out) (by omega) (by omega) hlt
  have HSM : Hid (Calls Tryd.prog 40 #[.slice (some ⟨w5.heap.size, 0, none⟩) 1 1] (w5.drew.alloc (.cells #[.slice (some ⟨g, 0, none⟩) tot tot] 25)) fun e w' => e = .returned (.int .u16 (s : Int)) ∧ Below w5.heap.size w5 w') := by
    refine HSM0.mono ?_
    rintro e w' ⟨rfl, hb⟩
    have hbA : Below w5.heap.size w5 (w5.drew.alloc (.cells #[.slice (some ⟨g, 0, none⟩) tot tot] 25)) := (below_drew (Below.refl w5.heap.size w5)).alloc (Nat.le_refl _) _
    exact ⟨rfl, hbA.trans (hb.mono hbA.size)⟩
  have HB5 := hid hb5
  clear s1 HSM0 hlen hbytes HG5 hb5 k4 k8 HX4 HO4 HLX4 HLO4
  go_upto_region 5 with fail
  go_region_with (first | (go_at_call 40; refine HSM.out.mono ?_; rintro _ w6 ⟨rfl, hb6⟩) | (go_at_call 49; refine (HC.out _ hb6).mono ?_; rintro _ w7 ⟨rfl, hB7, hu7⟩) | fail)
  all_goals (
    go_wp2_with fail
    go_ret
    have hb7 : Below g w1 w7 := hu7.below (HB5.out.trans (hb6.mono (by omega))) (by have := hb6.size; omega) (Nat.le_refl _)
    rw [HLDE.out]
    exact ⟨g, tot, rfl, sees_blk hB7 HLL.out (by omega) HLB.out, hB7, by have := HG.out; have := HS.out; omega, HB2X.out.2.trans (hb7.mono (by have := HG.out; have := HS.out; omega))⟩)
end Go.Proofs.YtcboenmmkaochaaDoor.N

namespace Go.Proofs.YtcboenmmkaochaaDoor.N
open Go.ChangeShapes Go.WideShapes Go.ChangeAt Go.RowKit
set_option maxHeartbeats 2000000
set_option maxRecDepth 100000

theorem ibuild_any (m : Im.Ct) (vb : Value) (w : World) (hok : m.Ok) (hvb : SeesB w vb m.B) :
    Calls Tryd.prog 27 #[.agg (ctCells m vb)] w fun e w' => ∃ ao n cap, e = .returned (.tuple #[.slice ao n cap, .int .i64 (Im.bdE m)]) ∧ SeesB w' (.slice ao n cap) (Im.bdL m) ∧ (Im.bdE m = 0 → ∃ g, ao = some ⟨g, 0, none⟩ ∧ cap = n ∧ Blk w' g (Im.bdL m) ∧ w.heap.size ≤ g) ∧ Below w.heap.size w w' := by
  obtain ⟨w1, hw1⟩ : ∃ w1, w1 = w.alloc (.cells (ctCells m vb) 37) := ⟨_, rfl⟩
  have hb1 : Below w.heap.size w w1 := by rw [hw1]; exact (Below.refl _ _).alloc (Nat.le_refl _) _
  have hk1 : w1.heap[w.heap.size]? = some (.cells (ctCells m vb) 37) := by rw [hw1]; exact heap_alloc_new w _
  have HVB := hid hvb
  obtain ⟨ab, nb, capb, rfl, HNB, hnb1, hnb2⟩ := hvb.shape
  unfold maxLen at hnb2
  obtain ⟨d0, d1, d2, d3⟩ := ct_at hk1
  have HOK := hid hok
  have HW1 := hid hw1
  have HB1 := hid hb1
  have HLD : Hid ((Instr.loadAt 37 (.pointer (some ⟨w.heap.size, 0, none⟩))).run Tryd.prog w1 = .ok (.agg (ctCells m (.slice ab nb capb))) w1) := by
    refine run_loadAt_mid w1 w.heap.size 0 37 (ctCells m (.slice ab nb capb)).toList (.struct _) (fun j v hv => ?_) Tryd.underlying37 rfl (by rw [show (Tryd.prog.info? 37).map (·.size) = some 4 from by kernel_rfl]; rfl)
    rw [Nat.zero_add, cell_of_row _ _ _ _ _ _ hk1, ← hv, Array.getElem?_toList]
  by_cases hl : m.B.length ≤ 65507
  · have HLAY := hid (lay_any m (.slice ab nb capb) w1 hok (hvb.below hb1) hl)
    have HE : Hid (Im.bdE m = 0 ∧ Im.bdL m = Im.laid m) := ⟨by unfold Im.bdE; rw [if_neg (by omega)], by unfold Im.bdL; rw [if_neg (by omega)]⟩
    have hnb : nb ≤ 65507 := by have := HNB.out; omega
    clear hw1 hb1 hk1 hvb d0 d1 d2 hl hok HNB
    generalize ctCells m (.slice ab nb capb) = pk at *
    go_enter Tryd.func27, Tryd.ntmps27
    go_upto_region 1 with fail
    rw [← HW1.out]
    go_wp2_with (first | (refine wpList_ld 37 ⟨w.heap.size, 0, none⟩ _ rfl rfl HLD.out rfl ?_) | fail)
    refine HLAY.out.mono ?_
    rintro _ w2 ⟨g, k, rfl, hs2, hB2, hg2, hb2⟩
    go_wp2_with fail
    refine bodyPost_ret (results_tmp2 Tryd.results27 _ _ _) rfl ?_
    rw [HE.out.1, HE.out.2]
    exact ⟨_, _, _, rfl, hs2, fun _ => ⟨g, rfl, rfl, hB2, by have := HB1.out.size; omega⟩, HB1.out.trans (hb2.mono HB1.out.size)⟩
  · have HE : Hid (Im.bdE m = 37 ∧ Im.bdL m = []) := ⟨by unfold Im.bdE; rw [if_pos (by omega)], by unfold Im.bdL; rw [if_pos (by omega)]⟩
    have hnb : ¬ nb ≤ 65507 := by have := HNB.out; omega
    clear hw1 hb1 hk1 hvb d0 d1 d2 hl hok HNB HLD
    generalize ctCells m (.slice ab nb capb) = pk at *
    go_enter Tryd.func27, Tryd.ntmps27
    go_upto_region 1 with fail
    rw [← HW1.out]
    go_wp2_with fail
    refine bodyPost_ret (results_tmp2 Tryd.results27 _ _ _) rfl ?_
    rw [HE.out.1, HE.out.2]
    exact ⟨_, _, _, rfl, sees_nil _, (fun h => absurd h (by decide)), HB1.out⟩
end Go.Proofs.YtcboenmmkaochaaDoor.N
