import Derived.Test.YtjjmopmdiflffacBD
import Derived.Test.YtjjmopmdiflffacK
import Derived.Test.YtjjmopmdiflffacY
namespace Go.Proofs.Ytjjmopmdiflffac
open Go.ChangeShapes Go.WideShapes Go.ChangeAt Go.RowKit
set_option maxHeartbeats 1000000
set_option maxRecDepth 100000

theorem built_bytes {h : Hd} {B : List Nat} (hok : h.Ok) (ho : ∀ x ∈ h.opts, x < 256) (hb : ∀ x ∈ B, x < 256) : ∀ x ∈ builtL h B, x < 256 := by
  unfold builtL
  by_cases he : refE h B.length = 0
  · rw [if_pos he]
    obtain ⟨r1, r2, r3⟩ := refE_ok he
    obtain ⟨l1, l2⟩ := area_len r1
    obtain ⟨f, hf, hf1⟩ : ∃ f : Nat, h.off = (f : Int) ∧ f ≤ 65528 := by
      unfold M.pieceOk at r2
      simp at r2
      exact ⟨h.off.toNat, by omega, by omega⟩
    intro x hx
    rcases List.mem_append.1 hx with hx | hx
    · exact hdBytes_ok hok ho l1 hf hf1 (by unfold lenOfPk; omega) (M.csum_lt _) x hx
    · exact hb x hx
  · rw [if_neg he]
    intro x hx; cases hx

/-- The program's Build. -/
theorem build_code (h : Hd) (vo vb : Value) (B : List Nat) (w : World) (hok : h.Ok) (hvo : SeesB w vo h.opts) (hvb : SeesB w vb B) (hlo : h.opts.length ≤ 140737488355328) (hlb : B.length ≤ 140737488355328) :
    Calls Try.prog 11 #[.agg (pkCells h vo vb)] w fun e w' => ∃ ao n cap, e = .returned (.tuple #[.slice ao n cap, .int .i64 (refE h B.length)]) ∧ SeesB w' (.slice ao n cap) (builtL h B) ∧ Below w.heap.size w w' := by
  by_cases he : refE h B.length = 0
  · rw [he]
    exact build_good h vo vb B w hok hvo hvb he
  · refine (build_bad h vo vb B w hok hvo hvb hlo hlb he).mono ?_
    rintro e w' ⟨rfl, hb⟩
    refine ⟨none, 0, 0, rfl, ?_, hb⟩
    unfold builtL
    rw [if_neg he]
    exact sees_nil _

theorem build_refS (h : Hd) (vo vb : Value) (B : List Nat) (w : World) (hok : h.Ok) (hvo : SeesB w vo h.opts) (hvb : SeesB w vb B) (hlb : B.length ≤ 140737488355328) :
    Calls Try.prog 17 #[.agg (pkCells h vo vb)] w fun e w' => ∃ ao n cap, e = .returned (.tuple #[.slice ao n cap, .int .i64 (refE h B.length)]) ∧ SeesB w' (.slice ao n cap) (builtL h B) ∧ Below w.heap.size w w' := by
  refine (build_ref h vo vb B w hok hvo hvb (by omega)).mono ?_
  rintro e w' ⟨v', rfl, hO, hb⟩
  have hs := hO.sees (built_bytes hok hvo.bytes hvb.bytes)
  obtain ⟨ao, n, cap, rfl, _, _, _⟩ := hs.shape
  exact ⟨ao, n, cap, rfl, hs, hb⟩

set_option maxHeartbeats 2000000 in
theorem plays_build (vy vp : Value) (x y z : Nat) (h : Hd) (vo vb : Value) (B : List Nat) (w : World) (hok : h.Ok) (hvo : SeesB w vo h.opts) (hvb : SeesB w vb B) (hlo : h.opts.length ≤ 140737488355328) (hlb : B.length ≤ 140737488355328) :
    Calls Try.prog 16 #[.agg (opL 5 vy vp x y z h vo vb).toArray] w fun e w' => e = .returned (.bool true) ∧ Below w.heap.size w w' := by
  obtain ⟨w1, hw1⟩ : ∃ w1, w1 = w.alloc (.cells (opL 5 vy vp x y z h vo vb).toArray 45) := ⟨_, rfl⟩
  have hb1 : Below w.heap.size w w1 := by rw [hw1]; exact (Below.refl _ _).alloc (Nat.le_refl _) _
  have hs1 : w1.heap.size = w.heap.size + 1 := by rw [hw1]; simp
  have HLD : Hid (∀ u, Below w1.heap.size w1 u → (Instr.loadAt 32 (.pointer (some ⟨w.heap.size, 6, none⟩))).run Try.prog u = .ok (.agg (pkCells h vo vb)) u) := fun u hu => by
    have hr := blk_at (cs := opL 5 vy vp x y z h vo vb) (t := 45) (u := u) (n := w.heap.size) (by rw [hu.block w.heap.size (by omega), hw1]; exact blk_new _ _ _)
    obtain ⟨fs, hu32⟩ := und29
    refine run_loadAt_mid u w.heap.size 6 32 (pkCells h vo vb).toList (.struct fs) (fun j v hv => ?_) hu32 rfl (by rw [size29']; rfl)
    have := hr (6 + j) v (by
      have e : opL 5 vy vp x y z h vo vb = [.int .i64 5, vy, vp, .int .u16 (x : Int), .int .u16 (y : Int), .int .u16 (z : Int)] ++ (pkCells h vo vb).toList := rfl
      rw [e, List.getElem?_append_right (by simp)]
      simpa using hv)
    rwa [Nat.zero_add] at this
  have HP1 := hid (build_code h vo vb B w1 hok (hvo.below hb1) (hvb.below hb1) hlo hlb)
  have HP2 : Hid (∀ u, Below w1.heap.size w1 u → Calls Try.prog 17 #[.agg (pkCells h vo vb)] u fun e w' => ∃ ao n cap, e = .returned (.tuple #[.slice ao n cap, .int .i64 (refE h B.length)]) ∧ SeesB w' (.slice ao n cap) (builtL h B) ∧ Below u.heap.size u w') := fun u hu => build_refS h vo vb B u hok (hvo.below (hb1.trans (hu.mono hb1.size))) (hvb.below (hb1.trans (hu.mono hb1.size))) hlb
  have HW1 : Hid (w1 = w.alloc (.cells (opL 5 vy vp x y z h vo vb).toArray 45)) := hw1
  have HB1 := hid hb1
  have HL1 := hid (HLD.out _ (Below.refl _ _))
  clear hw1 hb1 hs1 hvo hvb hlo hlb hok
  generalize refE h B.length = q at *
  have hqq : (q == q) = true := by simp
  generalize pkCells h vo vb = pk at *
  generalize builtL h B = bl at *
  unfold opL at HW1 ⊢
  go_enter Try.func16, Try.ntmps16
  go_upto_region 14 with fail
  rw [← HW1.out]
  go_wp2_with (first | (refine wpList_ld 32 ⟨w.heap.size, 6, none⟩ (.tmp 86) rfl rfl HL1.out rfl ?_) | fail)
  refine HP1.out.mono ?_
  rintro _ w2 ⟨a1, n1, c1, rfl, h1, hb2⟩
  have HL2 := hid (HLD.out _ hb2)
  have HH1 := hid h1
  clear h1
  go_wp2_with (first | (refine wpList_ld 32 ⟨w.heap.size, 6, none⟩ (.tmp 92) rfl rfl HL2.out rfl ?_) | fail)
  refine (HP2.out _ hb2).mono ?_
  rintro _ w3 ⟨a2, n2, c2, rfl, h2, hb3⟩
  have HSM : Hid (Calls Try.prog 15 #[.slice a1 n1 c1, .slice a2 n2 c2] w3 fun e w' => e = .returned (.bool true) ∧ Below w3.heap.size w3 w') := by
    have := same_any (.slice a1 n1 c1) (.slice a2 n2 c2) bl bl w3 (HH1.out.below hb3) h2
    rw [decide_eq_true (rfl : bl = bl)] at this
    exact this
  have HB3 := hid (hb2.trans (hb3.mono hb2.size))
  clear h2 hb3 hb2
  go_wp2_with fail
  refine HSM.out.mono ?_
  rintro _ w4 ⟨rfl, hb4⟩
  go_wp2_with fail
  go_ret
  exact ⟨rfl, HB1.out.trans ((HB3.out.trans (hb4.mono HB3.out.size)).mono HB1.out.size)⟩

theorem head_build (w : World) :
    Calls Try.prog 10 #[.int .i64 5] w fun e w' => e = .returned (.bool true) ∧ Below w.heap.size w w' := by
  have HS := hid (small_build w)
  have HB := hid (smallW_below w)
  have HP : Hid (∀ u, Below (smallW w).heap.size (smallW w) u → Calls Try.prog 16 #[.agg #[.int .i64 5, .slice none 0 0, .slice none 0 0, .int .u16 0, .int .u16 0, .int .u16 0, .int .u8 0, .int .u16 7216, .bool true, .bool false, .int .i64 0, .int .u8 64, .int .u8 6, .int .u32 167838211, .int .u32 167904004, .slice none 0 0, .slice (some ⟨w.heap.size, 0, none⟩) 3 3]] u fun e w' => e = .returned (.bool true) ∧ Below u.heap.size u w') :=
    fun u hu => plays_build (.slice none 0 0) (.slice none 0 0) 0 0 0 smallH (.slice none 0 0) (.slice (some ⟨w.heap.size, 0, none⟩) 3 3) [1, 2, 3] u small_ok (sees_nil _) ((smallW_body w).below hu) (by decide) (by decide)
  have HLD : Hid (∀ u, Below (smallW w).heap.size (smallW w) u → (Instr.loadAt 32 (.pointer (some ⟨w.heap.size + 1, 0, none⟩))).run Try.prog u = .ok (.agg (smallC w.heap.size)) u) := fun u hu => by
    have hrow : u.heap[w.heap.size + 1]? = some (.cells (pkCells smallH (.slice none 0 0) (.slice (some ⟨w.heap.size, 0, none⟩) 3 3)) 32) := by
      rw [hu.block _ (by unfold smallW; simp)]
      have := heap_alloc_new (w.alloc (.cells #[.int .u8 1, .int .u8 2, .int .u8 3] 5)) (.cells (smallC w.heap.size) 32)
      rw [World.size_alloc] at this
      exact this
    exact pk_load hrow
  unfold smallW smallC at *
  go_enter Try.func10, Try.ntmps10
  go_wp2_with fail
  refine HS.out.mono ?_
  rintro _ w2 ⟨ao, n, cap, rfl, hs, hb2⟩
  have hb3 := HB.out.trans (hb2.mono HB.out.size)
  have HL2 := hid (HLD.out _ hb2)
  have HP2 := hid (HP.out _ hb2)
  clear hs hb2 HLD HP
  go_wp2_with (first | (refine wpList_ld 32 ⟨w.heap.size + 1, 0, none⟩ (.tmp 3) rfl rfl HL2.out rfl ?_) | fail)
  refine HP2.out.mono ?_
  rintro _ w3 ⟨rfl, hb4⟩
  go_wp2_with fail
  go_ret
  exact ⟨rfl, hb3.trans (hb4.mono hb3.size)⟩
end Go.Proofs.Ytjjmopmdiflffac
