import Derived.Test.YtjjmopmdiflffacWF
namespace Go.Proofs.Ytjjmopmdiflffac
open Go.ChangeShapes Go.WideShapes Go.ChangeAt Go.RowKit
set_option maxHeartbeats 1000000
set_option maxRecDepth 100000

theorem small_len : (builtL smallH [1, 2, 3]).length ≤ 140737488355328 := by
  unfold builtL
  rw [if_pos small_refE, List.length_append, hdBytes_len]
  simp [smallH]

theorem head_parse (w : World) :
    Calls Try.prog 10 #[.int .i64 3] w fun e w' => e = .returned (.bool true) ∧ Below w.heap.size w w' := by
  have HS := hid (small_build w)
  have HB := hid (smallW_below w)
  have HP : Hid (∀ (u : World) (v : Value), SeesB u v (builtL smallH [1, 2, 3]) → Calls Try.prog 16 #[.agg #[.int .i64 3, v, .slice none 0 0, .int .u16 0, .int .u16 0, .int .u16 0, .int .u8 0, .int .u16 0, .bool false, .bool false, .int .i64 0, .int .u8 0, .int .u8 0, .int .u32 0, .int .u32 0, .slice none 0 0, .slice none 0 0]] u fun e w' => e = .returned (.bool true) ∧ Below u.heap.size u w') :=
    fun u v hv => plays_parse v (.slice none 0 0) _ 0 0 0 zeroHd (.slice none 0 0) (.slice none 0 0) u hv small_len
  unfold smallW smallC at *
  go_enter Try.func10, Try.ntmps10
  go_wp2_with fail
  refine HS.out.mono ?_
  rintro _ w2 ⟨ao, n, cap, rfl, hs, hb2⟩
  have hb3 := HB.out.trans (hb2.mono HB.out.size)
  have HSS := hid hs
  clear hs hb2
  go_wp2_with fail
  refine (HP.out _ _ HSS.out).mono ?_
  rintro _ w3 ⟨rfl, hb4⟩
  go_wp2_with fail
  go_ret
  exact ⟨rfl, hb3.trans (hb4.mono hb3.size)⟩
end Go.Proofs.Ytjjmopmdiflffac
