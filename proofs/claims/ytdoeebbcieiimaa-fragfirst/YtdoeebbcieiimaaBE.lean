import Derived.Test.YtdoeebbcieiimaaBD
import Derived.Test.YtdoeebbcieiimaaK
import Derived.Test.YtdoeebbcieiimaaY
namespace Go.Proofs.Ytdoeebbcieiimaa
open Go.ChangeShapes Go.WideShapes Go.ChangeAt Go.RowKit
set_option maxHeartbeats 1000000
set_option maxRecDepth 100000

theorem built_bytes {h : Hd} {B : List Nat} (hok : h.Ok) (ho : ∀ x ∈ h.opts, x < 256) (hb : ∀ x ∈ B, x < 256) : ∀ x ∈ builtL h B, x < 256 := by
  unfold builtL
  by_cases he : refE h B.length = 0
  · rw [if_pos he]
    obtain ⟨r1, r2, r3⟩ := refE_ok he
    obtain ⟨l1, l2⟩ := area_len r1
    obtain ⟨f, hf, hf1⟩ : ∃ f : Nat, h.off = (f : Int) ∧ f ≤ 65528 := by
      unfold M.pieceOk at r2
      simp at r2
      exact ⟨h.off.toNat, by omega, by omega⟩
    intro x hx
    rcases List.mem_append.1 hx with hx | hx
    · exact hdBytes_ok hok ho l1 hf hf1 (by unfold lenOfPk; omega) (M.csum_lt _) x hx
    · exact hb x hx
  · rw [if_neg he]
    intro x hx; cases hx

/-- The program's Build. -/
theorem build_code (h : Hd) (vo vb : Value) (B : List Nat) (w : World) (hok : h.Ok) (hvo : SeesB w vo h.opts) (hvb : SeesB w vb B) (hlo : h.opts.length ≤ 140737488355328) (hlb : B.length ≤ 140737488355328) :
    Calls Try.prog 12 #[.agg (pkCells h vo vb)] w fun e w' => ∃ ao n cap, e = .returned (.tuple #[.slice ao n cap, .int .i64 (refE h B.length)]) ∧ SeesB w' (.slice ao n cap) (builtL h B) ∧ Below w.heap.size w w' := by
  by_cases he : refE h B.length = 0
  · rw [he]
    exact build_good h vo vb B w hok hvo hvb he
  · refine (build_bad h vo vb B w hok hvo hvb hlo hlb he).mono ?_
    rintro e w' ⟨rfl, hb⟩
    refine ⟨none, 0, 0, rfl, ?_, hb⟩
    unfold builtL
    rw [if_neg he]
    exact sees_nil _

theorem build_refS (h : Hd) (vo vb : Value) (B : List Nat) (w : World) (hok : h.Ok) (hvo : SeesB w vo h.opts) (hvb : SeesB w vb B) (hlb : B.length ≤ 140737488355328) :
    Calls Try.prog 45 #[.agg (pkCells h vo vb)] w fun e w' => ∃ ao n cap, e = .returned (.tuple #[.slice ao n cap, .int .i64 (refE h B.length)]) ∧ SeesB w' (.slice ao n cap) (builtL h B) ∧ Below w.heap.size w w' := by
  refine (build_ref h vo vb B w hok hvo hvb (by omega)).mono ?_
  rintro e w' ⟨v', rfl, hO, hb⟩
  have hs := hO.sees (built_bytes hok hvo.bytes hvb.bytes)
  obtain ⟨ao, n, cap, rfl, _, _, _⟩ := hs.shape
  exact ⟨ao, n, cap, rfl, hs, hb⟩

end Go.Proofs.Ytdoeebbcieiimaa
