import Derived.Test.YtenhofbhkchjoabDoorSA
import Derived.Test.YtenhofbhkchjoabDoorMgV
import Derived.Test.YtenhofbhkchjoabDoorU
import Derived.Deep.AppendLies
import Derived.Deep.RegionHeld3
import Derived.Deep.RegionLaw
import Derived.Deep.DrawnRows
import Derived.Deep.DeepCutAuto
namespace Go.Proofs.YtenhofbhkchjoabDoor.Mg
open Go.ChangeShapes Go.WideShapes Go.ChangeAt Go.RowKit
set_option maxHeartbeats 400000
set_option maxRecDepth 100000
attribute [local go_sem ↓] Go.wp_at_zero Go.wp_at_succ

theorem Tryd.info39 : (Tryd.prog.info? 39).map (fun i => (i.zero, i.size, i.bytes)) = some (some (.slice none 0 0), 1, 24) := by kernel_rfl

theorem row3_at {w : World} {p : Nat} {a b c : Value} {T : TypeId} (h : w.heap[p]? = some (.cells #[a, b, c] T (0, 0))) :
    w.cell? ⟨p, 0, none⟩ = some a ∧ w.cell? ⟨p, 1, none⟩ = some b ∧ w.cell? ⟨p, 2, none⟩ = some c ∧ ∀ i, w.frozen? ⟨p, i, none⟩ = false := by
  refine ⟨?_, ?_, ?_, fun i => frozen_of_row w p i _ _ h⟩ <;> (rw [cell_of_row _ _ _ _ _ _ h]; rfl)

set_option maxHeartbeats 2000000 in
theorem answers_any {w : World} {B p : Nat} {vl vs vw l : Value} {L M : List (Nat × Int)} {KA KC : List (Value × List (Nat × Int))} (h : St w B p vl vs vw L KA KC) (hl : Sees w l M) (ho : Off w p vl vs vw l)
    (hM : M.length * 16 ≤ 140737488355328) (hA : (KA.length + 1) * 24 ≤ 140737488355328) (hC : (KC.length + 1) * 24 ≤ 140737488355328) (hB : B ≤ w.heap.size) :
    Calls Tryd.prog 34 #[.pointer (some ⟨p, 0, none⟩), l] w fun e w' => e = .returned (.tuple #[]) ∧ ∃ vs' vw' u, St w' B p vl vs' vw' L (KA ++ [(l, M)]) (KC ++ [(u, M)]) ∧ Chg (fun k => k = p ∨ vs.ownBlock = some k ∨ vw.ownBlock = some k) w w' := by
  obtain ⟨i0, hi0, hz0, hz1, hz2⟩ := info_parts Tryd.info39
  have HI : Hid (Tryd.prog.info? 39 = some i0) := hi0
  clear hi0
  obtain ⟨c0, c1, c2, cf⟩ := row3_at h.row
  have hp := h.lt
  obtain ⟨lo, ln, lc, rfl, HLN, hl1, hl2⟩ := hl.shape
  have HS := h
  go_enter Tryd.func34, Tryd.ntmps34
  go_wp2_with (at_builtin; refine wpList_append_lies _ rfl _ _ 40 rfl B 39 i0 (.slice none 0 0) 1 24 Tryd.underlying40 HI.out hz0 hz1 hz2 rfl (by decide) vs KA.length (KA.map Prod.fst) (by rfl) (HS.os.alloc _) ⟨w.heap.size, 0, none⟩ 1 1 [.slice lo ln lc] (by rfl) rfl ?c1 ?c2 (by omega) ?c3 ?c4 ?c5 (w.heap.size + 1) (by simp) ?_)
  case c1 => exact World.news_of_block (heap_alloc_new w _)
  case c2 => intro u hu; simp at hu; subst hu; rfl
  case c3 => unfold maxLen; omega
  case c4 => exact hA
  case c5 => simp; omega
  intro g cap w1 hown1 hgrow hat hlt
  have hpv : some p ≠ vs.ownBlock := fun e => (HS.xs p e.symm).1 rfl
  have hrow1 : w1.heap[p]? = some (.cells #[vl, vs, vw] 42 (0, 0)) := by
    rw [hgrow.block p (by simp; omega) hpv, Below.heap_alloc _ _ _ hp]; exact HS.row
  obtain ⟨d0, d1, d2, df⟩ := row3_at hrow1
  clear c0 c1 c2 cf
  go_wp2_with fail
  have hgp : g ≠ p := by
    rcases hat with e | e
    · exact (HS.xs g e).1
    · omega
  obtain ⟨w2, hw2⟩ : ∃ w2, w2 = w1.setCell ⟨p, 1, none⟩ (.slice (some ⟨g, 0, none⟩) (KA.length + 1) cap) := ⟨_, rfl⟩
  have hc12 : Chg (fun k => k = p ∨ vs.ownBlock = some k) w w2 := by
    rw [hw2]; exact ((Chg.alloc w _).trans (Chg.of_grown hgrow fun k e => .inr e.symm)).trans (Chg.setCell w1 _ _ (.inl rfl))
  have hS2 : St w2 B p vl (.slice (some ⟨g, 0, none⟩) (KA.length + 1) cap) vw L (KA ++ [(.slice lo ln lc, M)]) KC := by
    refine HS.pushA hc12 ?_ ?_ (hat.imp id fun e => by omega) hl ho
    · rw [hw2]; exact heap_setCell_same w1 p 1 _ 42 _ hrow1
    · rw [hw2]; exact owns_chg hown1 (Chg.setCell (S := fun k => k = p) w1 _ _ rfl) fun k hk => by
        obtain rfl : g = k := by simpa [Value.ownBlock] using hk
        exact hgp
  have hl2 : Sees w2 (.slice lo ln lc) M := sees_chg hl hc12 fun k hk e => by
    obtain ⟨_, a, _, b, _⟩ := ho k hk
    rcases e with e | e
    · exact a e
    · exact b e.symm
  rw [← hw2]
  clear hw2 hrow1 hgrow hown1 hat hlt d0 d1 d2 df hpv
  obtain ⟨c0, c1, c2, cf⟩ := row3_at hS2.row
  have hp2 := hS2.lt
  have hB2 : B ≤ w2.heap.size := Nat.le_trans HS.lo (Nat.le_of_lt hp2)
  have hpw : some p ≠ vw.ownBlock := fun e => hS2.xw p e.symm rfl
  have hC3 : KC.length + 1 ≤ maxLen := by unfold maxLen; omega
  have hwlt : ∀ k, vw.ownBlock = some k → k < w2.heap.size := fun k hk => (hS2.ow.lt k hk).2
  have HO := hid ho
  have HH := hid h
  have HC12 := hid hc12
  clear ho h hc12 HS
  go_region_law (first
      | (go_simp; go_at_call 35; refine (copied_any _ M w2.drew hl2 hM).mono ?_; rintro e w3 ⟨u, rfl, hownu, hb3'⟩; have hb3 : Below w2.heap.size w2 w3 := ⟨hb3'.os, hb3'.tape, hb3'.output, hb3'.size, hb3'.block⟩; have hp3 : p < w3.heap.size := Nat.lt_of_lt_of_le hp2 hb3.size; have hq3 : w3.cell? ⟨p, 2, none⟩ = some vw := (hb3.cell (p := ⟨p, 2, none⟩) hp2).trans c2; obtain ⟨uo, un, uc, rfl, HUN, hu1, hu2⟩ := (sees_of_ownsP hownu).shape; have hB3 : B ≤ (w3.alloc (.cells #[.slice uo un uc] 39)).heap.size := Nat.le_trans hB2 (Nat.le_trans hb3.size (by simp)))
      | (refine step_append_lies _ (by rfl) _ _ _ (by rfl) B 39 i0 _ 1 24 Tryd.underlying40 HI.out hz0 hz1 hz2 rfl (by omega) vw KC.length (KC.map Prod.fst) (by rfl) ((owns_below hS2.ow hb3).alloc _)
          ⟨w3.heap.size, 0, none⟩ 1 1 [.slice uo un uc] (by rfl) (by rfl) (World.news_of_block (cs := #[.slice uo un uc]) (t := 39) (fr := (0, 0)) (heap_alloc_new w3 _)) (by simp [Value.oneCell'])
          (by omega) hC3 hC hB3 (w3.heap.size + 1) (by simp) ?_; intro g5 cap5 w5 hown5 hgrow hat5 hlt5; have hrow5 : w5.heap[p]? = some (.cells #[vl, .slice (some ⟨g, 0, none⟩) (KA.length + 1) cap, vw] 42 (0, 0)) := ((hgrow.block p (by simp; omega) hpw).trans (Below.heap_alloc _ _ _ hp3)).trans ((hb3.block p hp2).trans hS2.row); obtain ⟨d0, d1, d2, df⟩ := row3_at hrow5)
      | fail)
  all_goals go_wp2_with fail
  all_goals (
    go_end0
    have hgp5 : g5 ≠ p := by
      rcases hat5 with e | e
      · exact hS2.xw g5 e
      · omega
    have hc35 : Chg (fun k => k = p ∨ vw.ownBlock = some k) w3 (w5.setCell ⟨p, 2, none⟩ (.slice (some ⟨g5, 0, none⟩) (KC.length + 1) cap5)) :=
      ((Chg.alloc w3 _).trans (Chg.of_grown hgrow fun k e => .inr e.symm)).trans (Chg.setCell w5 _ _ (.inl rfl))
    have hS3 := hS2.below hb3
    have hoffu := hS2.off hownu
    refine ⟨rfl, _, _, _, hS3.pushC hc35 (heap_setCell_same w5 p 2 _ 42 _ hrow5) ?_ (hat5.imp id fun e => by omega) (sees_of_ownsP hownu) hoffu, ?_⟩
    · exact owns_chg hown5 (Chg.setCell (S := fun k => k = p) w5 _ _ rfl) fun k hk => by
        obtain rfl : g5 = k := by simpa [Value.ownBlock] using hk
        exact hgp5
    · have t1 : Chg (fun k => k = p ∨ vs.ownBlock = some k ∨ vw.ownBlock = some k) w w2 := ⟨HC12.out.os, HC12.out.tape, HC12.out.output, HC12.out.size, fun k hk hn => HC12.out.block k hk fun e => hn (e.imp id .inl)⟩
      have t2 : Chg (fun k => k = p ∨ vs.ownBlock = some k ∨ vw.ownBlock = some k) w2 w3 := Chg.of_below hb3
      have t3 : Chg (fun k => k = p ∨ vs.ownBlock = some k ∨ vw.ownBlock = some k) w3 _ := ⟨hc35.os, hc35.tape, hc35.output, hc35.size, fun k hk hn => hc35.block k hk fun e => hn (e.imp id .inr)⟩
      exact (t1.trans t2).trans t3)
end Go.Proofs.YtenhofbhkchjoabDoor.Mg
