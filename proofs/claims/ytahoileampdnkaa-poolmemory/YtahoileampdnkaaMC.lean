/-
  The law's same; lists of prefixes of its own.
-/
import Derived.Test.YtahoileampdnkaaMB
namespace Go.Proofs.Ytahoileampdnkaa
open Go.ChangeShapes Go.WideShapes Go.ChangeAt Go.RowKit Ru N Tri
set_option maxHeartbeats 1000000
set_option maxRecDepth 100000

theorem same_self (v1 v2 : Value) (L : List (Nat × Int)) (w : World) (h1 : Sees w v1 L) (h2 : Sees w v2 L) :
    Calls Try.prog 18 #[v1, v2] w fun e w' => e = .returned (.bool true) ∧ Below w.heap.size w w' := by
  obtain ⟨a1, n, c1, rfl, HN, hn1, hn2⟩ := h1.shape
  obtain ⟨a2, n2, c2, rfl, HN2, hm1, hm2⟩ := h2.shape
  have hnn : n2 = n := by rw [HN.out, HN2.out]
  subst hnn
  unfold maxLen at hn2 hm2
  have H1 := hid h1
  have H2 := hid h2
  clear h1 h2
  go_enter Try.func18, Try.ntmps18
  go_upto_region 4 with fail
  go_loopw [5] (fun i wr => ∃ j : Nat, i = .int .i64 (j : Int) ∧ j ≤ n2 ∧ Hid (Below w.heap.size w wr)) (fun i _ => n2 - (intOf i).toNat)
  case atStart => exact ⟨0, rfl, Nat.zero_le _, Below.refl _ _⟩
  case round =>
    obtain ⟨j, rfl, hj, HB⟩ := hrel
    by_cases hjn : j < n2
    · have hbd : Below w.heap.size w wr.drew := ⟨HB.out.os, HB.out.tape, HB.out.output, HB.out.size, HB.out.block⟩
      obtain ⟨g, off, p, e1, hg, c0, c1', HP⟩ := (H1.out.below hbd).at j hjn
      obtain ⟨g', off', p', e2, hg', d0, d1, HP'⟩ := (H2.out.below hbd).at j hjn
      subst e1 e2
      have hpp : p' = p := by
        have h := HP'.out
        rw [HP.out] at h
        exact (Option.some.inj h).symm
      subst hpp
      have b1 : (j : Int) < (n2 : Int) := by omega
      have b2 : (0 : Int) ≤ (j : Int) := by omega
      have b3 : decide ((j : Int) < 0) = false := by simp
      have HBD := hid hbd
      clear hg hg' hbd
      go_upto_region 6 with fail
      go_still (by kernel_rfl)
      clear c0 c1' d0 d1
      go_wp2_with fail
      go_roundw
      case rel => exact ⟨j + 1, by go_num, by omega, HBD⟩
      case measure => simp [intOf]; omega
    · go_wp2_with fail
      go_ret
      exact ⟨rfl, HB.out⟩

/-- Prefixes as cells. -/
def pc (L : List (Nat × Int)) : List Value := L.flatMap fun p => [.int .u32 (p.1 : Int), .int .i64 p.2]
theorem pc_len : ∀ L : List (Nat × Int), (pc L).length = L.length * 2
  | [] => rfl
  | r :: rs => by
    have h := pc_len rs
    unfold pc at *
    rw [List.flatMap_cons, List.length_append, h]; simp; omega
theorem pc_append (A C : List (Nat × Int)) : pc (A ++ C) = pc A ++ pc C := by simp [pc]
theorem pc_one (L : List (Nat × Int)) : ∀ u ∈ pc L, u.oneCell' = true := by
  intro u hu
  obtain ⟨r, _, h⟩ := List.mem_flatMap.1 hu
  simp at h
  rcases h with rfl | rfl <;> rfl
theorem pc_at : ∀ (L : List (Nat × Int)) (i : Nat) (r : Nat × Int), L[i]? = some r → (pc L)[i * 2]? = some (.int .u32 (r.1 : Int)) ∧ (pc L)[i * 2 + 1]? = some (.int .i64 r.2)
  | r :: rs, 0, s, h => by
    simp at h; subst h
    exact ⟨rfl, rfl⟩
  | r :: rs, i + 1, s, h => by
    have := pc_at rs i s (by simpa using h)
    unfold pc at *
    rw [List.flatMap_cons, show (i + 1) * 2 = [Value.int .u32 (r.1 : Int), Value.int .i64 r.2].length + i * 2 by simp; omega, List.getElem?_append_right (by omega), Nat.add_assoc, List.getElem?_append_right (by omega), Nat.add_sub_cancel_left, Nat.add_sub_cancel_left]
    exact this

def OwnP (w : World) (B : Nat) (v : Value) (L : List (Nat × Int)) : Prop := w.ownsRow B 25 2 v L.length (pc L)

/-- The front of an own list. -/
theorem OwnP.front {w : World} {B n cap : Nat} {a : Option Addr} {L M : List (Nat × Int)} (h : OwnP w B (.slice a n cap) (L ++ M)) (c : Nat) (hc : L.length ≤ c) (hm : c ≤ maxLen) : Sees w (.slice a L.length c) L := by
  refine ⟨a, c, rfl, hc, hm, fun j hj => ?_⟩
  rcases h.2 with ⟨h0, h1⟩ | ⟨g, cap', cur, h0, hb, hg, h1, h2, h3, h4⟩
  · rw [List.length_append] at h1; omega
  · simp only [Value.slice.injEq] at h0
    obtain ⟨rfl, -, -⟩ := h0
    have hget : (L ++ M)[j]? = some L[j] := by rw [List.getElem?_append_left hj]; exact List.getElem?_eq_getElem hj
    obtain ⟨e1, e2⟩ := pc_at _ j _ hget
    have hl : j < (L ++ M).length := by simp; omega
    rw [← h4, List.getElem?_take, if_pos (by omega)] at e1 e2
    refine ⟨g, 0, rfl, (Array.getElem?_eq_some_iff.1 hg).1, ?_, ?_⟩
    · rw [cell_of_row _ _ _ _ _ _ hg, Nat.zero_add]; simpa using e1
    · rw [cell_of_row _ _ _ _ _ _ hg, Nat.zero_add]; simpa using e2

theorem OwnP.shape {w : World} {B : Nat} {v : Value} {L : List (Nat × Int)} (h : OwnP w B v L) : ∃ a cap, v = .slice a L.length cap ∧ L.length ≤ cap ∧ cap ≤ maxLen := by
  rcases h.2 with ⟨rfl, h0⟩ | ⟨g, cap, cur, rfl, -, -, h1, h2, -⟩
  · exact ⟨none, 0, by rw [h0], by omega, by decide⟩
  · exact ⟨_, cap, rfl, h1, h2⟩

theorem OwnP.sees {w : World} {B : Nat} {v : Value} {L : List (Nat × Int)} (h : OwnP w B v L) : Sees w v L := by
  obtain ⟨a, cap, rfl, h1, h2⟩ := h.shape
  have h' : OwnP w B (.slice a L.length cap) (L ++ []) := by rw [List.append_nil]; exact h
  exact h'.front cap h1 h2

theorem OwnP.below {w w' : World} {B : Nat} {v : Value} {L : List (Nat × Int)} (h : OwnP w B v L) (hb : Below w.heap.size w w') : OwnP w' B v L :=
  World.ownsRow.kept (row := none) h ⟨hb.os, hb.tape, hb.output, hb.size, fun k hk _ => hb.block k hk⟩ (by cases hv : v.ownBlock <;> simp)

theorem u26 : Try.prog.underlying 26 = some (.slice 25) := by kernel_rfl
theorem infoPr : (Try.prog.info? 25).map (fun i => (i.zero, i.size, i.bytes)) = some (some (.agg #[.int .u32 0, .int .i64 0]), 2, 16) := by kernel_rfl
theorem infoPr_at : ∃ i, Try.prog.info? 25 = some i ∧ i.zero = some (.agg #[.int .u32 0, .int .i64 0]) ∧ i.size = 2 ∧ i.bytes = 16 := by
  have h := infoPr
  cases hq : Try.prog.info? 25 with
  | none => rw [hq] at h; cases h
  | some i =>
    rw [hq] at h
    simp at h
    exact ⟨i, rfl, h.1, h.2.1, h.2.2⟩

/-- append of a list to an own one. -/
theorem append_pref (w : World) (ty : TypeId) (B : Nat) (v u : Value) (A L : List (Nat × Int)) (hv : OwnP w B v A) (hu : Sees w u L) (hB : B ≤ w.heap.size) (hbig : (A.length + L.length) * 16 ≤ 140737488355328) :
    ∃ v' w', (Builtin.append_ #[26, 26] ty #[v, u]).run Try.prog w = .ok v' w' ∧ OwnP w' B v' (A ++ L) ∧ w.grownBy w' v.ownBlock := by
  obtain ⟨i0, hi0, hz0, hz1, hz2⟩ := infoPr_at
  obtain ⟨ao, cap, rfl, h1, h2, h3⟩ := hu
  by_cases hL : L.length = 0
  · have : L = [] := List.eq_nil_of_length_eq_zero hL
    subst this
    rw [List.append_nil]
    refine ⟨v, w, ?_, hv, grown_refl _ _⟩
    obtain ⟨a, c, rfl, k1, k2⟩ := hv.shape
    cases a <;> cases ao <;> simp [Builtin.append_, run_underlying u26, sizeOf, typeInfo, hi0, Builtin.lenOf, Builtin.firstCells, loadCells, loadCellsFrom, storeCells, k1]
  · obtain ⟨g, off, e, hg, -⟩ := h3 0 (by omega)
    subst e
    have hsrc : ∀ j u, (pc L)[j]? = some u → w.cell? ((⟨g, off, none⟩ : Addr).add j) = some u := fun j u hj => by
      have hjl := (List.getElem?_eq_some_iff.1 hj).1
      rw [pc_len] at hjl
      obtain ⟨g', off', e, -, c0, c1⟩ := h3 (j / 2) (by omega)
      simp only [Option.some.injEq, Addr.mk.injEq, and_true] at e
      obtain ⟨rfl, rfl⟩ := e
      obtain ⟨e1, e2⟩ := pc_at L (j / 2) _ (List.getElem?_eq_getElem (by omega))
      rw [Addr.add_lit]
      rcases Nat.mod_two_eq_zero_or_one j with hm | hm
      · rw [show j / 2 * 2 = j by omega] at c0 e1
        rw [e1] at hj
        rw [← hj]; exact c0
      · rw [show j / 2 * 2 + 1 = j by omega] at e2
        rw [show off + j / 2 * 2 + 1 = off + j by omega] at c1
        rw [e2] at hj
        rw [← hj]; exact c1
    obtain ⟨v', w', hr, h5, h6, -⟩ := run_append_own (P := Try.prog) w B 26 ty 25 i0 _ 2 16 u26 hi0 hz0 hz1 hz2 rfl (by decide) v A.length (pc A) hv ⟨g, off, none⟩ L.length cap (pc L) (pc_len L) hsrc (pc_one L) (by unfold maxLen; omega) (by omega) hB
    refine ⟨v', w', hr, ?_, h6⟩
    unfold OwnP
    rw [List.length_append, pc_append]
    exact h5
end Go.Proofs.Ytahoileampdnkaa
