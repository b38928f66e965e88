/-
  Own lists of lists; the law's kept.
-/
import Derived.Test.YtahoileampdnkaaMT
namespace Go.Proofs.Ytahoileampdnkaa
open Go.ChangeShapes Go.WideShapes Go.ChangeAt Go.RowKit Ru N Tri
set_option maxHeartbeats 1000000
set_option maxRecDepth 100000

theorem uSS : Try.prog.underlying 81 = some (.slice 26) := by kernel_rfl
theorem infoS : (Try.prog.info? 26).map (fun i => (i.zero, i.size, i.bytes)) = some (some (.slice none 0 0), 1, 24) := by kernel_rfl
theorem infoS_at : ∃ i, Try.prog.info? 26 = some i ∧ i.zero = some (.slice none 0 0) ∧ i.size = 1 ∧ i.bytes = 24 := by
  have h := infoS
  cases hq : Try.prog.info? 26 with
  | none => rw [hq] at h; cases h
  | some i =>
    rw [hq] at h
    simp at h
    exact ⟨i, rfl, h.1, h.2.1, h.2.2⟩

/-- An own list of lists. -/
def OwnS (w : World) (B : Nat) (v : Value) (Vs : List Value) : Prop := w.ownsRow B 26 1 v Vs.length Vs

def AllS (Vs : List Value) : Prop := ∀ u ∈ Vs, ∃ a n c, u = .slice a n c
theorem AllS.one {Vs : List Value} (h : AllS Vs) : ∀ u ∈ Vs, u.oneCell' = true := fun u hu => by
  obtain ⟨a, n, c, rfl⟩ := h u hu
  rfl

theorem OwnS.below {w w' : World} {B : Nat} {v : Value} {Vs : List Value} (h : OwnS w B v Vs) (hb : Below w.heap.size w w') : OwnS w' B v Vs :=
  World.ownsRow.kept (row := none) h ⟨hb.os, hb.tape, hb.output, hb.size, fun k hk _ => hb.block k hk⟩ (by cases hv : v.ownBlock <;> simp)

theorem OwnS.keeps {S : Nat → Prop} {w w' : World} {B : Nat} {v : Value} {Vs : List Value} (h : OwnS w B v Vs) (hb : Keeps S w w') (hn : ∀ k, v.ownBlock = some k → ¬ S k) : OwnS w' B v Vs := by
  refine ⟨h.1, ?_⟩
  rcases h.2 with hn | ⟨g, cap, cur, rfl, hbb, hg, rest⟩
  · exact .inl hn
  · exact .inr ⟨g, cap, cur, rfl, hbb, (hb.block g (Array.getElem?_eq_some_iff.1 hg).1 (hn g rfl)).trans hg, rest⟩

theorem OwnS.shape {w : World} {B : Nat} {v : Value} {Vs : List Value} (h : OwnS w B v Vs) : ∃ a n cap, v = .slice a n cap ∧ Hid (n = Vs.length) ∧ n ≤ cap ∧ cap ≤ 9223372036854775807 := by
  rcases h.2 with ⟨rfl, h0⟩ | ⟨g, cap, cur, rfl, -, -, h1, h2, -⟩
  · exact ⟨none, 0, 0, rfl, h0.symm, Nat.le_refl _, by omega⟩
  · unfold maxLen at h2
    exact ⟨_, Vs.length, cap, rfl, rfl, h1, by omega⟩

theorem OwnS.at {w : World} {B n cap : Nat} {a : Option Addr} {Vs : List Value} (h : OwnS w B (.slice a n cap) Vs) {i : Nat} {x : Value} (hi : Vs[i]? = some x) : ∃ g, a = some ⟨g, 0, none⟩ ∧ B ≤ g ∧ g < w.heap.size ∧ ∀ u : World, u.heap[g]? = w.heap[g]? → u.cell? ⟨g, i, none⟩ = some x := by
  have hl := (List.getElem?_eq_some_iff.1 hi).1
  rcases h.2 with ⟨_, h0⟩ | ⟨g, cap', cur, h0, hb, hg, h1, h2, h3, h4⟩
  · omega
  · simp only [Value.slice.injEq] at h0
    obtain ⟨rfl, -, -⟩ := h0
    refine ⟨g, rfl, hb, (Array.getElem?_eq_some_iff.1 hg).1, fun u hu => ?_⟩
    rw [hg] at hu
    rw [cell_of_row _ _ _ _ _ _ hu, ← Array.getElem?_toList]
    rw [← h4, List.getElem?_take] at hi
    rw [if_pos (by omega)] at hi
    exact hi

/-- Lists are laid behind an own list of lists. -/
theorem append_sl (w : World) (ty : TypeId) (B b m c : Nat) (v : Value) (Vs Us : List Value) (hv : OwnS w B v Vs) (hm : Us.length = m) (hu : ∀ j u, Us[j]? = some u → w.cell? ⟨b, j, none⟩ = some u) (hU : AllS Us) (hB : B ≤ w.heap.size) (hbig : Vs.length + m ≤ 4294967296) :
    ∃ v' w', (Builtin.append_ #[81, 81] ty #[v, .slice (some ⟨b, 0, none⟩) m c]).run Try.prog w = .ok v' w' ∧ OwnS w' B v' (Vs ++ Us) ∧ w.grownBy w' v.ownBlock := by
  obtain ⟨i0, hi0, hz0, hz1, hz2⟩ := infoS_at
  obtain ⟨v', w', hr, h5, h6, -⟩ := run_append_own (P := Try.prog) w B 81 ty 26 i0 _ 1 24 uSS hi0 hz0 hz1 hz2 rfl (by decide) v Vs.length Vs hv ⟨b, 0, none⟩ m c Us (by rw [hm]; omega) (fun j u hj => by rw [Addr.add_lit, Nat.zero_add]; exact hu j u hj) hU.one (by unfold maxLen; omega) (by omega) hB
  refine ⟨v', w', hr, ?_, h6⟩
  unfold OwnS
  rw [List.length_append, hm]
  exact h5

theorem ownS_ne_p {w : World} {B B' k : Nat} {v v' : Value} {Vs : List Value} {L : List (Nat × Int)} (h : OwnS w B v Vs) (h' : OwnP w B' v' L) (hk : v.ownBlock = some k) : v'.ownBlock ≠ some k := by
  intro e
  rcases h.2 with ⟨rfl, _⟩ | ⟨g', cap', cur', rfl, _, hgg, _⟩
  · cases hk
  · rcases h'.2 with ⟨rfl, _⟩ | ⟨g2, cap2, cur2, rfl, _, hg2, _⟩
    · cases e
    · simp [Value.ownBlock] at hk e
      rw [hk] at hgg
      rw [e, hgg] at hg2
      simp at hg2

/-- A book: lists, and what they must be. -/
def SeesH (w : World) (v : Value) (Hs : List (Value × Value × List (Nat × Int))) : Prop :=
  ∃ ao cap, v = .slice ao Hs.length cap ∧ Hs.length ≤ cap ∧ cap ≤ maxLen ∧
    ∀ j (h : j < Hs.length), ∃ g off, ao = some ⟨g, off, none⟩ ∧ g < w.heap.size ∧ w.cell? ⟨g, off + j * 2, none⟩ = some Hs[j].1 ∧ w.cell? ⟨g, off + j * 2 + 1, none⟩ = some Hs[j].2.1 ∧ Sees w Hs[j].1 Hs[j].2.2 ∧ Sees w Hs[j].2.1 Hs[j].2.2

theorem kept_any (v : Value) (Hs : List (Value × Value × List (Nat × Int))) (w : World) (hv : SeesH w v Hs) :
    Calls Try.prog 25 #[v] w fun e w' => e = .returned (.bool true) ∧ Below w.heap.size w w' := by
  obtain ⟨ao, cap, rfl, h1, h2, h3⟩ := hv
  obtain ⟨n, HN⟩ : ∃ n, Hid (n = Hs.length) := ⟨_, rfl⟩
  unfold maxLen at h2
  rw [← HN.out] at h1 ⊢
  have H3 := hid h3
  clear h3
  go_enter Try.func25, Try.ntmps25
  go_upto_region 2 with fail
  go_loopw [3] (fun i wr => ∃ j : Nat, i = .int .i64 (j : Int) ∧ j ≤ n ∧ Hid (Below w.heap.size w wr)) (fun i _ => n - (intOf i).toNat)
  case atStart => exact ⟨0, rfl, Nat.zero_le _, Below.refl _ _⟩
  case round =>
    obtain ⟨j, rfl, hj, HB⟩ := hrel
    by_cases hjn : j < n
    · obtain ⟨g, off, e, hg, c0, c1, s0, s1⟩ := H3.out j (by have := HN.out; omega)
      subst e
      generalize Hs[j] = hh at *
      obtain ⟨l, m, C⟩ := hh
      simp only at c0 c1 s0 s1
      obtain ⟨al, nl, cl, rfl, -⟩ := s0.shape
      obtain ⟨am, nm, cm, rfl, -⟩ := s1.shape
      have hcr : ∀ t : Beh wr, Below w.heap.size w t.wd := fun t => HB.out.trans (t.ok.mono HB.out.size)
      have y0 : ∀ t : Beh wr, t.wd.cell? ⟨g, off + j * 2, none⟩ = some (.slice al nl cl) := fun t => ((hcr t).cell (p := ⟨g, _, none⟩) hg).trans c0
      have y1 : ∀ t : Beh wr, t.wd.cell? ⟨g, off + j * 2 + 1, none⟩ = some (.slice am nm cm) := fun t => ((hcr t).cell (p := ⟨g, _, none⟩) hg).trans c1
      have HSM : ∀ t : Beh wr, Hid (Calls Try.prog 18 #[.slice al nl cl, .slice am nm cm] t.wd fun e w' => e = .returned (.bool true) ∧ ∃ t' : Beh wr, w' = t'.wd) := fun t => Calls.beh (same_self _ _ C t.wd (s0.below (hcr t)) (s1.below (hcr t)))
      have b1 : (j : Int) < (n : Int) := int_lt hjn
      have b2 : (0 : Int) ≤ (j : Int) := by omega
      have b3 : decide ((j : Int) < 0) = false := by simp
      clear c0 c1 s0 s1 hg hcr
      go_upto_region 4 with fail
      refine wp_region_beh (by kernel_rfl) (by kernel_rfl) ?_
      repeat (go_big_quiet_step (first | (go_at_call 18; exact (HSM _).out)))
      refine wpQuiet_nil ?_
      rintro _ ⟨t, rfl⟩
      have HB2 : Hid (Below w.heap.size w t.wd) := HB.out.trans (t.ok.mono HB.out.size)
      clear y0 y1 HSM
      go_wp2_with fail
      go_roundw
      case rel => exact ⟨j + 1, by go_num, hjn, HB2⟩
      case measure => simp [intOf]; omega
    · have b1 : ¬ (j : Int) < (n : Int) := int_nlt hjn
      go_wp2_with fail
      go_ret
      exact ⟨rfl, HB.out⟩
end Go.Proofs.Ytahoileampdnkaa
