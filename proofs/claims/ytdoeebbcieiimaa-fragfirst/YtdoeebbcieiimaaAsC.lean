/-
  news: the steps of a piece that are not covered yet, one by one.
-/
import Derived.Test.YtdoeebbcieiimaaAsB
namespace Go.Proofs.Ytdoeebbcieiimaa
open Go.ChangeShapes Go.WideShapes Go.ChangeAt Go.RowKit Go.Shelf
attribute [local go_sem] Oper.semAt_some
set_option maxHeartbeats 4000000
set_option maxRecDepth 100000

/-- How many steps a body of n bytes has; where step i ends. -/
def stepsN (n : Nat) : Nat := (n + 7) / 8
def stepE (n i : Nat) : Nat := min (8 * i + 8) n
def partA (ab : Option Addr) (cb i : Nat) : Option Addr := if cb = 8 * i then ab else ab.map (·.add (8 * i))
def partV (ab : Option Addr) (nb cb i : Nat) : Value := .slice (partA ab cb i) (stepE nb i - 8 * i) (cb - 8 * i)
def partL (B : List Nat) (i : Nat) : List Nat := (B.take (stepE B.length i)).drop (8 * i)

/-- Which steps are new. -/
def newsL (hv : List Bool) (o n : Nat) : List Nat := (List.range (stepsN n)).filter fun i => !coversL hv (o + 8 * i)

theorem part_sees {w : World} {ab : Option Addr} {nb cb : Nat} {B : List Nat} (h : SeesB w (.slice ab nb cb) B) (i : Nat) (hi : i < stepsN nb) :
    SeesB w (partV ab nb cb i) (partL B i) ∧ ∀ (e f : Int), e = ((8 * i : Nat) : Int) → f = ((stepE nb i : Nat) : Int) → ∀ u : World, (Instr.sliceAt 22 (.slice ab nb cb) (some (.int .i64 e)) (some (.int .i64 f)) none).run Try.prog u = .ok (partV ab nb cb i) u := by
  have hn : nb = B.length := by obtain ⟨_, _, hv, _⟩ := h; simp at hv; exact hv.2.1
  have h1 : 8 * i ≤ stepE nb i := by unfold stepsN at hi; unfold stepE; omega
  have h2 : stepE nb i ≤ nb := by unfold stepE; omega
  have hT : SeesB w (.slice ab (stepE nb i) cb) (B.take (stepE nb i)) := by
    obtain ⟨ao1, cap1, hv, q1, q2, q3⟩ := h
    simp at hv
    obtain ⟨rfl, _, rfl⟩ := hv
    refine ⟨ab, cb, by rw [List.length_take]; congr 1; omega, ⟨by rw [List.length_take]; omega, q1.2⟩, q2, fun j hj => ?_⟩
    rw [List.length_take] at hj
    obtain ⟨g, off, ha, hg, hc, hb⟩ := q3 j (by omega)
    exact ⟨g, off, ha, hg, by rw [List.getElem_take]; exact hc, by rw [List.getElem_take]; exact hb⟩
  have hcap : nb ≤ cb := by obtain ⟨_, _, hv, q1, _⟩ := h; simp at hv; obtain ⟨rfl, rfl, rfl⟩ := hv; omega
  refine ⟨?_, fun e f he hf u => ?_⟩
  · have := hT.lowS (8 * i) h1
    unfold partV partA partL
    rw [← hn]
    exact this
  · subst he hf
    have hu : Try.prog.underlying 22 = some (.slice (Try.prog.elem 22)) := by kernel_rfl
    have hsz : (sizeOf (Try.prog.elem 22)).run Try.prog u = .ok 1 u := by kernel_rfl
    rw [run_sliceAt_slice (h := hu), run_slice_lh (ht := hu) (h0 := by omega) (h1 := by omega) (h2 := by omega), hsz]
    have e1 : (8 * (i : Int)).toNat = 8 * i := by omega
    simp [Result.andThen, sliced, partV, partA, e1]

/-- What the iterator reads: the piece, the datagram, and which of its steps are covered. -/
structure NwF (o nb : Nat) (pbx dbx b : Nat) (h : Hd) (vo : Value) (ab : Option Addr) (cb : Nat) (hv0 : List Bool) (k : Nat) (W : World) : Prop where
  pb : W.heap[pbx]? = some (.cells (pkCells h vo (.slice ab nb cb)) 29)
  db : W.cell? ⟨dbx, 0, none⟩ = some (.pointer (some ⟨b, 0, none⟩))
  dg : ∃ d do_ dv dh, DgAt W b d do_ dv dh ∧ ∀ i, i < stepsN nb → i ∉ (newsL hv0 o nb).take k → coversL d.hv (o + 8 * i) = coversL hv0 (o + 8 * i)

theorem news_take {hv : List Bool} {o n i : Nat} (hi : i ≤ stepsN n) : (newsL hv o n).take (((List.range i).filter fun i => !coversL hv (o + 8 * i)).length) = (List.range i).filter fun i => !coversL hv (o + 8 * i) := by
  unfold newsL
  obtain ⟨t, ht⟩ : ∃ t, List.range (stepsN n) = List.range i ++ t := ⟨(List.range (stepsN n)).drop i, by
    conv => lhs; rw [← List.take_append_drop i (List.range (stepsN n))]
    rw [List.take_range, Nat.min_eq_left hi]⟩
  rw [ht, List.filter_append, List.take_left]

theorem news_at {hv : List Bool} {o n i : Nat} (hi : i < stepsN n) (hc : coversL hv (o + 8 * i) = false) : (newsL hv o n)[((List.range i).filter fun i => !coversL hv (o + 8 * i)).length]? = some i := by
  have h1 := news_take (hv := hv) (o := o) (n := n) (i := i + 1) hi
  rw [List.range_succ, List.filter_append] at h1
  have e : List.filter (fun i => !coversL hv (o + 8 * i)) [i] = [i] := by simp [hc]
  rw [e, List.length_append] at h1
  have h2 : ((newsL hv o n).take (((List.range i).filter fun i => !coversL hv (o + 8 * i)).length + [i].length))[((List.range i).filter fun i => !coversL hv (o + 8 * i)).length]? = some i := by
    rw [h1, List.getElem?_append_right (Nat.le_refl _)]; simp
  rw [List.getElem?_take_of_lt (by simp)] at h2
  exact h2

theorem not_mem_news {hv : List Bool} {o i : Nat} : i ∉ (List.range i).filter fun i => !coversL hv (o + 8 * i) := by
  intro h
  have := (List.mem_filter.1 h).1
  simp at this

theorem news_gives (n : Nat) (hn : 2 ≤ n) (o pbx dbx b : Nat) (h : Hd) (vo : Value) (ab : Option Addr) (nb cb : Nat) (B : List Nat) (w : World) (hv0 : List Bool) (hsb : SeesB w (.slice ab nb cb) B) (ho : h.off = (o : Int)) (ho1 : o ≤ 65535) (hnb : nb ≤ 65535) :
    Gives Fence.wide n Try.prog 91 #[.pointer (some ⟨pbx, 0, none⟩), .pointer (some ⟨dbx, 0, none⟩)] (fun i => #[.int .i64 ((o : Int) + ((8 * i : Nat) : Int)), partV ab nb cb i]) (newsL hv0 o nb) (NwF o nb pbx dbx b h vo ab cb hv0) := by
  intro l J W hJ hJF hY h0
  refine callsIn_of_wp Try.func91 rfl trivial ?_ rfl
  simp only [Try.ntmps91, List.size_toArray, List.length_cons, List.length_nil, Nat.reduceAdd, Nat.reduceSub, Array.replicate_succ, Array.replicate_zero, List.push_toArray, List.append_toArray, List.nil_append, List.cons_append]
  gi_wp2
  gi_loopw [4] (fun p wr => ∃ (i : Nat), p = .int .i64 ((8 * i : Nat) : Int) ∧ i ≤ stepsN nb ∧ J (((List.range i).filter fun i => !coversL hv0 (o + 8 * i)).length) wr) (fun p _ => stepsN nb * 8 - (intOf p).toNat)
  case atStart => exact ⟨0, rfl, by omega, h0⟩
  case round =>
    obtain ⟨i, rfl, hi, hJi⟩ := hrel
    have hFx := hJF _ _ hJi
    obtain ⟨d, do_, dv, dh, hdg, hcov⟩ := hFx.dg
    have c10 : wr.cell? ⟨pbx, 10, none⟩ = some (.slice ab nb cb) := pk_at hFx.pb 10 (by omega)
    have c4 : wr.cell? ⟨pbx, 4, none⟩ = some (.int .i64 (o : Int)) := by rw [← ho]; exact pk_at hFx.pb 4 (by omega)
    have cd := hFx.db
    obtain ⟨f, hf⟩ : ∃ f, f = 8 * i := ⟨_, rfl⟩
    have HF := hid hf
    have hf2 : f ≤ 65542 := by unfold stepsN at hi; omega
    by_cases hlt : f < nb
    · have hin : i < stepsN nb := by unfold stepsN; omega
      have hcv := hcov i hin (by rw [news_take hi]; exact not_mem_news)
      have HC := covers_any b d do_ dv dh (o + f) wr hdg (by omega)
      rw [hf, hcv, ← hf] at HC
      rw [show (((o + f : Nat)) : Int) = (o : Int) + (f : Int) by omega] at HC
      have HCI := hid (callsIn_wide (n := n - 1).2 HC)
      rw [← hf]
      have hb1 : (f : Int) < (nb : Int) := by omega
      cases hcc : coversL hv0 (o + f) with
      | true =>
        rw [hcc] at HCI
        have hcc' : coversL hv0 (o + 8 * i) = true := by rw [← hf]; exact hcc
        have HN : Hid (((List.range (i + 1)).filter fun i => !coversL hv0 (o + 8 * i)).length = ((List.range i).filter fun i => !coversL hv0 (o + 8 * i)).length) := by
          unfold Hid; rw [List.range_succ, List.filter_append]; simp [hcc']
        have HIN := hid hin
        clear HC hcv hdg hcov hcc hcc' hf hY hJ
        gi_wp2
        refine ⟨trivial, fun _ => by omega, HCI.out.mono ?_⟩
        rintro _ _ ⟨rfl, ew⟩
        obtain rfl := ew.symm
        gi_wp2
        refine ⟨fun _ h => (by cases h), ?_⟩
        gi_wp2
        go_roundw
        case rel => exact ⟨i + 1, by have := HF.out; go_num, by have := HIN.out; omega, by rw [HN.out]; exact hJi⟩
        case measure => have h1 := HF.out; have h2 := HIN.out; simp [intOf]; omega
      | false =>
        rw [hcc] at HCI
        have hcc' : coversL hv0 (o + 8 * i) = false := by rw [← hf]; exact hcc
        have HN : Hid (((List.range (i + 1)).filter fun i => !coversL hv0 (o + 8 * i)).length = ((List.range i).filter fun i => !coversL hv0 (o + 8 * i)).length + 1) := by
          unfold Hid; rw [List.range_succ, List.filter_append]; simp [hcc']
        obtain ⟨fn, tmps, assign, body, hy, hR⟩ := hY _ i wr hJi (news_at hin hcc')
        rw [← hf] at hy
        have HIN := hid hin
        by_cases hm8 : f + 8 ≤ nb
        · have hcut := (part_sees hsb i hin).2 (f : Int) ((f : Int) + 8) (by rw [hf]) (by unfold stepE; omega)
          have q1 : ¬ (nb : Int) < (f : Int) + 8 := by omega
          have q2 : (f : Int) + 8 ≤ (nb : Int) := by omega
          generalize partV ab nb cb i = pv at *
          clear HC hcv hdg hcov hcc hcc' hf hY hJ
          gi_wp2
          refine ⟨trivial, fun _ => by omega, HCI.out.mono ?_⟩
          rintro _ _ ⟨rfl, ew⟩
          obtain rfl := ew.symm
          gi_wp2
          refine ⟨fun _ => by omega, hR.mono ?_⟩
          rintro _ W3 ⟨rfl, hJ3⟩
          have HJ3 := hid hJ3
          clear hJ3 hy hR
          gi_wp2
          go_roundw
          case rel => exact ⟨i + 1, by have := HF.out; go_num, by have := HIN.out; omega, by rw [HN.out]; exact HJ3.out⟩
          case measure => have h1 := HF.out; have h2 := HIN.out; simp [intOf]; omega
        · have hcut := (part_sees hsb i hin).2 (f : Int) (nb : Int) (by rw [hf]) (by unfold stepE; omega)
          have q1 : (nb : Int) < (f : Int) + 8 := by omega
          have q2 : ¬ (f : Int) + 8 ≤ (nb : Int) := by omega
          generalize partV ab nb cb i = pv at *
          clear HC hcv hdg hcov hcc hcc' hf hY hJ
          gi_wp2
          refine ⟨trivial, fun _ => by omega, HCI.out.mono ?_⟩
          rintro _ _ ⟨rfl, ew⟩
          obtain rfl := ew.symm
          gi_wp2
          refine ⟨fun _ => by omega, hR.mono ?_⟩
          rintro _ W3 ⟨rfl, hJ3⟩
          have HJ3 := hid hJ3
          clear hJ3 hy hR
          gi_wp2
          go_roundw
          case rel => exact ⟨i + 1, by have := HF.out; go_num, by have := HIN.out; omega, by rw [HN.out]; exact HJ3.out⟩
          case measure => have h1 := HF.out; have h2 := HIN.out; simp [intOf]; omega
    · have HE : Hid ((newsL hv0 o nb).length = ((List.range i).filter fun i => !coversL hv0 (o + 8 * i)).length) := by
        have : i = stepsN nb := by unfold stepsN at hi ⊢; omega
        unfold Hid; rw [this]; rfl
      rw [← hf]
      have q1 : ¬ (f : Int) < (nb : Int) := by omega
      clear hdg hcov hf hY hJ
      gi_wp2
      go_end0
      exact ⟨⟨_, rfl⟩, by rw [HE.out]; exact hJi⟩
end Go.Proofs.Ytdoeebbcieiimaa
