import Derived.Test.YtdoeebbcieiimaaFO
import Derived.Test.YtdoeebbcieiimaaFJ
import Derived.Test.YtdoeebbcieiimaaFH
namespace Go.Proofs.Ytdoeebbcieiimaa
open Go.ChangeShapes Go.WideShapes Go.ChangeAt Go.RowKit
set_option maxHeartbeats 4000000
set_option maxRecDepth 100000

def Z51 : Array Value := #[.int .u8 0, .int .u16 0, .bool false, .bool false, .int .i64 0, .int .u8 0, .int .u8 0, .int .u32 0, .int .u32 0, .slice none 0 0, .slice none 0 0, .int .i64 0]
def ctCells (h : Hd) (vo vb : Value) (m : Int) : Array Value := (pkCells h vo vb).push (.int .i64 m)
theorem sz51 : (Try.prog.info? 51).map (·.size) = some 12 := by kernel_rfl
theorem und51 : ∃ fs, Try.prog.underlying 51 = some (.struct fs) := ⟨_, Try.underlying51⟩

theorem ct_pk {u : World} {n : Nat} {h : Hd} {vo vb : Value} {m : Int} {t : TypeId} (hb : u.heap[n]? = some (.cells (ctCells h vo vb m) t)) : (Instr.loadAt 29 (.pointer (some ⟨n, 0, none⟩))).run Try.prog u = .ok (.agg (pkCells h vo vb)) u := by
  obtain ⟨fs, hu⟩ := und29
  refine run_loadAt_mid u n 0 29 (pkCells h vo vb).toList (.struct fs) (fun j v hv => ?_) hu rfl (by rw [sz29]; rfl)
  have hj : j < 11 := (List.getElem?_eq_some_iff.1 hv).1
  rw [Nat.zero_add, cell_of_row u _ _ _ _ _ hb, ← hv, Array.getElem?_toList]
  unfold ctCells
  rw [Array.getElem?_push_lt hj]
  exact (Array.getElem?_eq_getElem hj).symm

theorem ct_at {u : World} {n : Nat} {h : Hd} {vo vb : Value} {m : Int} {t : TypeId} (hb : u.heap[n]? = some (.cells (ctCells h vo vb m) t)) : u.cell? ⟨n, 11, none⟩ = some (.int .i64 m) := by
  rw [cell_of_row u _ _ _ _ _ hb]; rfl

theorem SeesCt.shape {w : World} {v : Value} {Cs : List CutD} (h : SeesCt w v Cs) : ∃ ao n cap, v = .slice ao n cap ∧ Hid (n = Cs.length) ∧ n ≤ cap ∧ cap ≤ maxLen := by
  obtain ⟨ao, cap, rfl, h1, h2, _⟩ := h
  exact ⟨ao, _, cap, rfl, rfl, h1, h2⟩

theorem SeesCt.at {w : World} {ao : Option Addr} {n cap : Nat} {Cs : List CutD} (h : SeesCt w (.slice ao n cap) Cs) (i : Nat) (hi : i < n) :
    ∃ (g off : Nat) (c : CutD), ao = some ⟨g, off, none⟩ ∧ g < w.heap.size ∧ (∀ u : World, Below w.heap.size w u → (Instr.loadAt 51 (.pointer (some ⟨g, off + i * 12, none⟩))).run Try.prog u = .ok (.agg (ctCells c.h c.vo c.vb c.m)) u) ∧ c ∈ Cs := by
  obtain ⟨ao', cap', hv, h1, h2, h3⟩ := h
  simp at hv
  obtain ⟨rfl, hn, rfl⟩ := hv
  have hi' : i < Cs.length := by omega
  obtain ⟨g, off, ha, hg, hc⟩ := h3 i hi'
  refine ⟨g, off, Cs[i], ha, hg, fun u hu => ?_, List.getElem_mem hi'⟩
  obtain ⟨fs, hu51⟩ := und51
  refine run_loadAt_mid u g (off + i * 12) 51 (ctCells Cs[i].h Cs[i].vo Cs[i].vb Cs[i].m).toList (.struct fs) (fun j v hv => ?_) hu51 rfl (by rw [sz51]; rfl)
  rw [hu.cell (p := ⟨g, _, none⟩) hg]
  refine hc j v ?_
  rw [← hv]
  simp [CutD.cells, ctCells]

theorem all_ct (h : Hd) (ao : Option Addr) (n c : Nat) (ab : Option Addr) (k d : Nat) (m : Int) : (ctCells h (.slice ao n c) (.slice ab k d) m).all (·.oneCell') = true := by simp [ctCells, pkCells, Value.oneCell']

theorem splits_walk (v : Value) (Cs : List CutD) (w : World) (hs : SeesCt w v Cs) (ho : ∀ o ∈ Cs, o.Ok w) :
    Calls Try.prog 5 #[v] w fun e w' => e = .returned (.bool true) ∧ Below w.heap.size w w' := by
  obtain ⟨av, n, cv, rfl, HN, hn1, hn2⟩ := hs.shape
  unfold maxLen at hn2
  have HS := hid hs
  have HO := hid ho
  clear hs ho
  go_enter Try.func5, Try.ntmps5
  go_wp2_with fail
  go_loopw [3] (fun i wv => ∃ (k : Nat) (wr : World), wr = wv ∧ i = .int .i64 (k : Int) ∧ k ≤ n ∧ Hid (Below w.heap.size w wr)) (fun i _ => n - (intOf i).toNat)
  case atStart => exact ⟨0, _, rfl, rfl, by omega, Below.refl _ _⟩
  case round =>
    obtain ⟨k, wr, rfl, rfl, hk, HB⟩ := hrel
    by_cases hlt : k < n
    · obtain ⟨g, off, c, rfl, hg, hld, hc⟩ := HS.out.at k hlt
      have hok := HO.out c hc
      obtain ⟨h, vo, vb, B, m⟩ := c
      simp only at hld hok
      have HLD := hid (hld _ HB.out)
      have hb1 : (0 : Int) ≤ (k : Int) := by omega
      have hb2 : (k : Int) < (n : Int) := by omega
      have hlo : h.opts.length ≤ 140737488355328 := by have := hok.lo; unfold reachBytes at this; simp only at this; omega
      have hlb : B.length ≤ 140737488355328 := by have := hok.lb; unfold reachBytes at this; simp only at this; omega
      have hmlo := hok.mlo
      have hmhi := hok.mhi
      have HOK := hid hok
      simp only at hmlo hmhi
      obtain ⟨ao, no, co, rfl, HNO, _, _⟩ := hok.vo.shape
      obtain ⟨ab, nb, cb, rfl, HNB, _, _⟩ := hok.vb.shape
      clear hld hok hc
      obtain ⟨ct, hct⟩ : ∃ ct, ct = ctCells h (.slice ao no co) (.slice ab nb cb) m := ⟨_, rfl⟩
      rw [← hct] at HLD
      have HCT := hid hct
      have HALL : Hid (ct.all (·.oneCell') = true) := by unfold Hid; rw [hct]; exact all_ct _ _ _ _ _ _ _ _
      have HSZ : Hid (ct.size = 12) := by unfold Hid; rw [hct]; rfl
      have HZ : Hid ((wr.alloc (.cells Z51 51)).heap[wr.heap.size]? = some (.cells Z51 51)) := heap_alloc_new wr _
      clear hct
      go_wp2_with (first | (refine wpList_ld 51 ⟨g, off + k * 12, none⟩ (.tmp 19) rfl rfl HLD.out rfl ?_) | (refine wpList_st rfl 51 (.tmp 4) (.tmp 20) rfl wr.heap.size ct rfl rfl 51 Z51 HZ.out (by rw [HSZ.out]; exact sz51) (by rw [HSZ.out]; rfl) HALL.out ?_) | fail)
      intro w2 hk2 hbut2
      rw [HCT.out] at hk2
      have HB2 : Hid (Below wr.heap.size wr w2) := hbut2.below ((Below.refl _ _).alloc (Nat.le_refl _) _) (by simp) (Nat.le_refl _)
      have HS2 : Hid (wr.heap.size + 1 ≤ w2.heap.size) := by have := hbut2.size; unfold Hid; simpa using this
      have HK2 := hid hk2
      have HBW2 : Hid (Below w.heap.size w w2) := HB.out.trans (HB2.out.mono HB.out.size)
      have HLP : Hid (∀ u, Below w2.heap.size w2 u → (Instr.loadAt 29 (.pointer (some ⟨wr.heap.size, 0, none⟩))).run Try.prog u = .ok (.agg (pkCells h (.slice ao no co) (.slice ab nb cb))) u) := fun u hu => ct_pk (below_keeps hu HK2.out (by have := HS2.out; omega))
      have HCM : Hid (∀ u, Below w2.heap.size w2 u → u.cell? ⟨wr.heap.size, 11, none⟩ = some (.int .i64 m)) := fun u hu => ct_at (below_keeps hu HK2.out (by have := HS2.out; omega))
      have HL2 := hid (HLP.out _ (Below.refl _ _))
      have HCP := hid (lcopied_any h _ _ B w2 (HOK.out.vo.below HBW2.out) (HOK.out.vb.below HBW2.out) hlo hlb)
      have HSP : Hid (∀ u vo' vb', Below w.heap.size w u → SeesB u vo' h.opts → SeesB u vb' B → Calls Try.prog 10 #[.agg (pkCells h vo' vb'), .int .i64 m] u fun e w' => ∃ v', e = .returned (.tuple #[v', .int .i64 (splitL h B m).2]) ∧ PkRow w' u.heap.size v' (splitL h B m).1 ∧ Below u.heap.size u w') := fun u vo' vb' hu h1 h2 => split_code h vo' vb' B m u HOK.out.h h1 h2 hlo hlb hmlo hmhi
      have HSR : Hid (∀ u, Below w.heap.size w u → Calls Try.prog 19 #[.agg (pkCells h (.slice ao no co) (.slice ab nb cb)), .int .i64 m] u fun e w' => ∃ v', e = .returned (.tuple #[v', .int .i64 (splitL h B m).2]) ∧ PkRow w' u.heap.size v' (splitL h B m).1 ∧ Below u.heap.size u w') := fun u hu => split_ref h _ _ B m u HOK.out.h (HOK.out.vo.below hu) (HOK.out.vb.below hu) hlb hmhi
      have HEQ : Hid (∀ u vo' vb', Below w.heap.size w u → SeesB u vo' h.opts → SeesB u vb' B → Calls Try.prog 13 #[.agg (pkCells h vo' vb'), .agg (pkCells h (.slice ao no co) (.slice ab nb cb))] u fun e w' => e = .returned (.bool true) ∧ Below u.heap.size u w') := fun u vo' vb' hu h1 h2 => packets_same h B vo' _ vb' _ u h1 (HOK.out.vo.below hu) h2 (HOK.out.vb.below hu)
      have HBY : Hid ((∀ x ∈ h.opts, x < 256) ∧ ∀ x ∈ B, x < 256) := ⟨HOK.out.vo.bytes, HOK.out.vb.bytes⟩
      obtain ⟨cp, hcp⟩ : ∃ cp, cp = pkCells h (.slice ao no co) (.slice ab nb cb) := ⟨_, rfl⟩
      rw [← hcp] at HLP HL2 HCP HSR HEQ
      generalize splitL h B m = R at *
      obtain ⟨Rl, Re⟩ := R
      simp only at HSP HSR
      clear hcp hk2 hbut2 HLD
      go_wp2_with (first | (refine wpList_ld 29 ⟨wr.heap.size, 0, none⟩ (.tmp 21) rfl rfl HL2.out rfl ?_) | fail)
      refine HCP.out.mono ?_
      rintro _ w3 ⟨vo3, vb3, rfl, ho3, hob3, hb3⟩
      obtain ⟨a3, c3, rfl⟩ := ho3.shape
      obtain ⟨a3', c3', rfl⟩ := hob3.shape
      have HB3 := hid hb3
      have HZ3 : Hid ((w3.alloc (.cells Z29 29)).heap[w3.heap.size]? = some (.cells Z29 29)) := heap_alloc_new w3 _
      have HSO3 := hid (ho3.sees HBY.out.1)
      have HSB3 := hid (hob3.sees HBY.out.2)
      obtain ⟨cq, hcq⟩ : ∃ cq, cq = pkCells h (.slice a3 h.opts.length c3) (.slice a3' B.length c3') := ⟨_, rfl⟩
      have HCQ := hid hcq
      have HALQ : Hid (cq.all (·.oneCell') = true) := by unfold Hid; rw [hcq]; exact all_pk _ _ _ _ _ _ _
      have HSZQ : Hid (cq.size = 11) := by unfold Hid; rw [hcq]; rfl
      rw [← hcq]
      clear hcq ho3 hob3 hb3 HCP HL2
      go_wp2_with (first | (refine wpList_st rfl 29 (.tmp 5) (.tmp 23) rfl w3.heap.size cq rfl rfl 29 Z29 HZ3.out (by rw [HSZQ.out]; exact sz29) (by rw [HSZQ.out]; rfl) HALQ.out ?_) | fail)
      intro w4 hk4 hbut4
      rw [HCQ.out] at hk4
      have HB4 : Hid (Below w3.heap.size w3 w4) := hbut4.below ((Below.refl _ _).alloc (Nat.le_refl _) _) (by simp) (Nat.le_refl _)
      have HS4 : Hid (w3.heap.size + 1 ≤ w4.heap.size) := by have := hbut4.size; unfold Hid; simpa using this
      have HK4 := hid hk4
      have HLQ : Hid (∀ u, Below w4.heap.size w4 u → (Instr.loadAt 29 (.pointer (some ⟨w3.heap.size, 0, none⟩))).run Try.prog u = .ok (.agg cq) u) := fun u hu => by
        rw [HCQ.out]
        exact pk_load (below_keeps hu HK4.out (by have := HS4.out; omega))
      have HB24 : Hid (Below w2.heap.size w2 w4) := HB3.out.trans (HB4.out.mono HB3.out.size)
      have HBW4 : Hid (Below w.heap.size w w4) := HBW2.out.trans (HB24.out.mono HBW2.out.size)
      have HL4 := hid (HLQ.out _ (Below.refl _ _))
      have d4 := HCM.out _ HB24.out
      have HSP4 := hid (HSP.out w4 _ _ HBW4.out (HSO3.out.below HB4.out) (HSB3.out.below HB4.out))
      rw [← HCQ.out] at HSP4
      clear hk4 hbut4 HZ3 HALQ HSZQ HSP
      go_wp2_with (first | (refine wpList_ld 29 ⟨w3.heap.size, 0, none⟩ (.tmp 5) rfl rfl HL4.out rfl ?_) | fail)
      refine HSP4.out.mono ?_
      rintro _ w5 ⟨v5, rfl, hp5, hb5⟩
      obtain ⟨a5, c5, rfl, q51, q52⟩ := hp5.shape
      have HP5 := hid hp5
      have HB5 := hid hb5
      have HB25 : Hid (Below w2.heap.size w2 w5) := HB24.out.trans (HB5.out.mono HB24.out.size)
      have HBW5 : Hid (Below w.heap.size w w5) := HBW2.out.trans (HB25.out.mono HBW2.out.size)
      have HL5 := hid (HLP.out _ HB25.out)
      have d5 := HCM.out _ HB25.out
      have HSR5 := hid (HSR.out w5 HBW5.out)
      clear hp5 hb5 HL4 d4 HSP4 HSR
      go_wp2_with (first | (refine wpList_ld 29 ⟨wr.heap.size, 0, none⟩ (.tmp 32) rfl rfl HL5.out rfl ?_) | fail)
      refine HSR5.out.mono ?_
      rintro _ w6 ⟨v6, rfl, hp6, hb6⟩
      obtain ⟨a6, c6, rfl, q61, q62⟩ := hp6.shape
      have HP6 := hid hp6
      have HB6 := hid hb6
      have HB26 : Hid (Below w2.heap.size w2 w6) := HB25.out.trans (HB6.out.mono HB25.out.size)
      have HBW6 : Hid (Below w.heap.size w w6) := HBW2.out.trans (HB26.out.mono HBW2.out.size)
      have HB46 : Hid (Below w4.heap.size w4 w6) := HB5.out.trans (HB6.out.mono HB5.out.size)
      have HL6 := hid (HLP.out _ HB26.out)
      have HL6q := hid (HLQ.out _ HB46.out)
      have HEQ6 := hid (HEQ.out w6 _ _ HBW6.out ((HSO3.out.below HB4.out).below HB46.out) ((HSB3.out.below HB4.out).below HB46.out))
      rw [← HCQ.out] at HEQ6
      have hqe : (Re != Re) = false := by simp
      obtain ⟨nl, hnl⟩ : ∃ nl, nl = Rl.length := ⟨_, rfl⟩
      rw [← hnl] at HP5 HP6 q51 q61 ⊢
      have hnl2 : nl ≤ 9223372036854775807 := by unfold maxLen at q52; omega
      have hqn : ((nl : Int) != (nl : Int)) = false := by simp
      clear hp6 hb6 HL5 d5 HSR5 HEQ hnl
      go_wp2_with (first | (refine wpList_ld 29 ⟨w3.heap.size, 0, none⟩ (.tmp 5) rfl rfl HL6q.out rfl ?_) | (refine wpList_ld 29 ⟨wr.heap.size, 0, none⟩ (.tmp 51) rfl rfl HL6.out rfl ?_) | fail)
      refine HEQ6.out.mono ?_
      rintro _ w7 ⟨rfl, hb7⟩
      have HB7 := hid hb7
      have HP57 : Hid (PkRow w7 w4.heap.size (.slice a5 nl c5) Rl) := (HP5.out.below HB6.out).below HB7.out
      have HP67 : Hid (PkRow w7 w5.heap.size (.slice a6 nl c6) Rl) := HP6.out.below HB7.out
      have HBW7 : Hid (Below w.heap.size w w7) := HBW6.out.trans (HB7.out.mono HBW6.out.size)
      clear hb7 HL6 HL6q HEQ6
      go_wp2_with fail
      go_loopw [10] (fun i wv => ∃ (j : Nat) (ws : World), ws = wv ∧ i = .int .i64 (j : Int) ∧ j ≤ nl ∧ Hid (Below w7.heap.size w7 ws)) (fun i _ => nl - (intOf i).toNat)
      case atStart => exact ⟨0, _, rfl, rfl, by omega, Below.refl _ _⟩
      case round =>
        obtain ⟨j, ws, rfl, rfl, hj, HBS⟩ := hrel
        by_cases hlt2 : j < nl
        · obtain ⟨g1, p1, vo1, vb1, rfl, hg1, hx1, HP1⟩ := (HP57.out.below HBS.out).at j hlt2
          obtain ⟨g2, p2, vo2, vb2, rfl, hg2, hx2, HP2⟩ := (HP67.out.below HBS.out).at j hlt2
          obtain rfl : p1 = p2 := by have := HP1.out; rw [HP2.out] at this; exact (Option.some.inj this).symm
          have HQ1 : Hid (∀ x : World, (∃ u : Beh ws, x = u.wd) → (Instr.loadAt 29 (.pointer (some ⟨g1, j * 11, none⟩))).run Try.prog x = .ok (.agg (pkCells p1.1 vo1 vb1)) x) := fun x hx => by obtain ⟨u, rfl⟩ := hx; exact (hx1 _ u.ok).1
          have HQ2 : Hid (∀ x : World, (∃ u : Beh ws, x = u.wd) → (Instr.loadAt 29 (.pointer (some ⟨g2, j * 11, none⟩))).run Try.prog x = .ok (.agg (pkCells p1.1 vo2 vb2)) x) := fun x hx => by obtain ⟨u, rfl⟩ := hx; exact (hx2 _ u.ok).1
          have HES : Hid (∀ u : Beh ws, Calls Try.prog 13 #[.agg (pkCells p1.1 vo1 vb1), .agg (pkCells p1.1 vo2 vb2)] u.wd fun e w' => e = .returned (.bool true) ∧ ∃ u' : Beh ws, w' = u'.wd) := fun u => Calls.beh (packets_same p1.1 p1.2 vo1 vo2 vb1 vb2 u.wd (hx1 _ u.ok).2.1 (hx2 _ u.ok).2.1 (hx1 _ u.ok).2.2 (hx2 _ u.ok).2.2)
          have hj1 : (0 : Int) ≤ (j : Int) := by omega
          have hj2 : (j : Int) < (nl : Int) := by omega
          generalize pkCells p1.1 vo1 vb1 = x1 at *
          generalize pkCells p1.1 vo2 vb2 = x2 at *
          clear hx1 hx2 HP1 HP2
          go_upto_region 13 with fail
          refine wp_region_beh (by kernel_rfl) (by kernel_rfl) ?_
          repeat (first
            | (refine wpQuiet_ld 29 ⟨g1, j * 11, none⟩ (.tmp 64) (by rfl) (by rfl) HQ1.out (by rfl) ?_; simp only [Act.put, List.setIfInBounds_toArray, List.set_cons_zero, List.set_cons_succ])
            | (refine wpQuiet_ld 29 ⟨g2, j * 11, none⟩ (.tmp 68) (by rfl) (by rfl) HQ2.out (by rfl) ?_; simp only [Act.put, List.setIfInBounds_toArray, List.set_cons_zero, List.set_cons_succ])
            | (go_big_quiet_step (first | (go_at_call 13; exact HES.out _) | fail)))
          refine wpQuiet_nil ?_
          rintro _ ⟨u, rfl⟩
          go_wp2_with fail
          go_roundw
          case rel => exact ⟨j + 1, u.wd, rfl, by go_num, by omega, HBS.out.trans (u.ok.mono HBS.out.size)⟩
          case measure => simp [intOf]; omega
        · have HBF : Hid (Below w.heap.size w ws) := HBW7.out.trans (HBS.out.mono HBW7.out.size)
          go_wp2_with fail
          go_roundw
          case rel => exact ⟨k + 1, _, rfl, by go_num, by omega, HBF⟩
          case measure => simp [intOf]; omega
    · go_wp2_with fail
      go_ret
      exact ⟨rfl, HB.out⟩
end Go.Proofs.Ytdoeebbcieiimaa
