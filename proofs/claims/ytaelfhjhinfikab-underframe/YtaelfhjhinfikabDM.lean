/-
  The reference: List.
-/
import Derived.Test.YtaelfhjhinfikabDJ
namespace Go.Proofs.Ytaelfhjhinfikab
open Go.ChangeShapes Go.WideShapes Go.ChangeAt Go.RowKit Me
set_option maxHeartbeats 2000000
set_option maxRecDepth 100000


theorem listR_any (w : World) (F : Nat → Prop) (pb m : Nat) (S : List Pk) (h : Rn w pb m S F) :
    Calls Try.prog 31 #[.pointer (some ⟨pb, 0, none⟩)] w fun e w' => ∃ a n c, LsD w w' (.slice a n c) S e := by
  obtain ⟨v, E, hat, hS, hF, hle, hm⟩ := h
  obtain ⟨va, n, cap, rfl, HN, hn1, hn2, -⟩ := hat.fl.shape
  unfold maxLen at hn2
  have hn : n ≤ 4096 := by have := HN.out; rw [hS, List.length_map] at hle; omega
  have HAT := hid hat
  have HSE := hid hS
  clear hat hS hF hle hm
  go_enter Try.func31, Try.ntmps31
  go_upto_region 3 with fail
  go_loopw [3, 4] (fun v i wr => ∃ (j : Nat) (la : Option Addr) (ln lc : Nat), i = .int .i64 (j : Int) ∧ v = .slice la ln lc ∧ j ≤ n ∧ Hid (Below w.heap.size w wr ∧ ∃ E1 : List En, Fl wr (.slice la ln lc) E1 ∧ E1.map En.pk = S.take j ∧ ∀ k, fpF (.slice la ln lc) E1 k → w.heap.size ≤ k)) (fun _ i _ => n - (intOf i).toNat)
  case atStart => exact ⟨0, none, 0, 0, rfl, rfl, Nat.zero_le _, Below.refl _ _, [], Fl.nil _, by simp, fun k hk => by rcases hk with hk | ⟨e, he, _⟩; cases hk; cases he⟩
  case round =>
    obtain ⟨j, la, ln, lc, rfl, rfl, hj, HI⟩ := hrel
    obtain ⟨hbr, E1, hf1, ht1, hnw1⟩ := HI.out
    have hatr := HAT.out.below hbr
    obtain ⟨c1, -, -⟩ := hatr.cellsR
    by_cases hlt : j < n
    · have hlt' : (j : Int) < (n : Int) := int_lt hlt
      have h2 : (0 : Int) ≤ (j : Int) := by omega
      have hjE : j < E.length := by have := HN.out; omega
      obtain ⟨g, rfl, hg, hc⟩ := hatr.fl.at (List.getElem?_eq_getElem hjE)
      obtain ⟨e0, e1, -⟩ := hc wr rfl
      have hmem := List.getElem_mem hjE
      have hown := hatr.fl.own _ hmem
      have hok := hatr.fl.ok _ hmem
      have hsj : S[j]? = some E[j].pk := by rw [HSE.out, List.getElem?_map, List.getElem?_eq_getElem hjE]; rfl
      generalize E[j] = e at *
      obtain ⟨ea, eb, eu⟩ := e
      simp only at e0 e1 hown hok
      obtain ⟨ua, un, uc, rfl, -, -, -⟩ := hown.shape
      have HTW := hid (own_any wr _ ea _ eb (hown.sees hok.2.2) hok.2.1)
      have hE1 : E1.length ≤ 4096 := by
        have := congrArg List.length ht1
        rw [List.length_map, List.length_take] at this
        omega
      have HNX : Hid (∀ (w3 : World) (a3 : Option Addr) (n3 c3 : Nat), OwnB w3 wr.heap.size (.slice a3 n3 c3) eb → Below wr.heap.size wr w3 → ∃ a5 n5 c5 w5, (∀ ty, (Builtin.append_ #[33, 33] ty #[.slice la ln lc, .slice (some ⟨w3.heap.size, 0, none⟩) 1 1]).run Try.prog (w3.alloc (.cells #[.int .u32 (ea : Int), .slice a3 n3 c3] 41)) = .ok (.slice a5 n5 c5) w5) ∧ (Below w.heap.size w w5 ∧ ∃ E1 : List En, Fl w5 (.slice a5 n5 c5) E1 ∧ E1.map En.pk = S.take (j + 1) ∧ ∀ k, fpF (.slice a5 n5 c5) E1 k → w.heap.size ≤ k)) := by
        intro w3 a3 n3 c3 h3 h4
        have hba : Below w3.heap.size w3 (w3.alloc (.cells #[.int .u32 (ea : Int), .slice a3 n3 c3] 41)) := (Below.refl _ _).alloc (Nat.le_refl _) _
        have hk := heap_alloc_new w3 (.cells #[.int .u32 (ea : Int), .slice a3 n3 c3] 41)
        have hf3 := (hf1.below h4).below hba
        have hb4 : Below w.heap.size w (w3.alloc (.cells #[.int .u32 (ea : Int), .slice a3 n3 c3] 41)) := (hbr.trans (h4.mono hbr.size)).trans (hba.mono (Nat.le_trans hbr.size h4.size))
        obtain ⟨v5, w5, hr, hf, hk5, hn5⟩ := append_en (w3.alloc (.cells #[.int .u32 (ea : Int), .slice a3 n3 c3] 41)) 0 _ E1 ⟨ea, eb, .slice a3 n3 c3⟩ w3.heap.size hf3 (by rw [cell_of_row _ _ _ _ _ _ hk]; rfl) (by rw [cell_of_row _ _ _ _ _ _ hk]; rfl) ((h3.below hba).low (Nat.zero_le _)) hok (fun x hx k hk hk2 => by
          have := (h3.lt hk2).1; have := hf1.lt (.inr ⟨x, hx, hk⟩); omega) (by omega)
        obtain ⟨a5, n5, c5, rfl, -⟩ := hf.shape
        refine ⟨a5, n5, c5, w5, fun ty => hr, hk5.below' hb4 (fun k e => hnw1 k (.inl e)) (Nat.le_refl _), _, hf, ?_, fun k hk => ?_⟩
        · rw [List.map_append, ht1, take_snoc hsj]; rfl
        · rcases hk with hk | ⟨x, hx, hk⟩
          · rcases hn5 k hk with h | h
            · exact hnw1 k (.inl h)
            · exact Nat.le_trans hb4.size h
          · rcases List.mem_append.1 hx with hx | hx
            · exact hnw1 k (.inr ⟨x, hx, hk⟩)
            · simp at hx; subst hx
              have := (h3.lt hk).1; have := hbr.size; omega
      clear HI hbr hf1 ht1 hnw1 hatr hjE hg hc hmem hown hok hsj hE1
      go_wp2_with fail
      refine HTW.out.mono ?_
      rintro _ w3 ⟨a3, n3, c3, rfl, ho3, hb3⟩
      obtain ⟨a5, n5, c5, w5, hap, hnx⟩ := HNX.out w3 a3 n3 c3 ho3 hb3
      have HAP := hid hap
      have HN3 := hid hnx
      obtain ⟨wa, HWA⟩ : ∃ wa, Hid (wa = w3.alloc (.cells #[.int .u32 (ea : Int), .slice a3 n3 c3] 41)) := ⟨_, rfl⟩
      rw [← HWA.out] at HAP
      clear HNX ho3 hb3 hnx HTW hap e0 e1 c1
      go_wp2_with (first | (at_builtin; rw [← HWA.out]; refine wpList_append_run _ rfl (.tmp 14) (.tmp 23) 33 33 rfl _ _ rfl rfl (HAP.out _) ?_) | fail)
      go_roundw
      case rel => exact ⟨j + 1, a5, n5, c5, by go_num, rfl, hlt, HN3⟩
      case measure => simp [intOf]; omega
    · have hlt' : ¬ (j : Int) < (n : Int) := int_nlt hlt
      have HFIN : Hid (LsD w wr (.slice la ln lc) S (.returned (.slice la ln lc))) := by
        refine ⟨rfl, hbr, E1, hf1, ?_, hnw1⟩
        have hsl : S.length = n := by rw [HSE.out, List.length_map]; exact HN.out.symm
        rw [ht1, List.take_of_length_le (by omega)]
      clear HI hbr hf1 ht1 hnw1 hatr
      go_wp2_with fail
      go_ret
      exact ⟨_, _, _, HFIN.out⟩
end Go.Proofs.Ytaelfhjhinfikab
