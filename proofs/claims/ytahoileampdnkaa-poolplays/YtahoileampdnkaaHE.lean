/-
  The reference's Taken.
-/
import Derived.Test.YtahoileampdnkaaHD
namespace Go.Proofs.Ytahoileampdnkaa
open Go.ChangeShapes Go.WideShapes Go.ChangeAt Go.RowKit Ru N Tri
set_option maxHeartbeats 2000000
set_option maxRecDepth 100000

def slen : Value → Nat
  | .slice _ n _ => n
  | _ => 0

/-- A list that holds what T holds, rising. -/
structure Rise (S T : List Nat) : Prop where
  up : S.Pairwise (· < ·)
  mem : ∀ n, n ∈ S ↔ n ∈ T
  len : S.length = T.length

theorem up_behind {S : List Nat} (h : S.Pairwise (· < ·)) {j : Nat} (hj : j < S.length) {n : Nat} (hn : n ∈ S) : S[j] < n ↔ n ∈ S.drop (j + 1) := by
  obtain ⟨i, hi, rfl⟩ := List.getElem_of_mem hn
  constructor
  · intro hl
    have hji : j < i := by
      rcases Nat.lt_trichotomy j i with h1 | h1 | h1
      · exact h1
      · subst h1; omega
      · have := List.pairwise_iff_getElem.1 h i j hi hj h1; omega
    refine List.mem_iff_getElem.2 ⟨i - (j + 1), by rw [List.length_drop]; omega, ?_⟩
    rw [List.getElem_drop]
    congr 1
    omega
  · intro hm
    obtain ⟨k, hk, e⟩ := List.getElem_of_mem hm
    rw [List.getElem_drop] at e
    rw [List.length_drop] at hk
    rw [← e]
    exact List.pairwise_iff_getElem.1 h j (j + 1 + k) hj (by omega) (by omega)

/-- The least of those looked at that lie above. -/
def Best (T : List Nat) (La : Int) (i : Nat) (Be : Int) : Prop :=
  (Be = -1 ∧ ∀ n ∈ T.take i, ¬ La < (n : Int)) ∨ ∃ m : Nat, Be = (m : Int) ∧ m ∈ T ∧ La < (m : Int) ∧ ∀ n ∈ T.take i, La < (n : Int) → m ≤ n

theorem Best.skip {T : List Nat} {La Be : Int} {i n : Nat} (h : Best T La i Be) (hn : T[i]? = some n) (hk : La < (n : Int) → ∃ m : Nat, Be = (m : Int) ∧ m ≤ n) : Best T La (i + 1) Be := by
  obtain ⟨hl, he⟩ := List.getElem?_eq_some_iff.1 hn
  have ht : T.take (i + 1) = T.take i ++ [n] := by rw [List.take_succ_eq_append_getElem hl, he]
  rcases h with ⟨h1, h2⟩ | ⟨m, h1, h2, h3, h4⟩
  · left
    refine ⟨h1, fun k hk' => ?_⟩
    rw [ht, List.mem_append, List.mem_singleton] at hk'
    rcases hk' with hk' | rfl
    · exact h2 k hk'
    · intro hla
      obtain ⟨m, h5, -⟩ := hk hla
      omega
  · right
    refine ⟨m, h1, h2, h3, fun k hk' hla => ?_⟩
    rw [ht, List.mem_append, List.mem_singleton] at hk'
    rcases hk' with hk' | rfl
    · exact h4 k hk' hla
    · obtain ⟨m', h5, h6⟩ := hk hla
      omega

theorem Best.new {T : List Nat} {La Be : Int} {i n : Nat} (h : Best T La i Be) (hn : T[i]? = some n) (hla : La < (n : Int)) (hb : Be < 0 ∨ (n : Int) < Be) : Best T La (i + 1) (n : Int) := by
  obtain ⟨hl, he⟩ := List.getElem?_eq_some_iff.1 hn
  have ht : T.take (i + 1) = T.take i ++ [n] := by rw [List.take_succ_eq_append_getElem hl, he]
  refine .inr ⟨n, rfl, List.mem_of_getElem? hn, hla, fun k hk hka => ?_⟩
  rw [ht, List.mem_append, List.mem_singleton] at hk
  rcases hk with hk | rfl
  · rcases h with ⟨h1, h2⟩ | ⟨m, h1, h2, h3, h4⟩
    · exact absurd hka (h2 k hk)
    · have := h4 k hk hka
      omega
  · exact Nat.le_refl _

theorem Best.done {S T : List Nat} {La Be : Int} {i j : Nat} (hr : Rise S T) (hj : j < S.length) (hla : ∀ n ∈ T, La < (n : Int) ↔ n ∈ S.drop j) (hi : T.length ≤ i) (h : Best T La i Be) : Be = (S[j] : Int) := by
  have hs : S[j] ∈ T := (hr.mem _).1 (List.getElem_mem hj)
  have hd : S[j] ∈ S.drop j := List.mem_iff_getElem.2 ⟨0, by rw [List.length_drop]; omega, by rw [List.getElem_drop]; rfl⟩
  have hl := (hla _ hs).2 hd
  rw [Best, List.take_of_length_le hi] at h
  rcases h with ⟨h1, h2⟩ | ⟨m, h1, h2, h3, h4⟩
  · exact absurd hl (h2 _ hs)
  · have h5 := h4 _ hs hl
    have h6 := (hla m h2).1 h3
    obtain ⟨k, hk, e⟩ := List.getElem_of_mem h6
    rw [List.getElem_drop] at e
    rw [List.length_drop] at hk
    rcases Nat.eq_zero_or_pos k with h0 | h0
    · subst h0
      rw [h1, ← e]; rfl
    · have := List.pairwise_iff_getElem.1 hr.up j (j + k) hj (by omega) (by omega)
      omega

theorem takenR (rb x : Nat) (y : Int) (sub lo hi : Nat) (vk vt : Value) (A T S : List Nat) (w : World) (hp : RAt w rb x y sub lo hi vk vt A T) (hr : Rise S T) :
    Calls Try.prog 45 #[.pointer (some ⟨rb, 0, none⟩)] w fun e w' => ∃ v, e = .returned v ∧ OwnP w' w.heap.size v (S.map fun n => (n, (sub : Int))) ∧ Below w.heap.size w w' := by
  obtain ⟨av, nv, cv, rfl, HNV, hv1, hv2⟩ := hp.ot.shape
  have HP := hid hp
  have HR := hid hr
  have HLT := hid hp.lt
  have HBT := hid hp.bt
  have hc : ∀ u : World, Below w.heap.size w u → u.cell? ⟨rb, 2, none⟩ = some (.int .i64 (sub : Int)) ∧ u.cell? ⟨rb, 6, none⟩ = some (.slice av nv cv) := fun u hu => ⟨(HP.out.below hu).cells.2.2.1, (HP.out.below hu).cells.2.2.2.2.2.2.1⟩
  have HNS : Hid (nv = S.length) := by unfold Hid; rw [HNV.out, hr.len]
  obtain ⟨M, HM⟩ : ∃ M : List (Nat × Int), Hid (M = S.map fun n => (n, (sub : Int))) := ⟨_, rfl⟩
  rw [← HM.out]
  have HML : Hid (M.length = nv) := by unfold Hid; rw [HM.out, List.length_map, HNS.out]
  clear hp hr
  go_enter Try.func45, Try.ntmps45
  go_upto_region 3 with fail
  go_loopw [3, 4] (fun l la wr => ∃ (j : Nat) (La : Int) (al : Option Addr) (cl : Nat), l = .slice al j cl ∧ la = .int .i64 La ∧ j ≤ nv ∧ Hid (j ≤ cl ∧ cl ≤ 9223372036854775807) ∧ Hid (OwnP wr w.heap.size (.slice al j cl) (M.take j)) ∧ Hid (∀ n ∈ T, La < (n : Int) ↔ n ∈ S.drop j) ∧ Hid (Below w.heap.size w wr)) (fun l _ _ => nv - slen l)
  case atStart => exact ⟨0, -1, none, 0, rfl, rfl, Nat.zero_le _, hid ⟨Nat.le_refl _, by omega⟩, hid ⟨rfl, .inl ⟨rfl, rfl⟩⟩, hid (fun n hn => ⟨fun _ => by rw [List.drop_zero]; exact (HR.out.mem n).2 hn, fun _ => by omega⟩), Below.refl _ _⟩
  case round =>
    obtain ⟨j, La, al, cl, rfl, rfl, hj, HCL, HO, HLA, HB⟩ := hrel
    obtain ⟨wo, hwo⟩ : ∃ wo, wo = wr := ⟨_, rfl⟩
    subst hwo
    obtain ⟨c2, c6⟩ := hc wo HB.out
    obtain ⟨hcl1, hcl2⟩ := HCL.out
    by_cases hjn : j < nv
    · have b1 : (j : Int) < (nv : Int) := int_lt hjn
      go_upto_region 6 with fail
      clear hcl1 hcl2
      go_loopw [5, 6] (fun be i wr => ∃ (i2 : Nat) (Be : Int), be = .int .i64 Be ∧ i = .int .i64 (i2 : Int) ∧ i2 ≤ nv ∧ Hid (Best T La i2 Be) ∧ Hid (Below wo.heap.size wo wr)) (fun _ i _ => nv - (intOf i).toNat)
      case atStart => exact ⟨0, -1, rfl, rfl, Nat.zero_le _, hid (.inl ⟨rfl, fun n hn => absurd hn (by simp)⟩), Below.refl _ _⟩
      case round =>
        obtain ⟨i2, Be, rfl, rfl, hi2, HBE, HB2⟩ := hrel
        have hbr : Below w.heap.size w wr := HB.out.trans (HB2.out.mono HB.out.size)
        have HBR := hid hbr
        obtain ⟨d2, d6⟩ := hc wr hbr
        clear hbr c2 c6
        by_cases hin : i2 < nv
        · obtain ⟨n, HN⟩ : ∃ n, Hid (T[i2]? = some n) := ⟨_, hid (List.getElem?_eq_getElem (by have := HNV.out; omega))⟩
          obtain ⟨g, e, hg, hcl⟩ := HP.out.ot.at HN.out
          subst e
          have y0 := hcl wr (HBR.out.block g hg)
          have b2 : (i2 : Int) < (nv : Int) := int_lt hin
          clear hcl hg d2
          by_cases g1 : La < (n : Int)
          · by_cases g2 : Be < 0
            · have HBN := hid (HBE.out.new HN.out g1 (.inl g2))
              go_wp2_with fail
              go_roundw
              case rel => exact ⟨i2 + 1, n, rfl, by go_num, hin, HBN, HB2⟩
              case measure => simp [intOf]; omega
            · by_cases g3 : (n : Int) < Be
              · have HBN := hid (HBE.out.new HN.out g1 (.inr g3))
                go_wp2_with fail
                go_roundw
                case rel => exact ⟨i2 + 1, n, rfl, by go_num, hin, HBN, HB2⟩
                case measure => simp [intOf]; omega
              · have HBN := hid (HBE.out.skip HN.out (fun _ => ⟨Be.toNat, by omega, by omega⟩))
                go_wp2_with fail
                go_roundw
                case rel => exact ⟨i2 + 1, Be, rfl, by go_num, hin, HBN, HB2⟩
                case measure => simp [intOf]; omega
          · have HBN := hid (HBE.out.skip HN.out (fun h => absurd h g1))
            go_wp2_with fail
            go_roundw
            case rel => exact ⟨i2 + 1, Be, rfl, by go_num, hin, HBN, HB2⟩
            case measure => simp [intOf]; omega
        · have b2 : ¬ (i2 : Int) < (nv : Int) := int_nlt hin
          have hjs : j < S.length := by have := HNS.out; omega
          obtain ⟨m, HMJ⟩ : ∃ m, Hid (m = S[j]) := ⟨_, hid rfl⟩
          have hbe : Be = (m : Int) := by rw [HMJ.out]; exact HBE.out.done HR.out hjs HLA.out (by have := HNV.out; omega)
          subst hbe
          have hm32 : m < 4294967296 := HBT.out m ((HR.out.mem m).1 (by rw [HMJ.out]; exact List.getElem_mem hjs))
          have wu : IntKind.u32.wrap (m : Int) = (m : Int) := by simp [IntKind.wrap, IntKind.bits, IntKind.signed]; omega
          have HLA2 : Hid (∀ n ∈ T, (m : Int) < (n : Int) ↔ n ∈ S.drop (j + 1)) := fun n hn => by
            rw [← up_behind HR.out.up hjs ((HR.out.mem n).2 hn), ← HMJ.out]
            omega
          have HMT : Hid (M.take (j + 1) = M.take j ++ [(m, (sub : Int))]) := by
            have hl : j < M.length := by have := HML.out; omega
            unfold Hid
            rw [List.take_succ_eq_append_getElem hl]
            congr 2
            have h : M[j]? = some (m, (sub : Int)) := by rw [HM.out, List.getElem?_map, List.getElem?_eq_getElem hjs, ← HMJ.out]; rfl
            exact (List.getElem?_eq_some_iff.1 h).2
          obtain ⟨w4, HW4⟩ : ∃ w4, Hid (w4 = wr.alloc (.cells #[.int .u32 (m : Int), .int .i64 (sub : Int)] 25)) := ⟨_, rfl⟩
          obtain ⟨hb4, hS4⟩ := sees_one HW4.out
          have hO4 := (HO.out.below HB2.out).below hb4
          have hb04 : Below w.heap.size w w4 := HBR.out.trans (hb4.mono HBR.out.size)
          obtain ⟨v', w5, hap, how, hgr⟩ := append_pref w4 26 w.heap.size _ _ _ _ hO4 hS4 hb04.size (by have h1 := HML.out; have h2 := HNV.out; have h3 := HLT.out; rw [List.length_take]; simp only [List.length_cons, List.length_nil]; omega)
          have hsh := how.shape
          rw [← HMT.out] at how hsh
          obtain ⟨al', cl', e', hq1, hq2⟩ := hsh
          have hlen : (M.take (j + 1)).length = j + 1 := by rw [List.length_take]; have := HML.out; omega
          rw [hlen] at e' hq1
          subst e'
          unfold maxLen at hq2
          have HO5 := hid how
          have HB5 : Hid (Below w.heap.size w w5) := by
            refine ⟨hgr.os.trans hb04.os, hgr.tape.trans hb04.tape, hgr.output.trans hb04.output, Nat.le_trans hb04.size hgr.size, fun k hk => (hgr.block k (Nat.lt_of_lt_of_le hk hb04.size) (fun e => ?_)).trans (hb04.block k hk)⟩
            have h5 := (World.ownsRow.lt HO.out k e.symm).1
            omega
          have HAP := hid hap
          have HC2 : Hid (j + 1 ≤ cl' ∧ cl' ≤ 9223372036854775807) := ⟨hq1, by omega⟩
          clear HMJ
          clear hb4 hS4 hO4 hb04 hap how hgr hlen hq1 hq2 hjs hm32
          go_upto_region 12 with (at_builtin; rw [← HW4.out]; refine wpList_append_run _ rfl _ _ 26 26 rfl _ _ rfl rfl HAP.out ?_)
          go_wp2_with fail
          go_roundw
          case rel => exact ⟨j + 1, (m : Int), al', cl', rfl, rfl, hjn, HC2, HO5, HLA2, HB5⟩
          case measure => simp [slen]; omega
    · have b1 : ¬ (j : Int) < (nv : Int) := int_nlt hjn
      have HF : Hid (OwnP wo w.heap.size (.slice al j cl) M) := by
        have h := HO.out
        rw [List.take_of_length_le (by have := HML.out; omega)] at h
        exact h
      go_wp2_with fail
      refine bodyPost_ret (v := .slice al j cl) (by simp [results, Try.results45, go_sem]) rfl ?_
      exact ⟨_, rfl, HF.out, HB.out⟩
end Go.Proofs.Ytahoileampdnkaa
