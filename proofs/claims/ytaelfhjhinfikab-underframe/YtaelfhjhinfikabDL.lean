/-
  The reference: Spoil.
-/
import Derived.Test.YtaelfhjhinfikabDJ
namespace Go.Proofs.Ytaelfhjhinfikab
open Go.ChangeShapes Go.WideShapes Go.ChangeAt Go.RowKit Me
set_option maxHeartbeats 2000000
set_option maxRecDepth 100000

theorem spoilR_any (w : World) (F : Nat → Prop) (pb m x : Nat) (S : List Pk) (i a : Int) (h : Rn w pb m S F) (hx : x < 256) :
    Calls Try.prog 30 #[.pointer (some ⟨pb, 0, none⟩), .int .i64 i, .int .i64 a, .int .u8 (x : Int)] w fun e w' => e = .returned (.int .i64 ((spE S i a x : Nat) : Int)) ∧ RnD w w' pb m (spS S i a x) F := by
  have HH := hid h
  obtain ⟨v, E, hat, hS, hF, hle, hm⟩ := h
  have HHA := hid (there_any w pb m v E i hat)
  have hlen : E.length = S.length := by rw [hS, List.length_map]
  rw [hlen] at HHA
  cases hi : inR i S.length with
  | false =>
    have h3 : spE S i a x = 3 := by unfold spE; rw [hi]; rfl
    have h4 : spS S i a x = S := by unfold spS; rw [h3]; rfl
    rw [h3, h4]
    rw [hi] at HHA
    have HFIN : Hid (RnD w w pb m S F) := HoD.same HH.out (Below.refl _ _)
    clear hat hS hF hle hm hlen hi h3 h4
    go_enter Try.func30, Try.ntmps30
    go_wp2_with fail
    refine HHA.out.mono ?_
    rintro _ _ ⟨rfl, ew⟩
    obtain rfl := ew.symm
    clear ew HHA
    go_wp2_with fail
    go_ret
    exact ⟨rfl, HFIN.out⟩
  | true =>
    obtain ⟨j, rfl, hj⟩ := inR_true hi
    obtain ⟨c1, -, -⟩ := hat.cellsR
    obtain ⟨va, n, cap, rfl, HN, hn1, hn2, -⟩ := hat.fl.shape
    unfold maxLen at hn2
    have hjE : j < E.length := by omega
    have hjs : E[j]? = some E[j] := List.getElem?_eq_getElem hjE
    obtain ⟨g, rfl, hg, hc⟩ := hat.fl.at hjs
    obtain ⟨d0, d1, -⟩ := hc w rfl
    have hmem := List.getElem_mem hjE
    have hown := hat.fl.own _ hmem
    have hok := hat.fl.ok _ hmem
    have hpk : S.getD j ⟨0, []⟩ = E[j].pk := by rw [hS]; simp [hjE]
    have hsj : S[j]? = some E[j].pk := by rw [hS, List.getElem?_map, hjs]; rfl
    generalize E[j] = e at *
    obtain ⟨ea, eb, eu⟩ := e
    simp only at d0 d1 hown hok
    obtain ⟨ua, un, uc, rfl, HUN, hu1, hu2⟩ := hown.shape
    unfold maxLen at hu2
    have hj1 : (j : Int) < (n : Int) := by have := HN.out; omega
    have hj2 : (0 : Int) ≤ (j : Int) := by omega
    rw [hi] at HHA
    have hbs : (S.getD j ⟨0, []⟩).bs = eb := by rw [hpk]; rfl
    have hspe : spE S (j : Int) a x = if inR a eb.length && decide (x ≠ 0) then 0 else 1 := by
      unfold spE; rw [hi, Int.toNat_natCast, hbs]; rfl
    cases ha : (inR a eb.length && decide (x ≠ 0)) with
    | false =>
      have h3 : spE S (j : Int) a x = 1 := by rw [hspe, ha]; rfl
      have h4 : spS S (j : Int) a x = S := by unfold spS; rw [h3]; rfl
      rw [h3, h4]
      have HFIN : Hid (RnD w w pb m S F) := HoD.same HH.out (Below.refl _ _)
      have hcs : a < 0 ∨ (¬ a < 0 ∧ (un : Int) ≤ a) ∨ (¬ a < 0 ∧ ¬ (un : Int) ≤ a ∧ x = 0) := by
        rw [Bool.and_eq_false_iff] at ha
        rcases ha with ha | ha
        · rcases inR_false ha with h | h
          · exact .inl h
          · by_cases h0 : a < 0
            · exact .inl h0
            · exact .inr (.inl ⟨h0, by have := HUN.out; omega⟩)
        · by_cases h0 : a < 0
          · exact .inl h0
          · by_cases h1 : (un : Int) ≤ a
            · exact .inr (.inl ⟨h0, h1⟩)
            · exact .inr (.inr ⟨h0, h1, by simpa using ha⟩)
      clear hat hS hF hle hm hlen hi hc hmem hown hok hpk hsj hbs hspe ha h3 h4 hj hjE hjs hg
      rcases hcs with h0 | ⟨h0, h1⟩ | ⟨h0, h1, rfl⟩
      · have q0 : decide (a < 0) = true := by simpa using h0
        go_enter Try.func30, Try.ntmps30
        go_wp2_with fail
        refine HHA.out.mono ?_
        rintro _ _ ⟨rfl, ew⟩
        obtain rfl := ew.symm
        clear ew HHA
        go_wp2_with fail
        go_ret
        exact ⟨rfl, HFIN.out⟩
      · have q0 : decide (a < 0) = false := by simpa using h0
        have q1 : decide ((un : Int) ≤ a) = true := by simpa using h1
        go_enter Try.func30, Try.ntmps30
        go_wp2_with fail
        refine HHA.out.mono ?_
        rintro _ _ ⟨rfl, ew⟩
        obtain rfl := ew.symm
        clear ew HHA
        go_wp2_with fail
        go_ret
        exact ⟨rfl, HFIN.out⟩
      · have q0 : decide (a < 0) = false := by simpa using h0
        have q1 : decide ((un : Int) ≤ a) = false := by simpa using h1
        go_enter Try.func30, Try.ntmps30
        go_wp2_with fail
        refine HHA.out.mono ?_
        rintro _ _ ⟨rfl, ew⟩
        obtain rfl := ew.symm
        clear ew HHA
        go_wp2_with fail
        go_ret
        exact ⟨rfl, HFIN.out⟩
    | true =>
      rw [Bool.and_eq_true] at ha
      obtain ⟨k, rfl, hk⟩ := inR_true ha.1
      have hx0 : x ≠ 0 := by simpa using ha.2
      have h3 : spE S (j : Int) (k : Int) x = 0 := by rw [hspe, ha.1, ha.2]; rfl
      obtain ⟨y, hy⟩ : ∃ y, eb[k]? = some y := ⟨_, List.getElem?_eq_getElem hk⟩
      have hyb : y < 256 := hok.2.2 y (List.mem_of_getElem? hy)
      have h4 : spS S (j : Int) (k : Int) x = S.set j ⟨ea, eb.set k (y ^^^ x)⟩ := by
        unfold spS; rw [h3, if_pos rfl, Int.toNat_natCast, Int.toNat_natCast, hpk]
        unfold spP En.pk
        simp only
        rw [List.getD_eq_getElem?_getD, hy]; rfl
      have hne : eb ≠ [] := fun e => by rw [e] at hk; simp at hk
      obtain ⟨gu, nu, cu, hue, HNU, -, hcu, hcm, hfz⟩ := hown.grip hne
      simp only [Value.slice.injEq] at hue
      obtain ⟨rfl, rfl, rfl⟩ := hue
      have hcell : w.cell? ⟨gu, k, none⟩ = some (.int .u8 (y : Int)) := by
        obtain ⟨g2, o2, p2, hp2, -, hcl, -, HP2⟩ := (hown.sees hok.2.2).at k (by have := HUN.out; omega)
        simp only [Option.some.injEq, Addr.mk.injEq, and_true] at hp2
        obtain ⟨rfl, rfl⟩ := hp2
        have := HP2.out
        rw [hy] at this
        cases this
        rw [Nat.zero_add] at hcl
        exact hcl
      have hfr := hfz k
      have hxor : bits .xor .u8 (y : Int) (x : Int) = ((y ^^^ x : Nat) : Int) := u8_xor_nat y x hyb hx
      have hzb : y ^^^ x < 256 := Nat.xor_lt_two_pow (n := 8) hyb hx
      rw [h3, h4]
      have hdr : Below w.heap.size w w.drew := below_drew (Below.refl _ _)
      have HFIN := hid (HoD.from hdr ((hat.below hdr).spoil (F := F) (a := k) (x := y ^^^ x) (by decide) hS hF hle hm hjs rfl hzb rfl))
      clear hdr
      obtain ⟨z, HZ⟩ : ∃ z, Hid (z = y ^^^ x) := ⟨_, rfl⟩
      rw [← HZ.out] at hxor HFIN ⊢
      have q0 : decide ((k : Int) < 0) = false := by simp
      have hkn : k < un := by have := HUN.out; omega
      have q1 : decide ((un : Int) ≤ (k : Int)) = false := by simp; omega
      have q2 : ((x : Int) == 0) = false := by simp; omega
      have q3 : (k : Int) < (un : Int) := by omega
      have q4 : (0 : Int) ≤ (k : Int) := by omega
      have q5 : ¬ (x : Int) = 0 := by omega
      have q6 : ¬ (un : Int) ≤ (k : Int) := by omega
      clear hat hS hF hle hm hlen hi hc hmem hown hok hpk hsj hbs hspe ha h3 h4 hj hjE hjs hg hy hyb hne hfz hzb hx hx0 hk
      go_enter Try.func30, Try.ntmps30
      go_wp2_with fail
      refine HHA.out.mono ?_
      rintro _ _ ⟨rfl, ew⟩
      obtain rfl := ew.symm
      clear ew HHA
      go_upto_region 5 with fail
      refine wp_region_still_tail 23 (by kernel_rfl) (by kernel_rfl) ?_
      simp only [List.take_succ_cons, List.take_zero, List.drop_succ_cons, List.drop_zero]
      iterate 23 still_step
      refine wpStill_nil ?_
      go_wp2_with fail
      go_ret
      exact ⟨rfl, HFIN.out⟩

end Go.Proofs.Ytaelfhjhinfikab
