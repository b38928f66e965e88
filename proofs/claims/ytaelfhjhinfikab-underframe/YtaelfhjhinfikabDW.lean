/-
  clone; UnderSpoilTwice.
-/
import Derived.Test.YtaelfhjhinfikabDSB
import Derived.Great.BuildSlice
namespace Go.Proofs.Ytaelfhjhinfikab
open Go.ChangeShapes Go.WideShapes Go.ChangeAt Go.RowKit Me N
set_option maxHeartbeats 8000000
set_option maxRecDepth 100000

theorem clone_any (w : World) (K : Nat → Prop) (v : Value) (L : List Nat) (hv : SeesB K w v L) (hl : L.length ≤ 65535) :
    Calls Try.prog 15 #[v] w fun e w' => ∃ a n c, e = .returned (.slice a n c) ∧ OwnB w' w.heap.size (.slice a n c) L ∧ Below w.heap.size w w' := by
  obtain ⟨pa, n, pc, rfl, HN, hn1, hn2⟩ := hv.shape
  unfold maxLen at hn2
  have HU := hid hv
  have hnl : n ≤ 65535 := by have := HN.out; omega
  clear hv hl
  go_enter Try.func15, Try.ntmps15
  go_upto_region 3 with fail
  go_loopw [3, 4] (fun v i wr => ∃ (j : Nat) (va : Option Addr) (vn vc : Nat), i = .int .i64 (j : Int) ∧ v = .slice va vn vc ∧ j ≤ n ∧ Hid (Below w.heap.size w wr) ∧ Hid (OwnB wr w.heap.size (.slice va vn vc) (L.take j))) (fun _ i _ => n - (intOf i).toNat)
  case atStart => exact ⟨0, none, 0, 0, rfl, rfl, Nat.zero_le _, Below.refl _ _, ownB_nil _ _⟩
  case round =>
    obtain ⟨j, va, vn, vc, rfl, rfl, hj, HB, HO⟩ := hrel
    by_cases hlt : j < n
    · have hlt' : (j : Int) < (n : Int) := int_lt hlt
      have h2 : (0 : Int) ≤ (j : Int) := by omega
      obtain ⟨g, off, x, rfl, hg, hc, hx, HX⟩ := (HU.out.below HB.out).at j hlt
      obtain ⟨wa, HWA⟩ : ∃ wa, Hid (wa = wr.alloc (.cells #[.int .u8 (x : Int)] 5)) := ⟨_, rfl⟩
      have hk : wa.heap[wr.heap.size]? = some (.cells #[.int .u8 (x : Int)] 5 (0, 0)) := by rw [HWA.out]; exact heap_alloc_new wr _
      have hba : Below wr.heap.size wr wa := by rw [HWA.out]; exact (Below.refl _ _).alloc (Nat.le_refl _) _
      obtain ⟨a3, n3, c3, w3, hap, ho3, hk3⟩ := append_byte wa w.heap.size _ _ x wr.heap.size (HO.out.below hba) (by rw [cell_of_row _ _ _ _ _ _ hk]; rfl) (Nat.le_trans HB.out.size hba.size) (by rw [List.length_take]; omega)
      rw [← take_snoc HX.out] at ho3
      have HAP := hid hap
      have HO3 := hid ho3
      have HB3 : Hid (Below w.heap.size w w3) := hk3.below' (HB.out.trans (hba.mono HB.out.size)) (fun k e => (HO.out.lt e).1) (Nat.le_refl _)
      clear hk hba hap ho3 hk3 HX hg
      go_wp2_with (first | (at_builtin; rw [← HWA.out]; refine wpList_append_run _ rfl (.tmp 11) (.tmp 16) 39 39 rfl _ _ rfl rfl (HAP.out _) ?_) | fail)
      go_roundw
      case rel => exact ⟨j + 1, a3, n3, c3, by go_num, rfl, hlt, HB3, HO3⟩
      case measure => simp [intOf]; omega
    · have hlt' : ¬ (j : Int) < (n : Int) := int_nlt hlt
      have HO4 : Hid (OwnB wr w.heap.size (.slice va vn vc) L) := by
        have := HO.out
        rw [List.take_of_length_le (by have := HN.out; omega)] at this
        exact this
      go_wp2_with fail
      go_ret
      exact ⟨_, _, _, rfl, HO4.out, HB.out⟩

theorem sp_twice (p : Pk) (a x : Nat) (h : a < p.bs.length) : spP (spP p a x) a x = p := by
  obtain ⟨ad, b⟩ := p
  unfold spP
  simp only at h ⊢
  congr 1
  rw [List.set_set]
  have e : (b.set a (b.getD a 0 ^^^ x)).getD a 0 = b.getD a 0 ^^^ x := by
    rw [List.getD_eq_getElem?_getD, List.getElem?_set_self h]; rfl
  rw [e, Nat.xor_assoc, Nat.xor_self, Nat.xor_zero]
  apply set_same
  rw [List.getElem?_eq_getElem h, List.getD_eq_getElem?_getD, List.getElem?_eq_getElem h]; rfl
theorem sp_len (p : Pk) (a x : Nat) : (spP p a x).bs.length = p.bs.length := by unfold spP; simp

/-- A Spoil at a packet that is there. -/
theorem sp_do {S : List Pk} {i a x : Nat} {p : Pk} (hi : S[i]? = some p) (ha : a < p.bs.length) (hx : x ≠ 0) : spE S (i : Int) (a : Int) x = 0 ∧ spS S (i : Int) (a : Int) x = S.set i (spP p a x) := by
  have hil := (List.getElem?_eq_some_iff.1 hi).1
  have hin : inR (i : Int) S.length = true := by rw [inR_nat]; exact decide_eq_true hil
  have hgd : S.getD i ⟨0, []⟩ = p := by rw [List.getD_eq_getElem?_getD, hi]; rfl
  have he : spE S (i : Int) (a : Int) x = 0 := by
    unfold spE
    rw [hin, Int.toNat_natCast, hgd, inR_nat, decide_eq_true ha, decide_eq_true hx]
    rfl
  refine ⟨he, ?_⟩
  unfold spS
  rw [he, if_pos rfl, Int.toNat_natCast, Int.toNat_natCast, hgd]
theorem co_do {S : List Pk} {i m : Nat} {p : Pk} (hi : S[i]? = some p) (hm : S.length < m) : coE m S (i : Int) = 0 ∧ coS m S (i : Int) = S ++ [p] := by
  have hil := (List.getElem?_eq_some_iff.1 hi).1
  have hin : inR (i : Int) S.length = true := by rw [inR_nat]; exact decide_eq_true hil
  have hgd : S.getD i ⟨0, []⟩ = p := by rw [List.getD_eq_getElem?_getD, hi]; rfl
  have he : coE m S (i : Int) = 0 := by unfold coE; rw [hin]; simp only [if_true]; rw [if_neg (by omega)]
  refine ⟨he, ?_⟩
  unfold coS
  rw [he, if_pos rfl, Int.toNat_natCast, hgd]

theorem ex_bsK {P : Program} {o : Oper} {a : Act} {w w' : World} (T : TypeId) (n : Nat) (parts : Array (Nat × Operand)) (ps : Array (Nat × Value)) (v : Value) (ho : o.op = .buildSlice T n parts) (hp : (parts.map fun (i, x) => (i, a.eval x)) = ps) (hr : (Instr.buildSlice T n ps).run P w = .ok v w') : (execOp a.eval o).run P w = .ok (.value v) w' := by
  unfold execOp
  simp only [ho, hp, Sem.run_bind, hr, Result.andThen_ok, Sem.run_pure]
theorem load_sn {u : World} {q : Nat} {x y : Value} (h0 : u.cell? ⟨q, 0, none⟩ = some x) (h1 : u.cell? ⟨q, 1, none⟩ = some y) : (Instr.loadAt 41 (.pointer (some ⟨q, 0, none⟩))).run Try.prog u = .ok (.agg #[x, y]) u := by
  simp [Instr.loadAt, go_sem, h0, h1]
theorem build_4 (x0 y0 x1 y1 : Value) (u : World) : (Instr.buildSlice 33 4 #[(0, .agg #[x0, y0]), (1, .agg #[x1, y1]), (2, .agg #[x0, y0]), (3, .agg #[x0, y0])]).run Try.prog u = .ok (.slice (some ⟨u.heap.size, 0, none⟩) 4 4) (u.alloc (.cells #[x0, y0, x1, y1, x0, y0, x0, y0] 41)) := by
  obtain ⟨ie, hi, hz, hs, -⟩ := info_parts infoS
  refine run_buildSlice u _ _ 4 _ _ ie _ uS hi hz (by rw [hs]; decide) (by rw [hs]; decide) ?_
  simp only [hs, show Array.range (4 * 2) = #[0, 1, 2, 3, 4, 5, 6, 7] from rfl]
  simp [Instr.fill, Value.cells]
/-- What the operations of the last comparison yield. -/
def FSt (pb : Nat) (S : List Pk) (x y : Value) (row : Array Value) (i : Nat) (v : Value) (w : World) : Prop :=
  match i with
  | 0 => v = .pointer (some ⟨pb, 0, none⟩)
  | 1 => ∃ a n c E, v = .slice a n c ∧ Fl w (.slice a n c) E ∧ E.map En.pk = S
  | 2 => v = x
  | 3 => v = y
  | 4 => v = x
  | 5 => v = x
  | 6 => ∃ b, v = .slice (some ⟨b, 0, none⟩) 4 4 ∧ w.heap[b]? = some (.cells row 41 (0, 0))
  | 7 => v = .bool true
  | _ => True
theorem FSt.keeps (pb : Nat) (S : List Pk) (x y : Value) (row : Array Value) : ∀ (i : Nat) (v : Value) (w w' : World), FSt pb S x y row i v w → Below w.heap.size w w' → FSt pb S x y row i v w' := fun i v w w' h hb => by
  unfold FSt at *
  split at h
  · exact h
  · obtain ⟨a, n, c, E, h1, h2, h3⟩ := h
    exact ⟨a, n, c, E, h1, h2.below hb, h3⟩
  · exact h
  · exact h
  · exact h
  · exact h
  · obtain ⟨b, h1, h2⟩ := h
    exact ⟨b, h1, below_keeps hb h2 (Array.getElem?_eq_some_iff.1 h2).1⟩
  · exact h
  · trivial

theorem sees_four {K : Nat → Prop} {w : World} {b ad : Nat} {u t : Value} {L M : List Nat} (hr : w.heap[b]? = some (.cells #[.int .u32 (ad : Int), u, .int .u32 (ad : Int), t, .int .u32 (ad : Int), u, .int .u32 (ad : Int), u] 41 (0, 0))) (hK : K b) (hu : SeesB K w u L) (ht : SeesB K w t M) (had : ad < 4294967296) : SeesS K w (.slice (some ⟨b, 0, none⟩) 4 4) [⟨ad, L⟩, ⟨ad, M⟩, ⟨ad, L⟩, ⟨ad, L⟩] := by
  refine ⟨_, 4, rfl, ⟨Nat.le_refl _, fun e => by cases e⟩, by decide, fun j hj => ?_⟩
  have hlt := (Array.getElem?_eq_some_iff.1 hr).1
  match j, hj with
  | 0, _ => exact ⟨b, 0, u, rfl, ⟨hlt, hK⟩, by rw [cell_of_row _ _ _ _ _ _ hr]; rfl, by rw [cell_of_row _ _ _ _ _ _ hr]; rfl, hu, had⟩
  | 1, _ => exact ⟨b, 0, t, rfl, ⟨hlt, hK⟩, by rw [cell_of_row _ _ _ _ _ _ hr]; rfl, by rw [cell_of_row _ _ _ _ _ _ hr]; rfl, ht, had⟩
  | 2, _ => exact ⟨b, 0, u, rfl, ⟨hlt, hK⟩, by rw [cell_of_row _ _ _ _ _ _ hr]; rfl, by rw [cell_of_row _ _ _ _ _ _ hr]; rfl, hu, had⟩
  | 3, _ => exact ⟨b, 0, u, rfl, ⟨hlt, hK⟩, by rw [cell_of_row _ _ _ _ _ _ hr]; rfl, by rw [cell_of_row _ _ _ _ _ _ hr]; rfl, hu, had⟩

theorem twice_walk (ad : Nat) (u : Value) (L : List Nat) (i : Int) (x : Nat) (w : World) (had : ad < 4294967296) (hu : SeesB (fun k => k < w.heap.size) w u L) (hil : -9223372036854775808 ≤ i) (hih : i ≤ 9223372036854775807) (hx : x < 256) :
    Calls Try.prog 7 #[.agg #[.int .u32 (ad : Int), u], .int .i64 i, .int .u8 (x : Int)] w fun e w' => e = .returned (.bool true) ∧ Below w.heap.size w w' := by
  obtain ⟨ua, n, uc, rfl, HN, hn1, hn2⟩ := hu.shape
  unfold maxLen at hn2
  obtain ⟨w1, HW1⟩ : ∃ w1, Hid (w1 = w.alloc (.cells #[.int .u32 (ad : Int), .slice ua n uc] 41)) := ⟨_, rfl⟩
  have hb1 : Below w.heap.size w w1 := by rw [HW1.out]; exact (Below.refl _ _).alloc (Nat.le_refl _) _
  obtain ⟨b, HB⟩ : ∃ b, Hid (b = w.heap.size) := ⟨_, rfl⟩
  have r1 : w1.heap[b]? = some (.cells #[.int .u32 (ad : Int), .slice ua n uc] 41 (0, 0)) := by rw [HW1.out, HB.out]; exact heap_alloc_new w _
  have R1 := hid r1
  have HBW := hid hb1
  have HU1 : Hid (SeesB (fun k => k < w1.heap.size) w1 (.slice ua n uc) L) := (hu.below hb1).weak fun k hk _ => hk
  have HNW := hid (pn_new 9 w1)
  have HCB : Hid (∀ u : World, Below w1.heap.size w1 u → u.cell? ⟨b, 0, none⟩ = some (.int .u32 (ad : Int)) ∧ u.cell? ⟨b, 1, none⟩ = some (.slice ua n uc)) := fun u hu => by
    have r := below_keeps hu R1.out (Array.getElem?_eq_some_iff.1 R1.out).1
    refine ⟨?_, ?_⟩ <;> (rw [cell_of_row _ _ _ _ _ _ r]; rfl)
  clear hu hb1 r1
  go_enter Try.func7, Try.ntmps7
  go_upto_region 1 with fail
  rw [← HW1.out, ← HB.out]
  go_wp2_with fail
  refine HNW.out.mono ?_
  rintro _ w2 (⟨hb, rfl, rfl⟩ | ⟨hb, m, pb, hl, rfl, hp2⟩)
  · exact absurd hb (by decide)
  · obtain rfl : m = 9 := by omega
    have HFI := hid (first_any w2)
    have HP2 := hid hp2
    clear HNW hb hp2 hl
    go_wp2_with fail
    refine HFI.out.mono ?_
    rintro _ w3 ⟨rfl, hb3⟩
    have HP3 := hid (HP2.out.below hb3)
    clear HFI hb3 HP2
    obtain ⟨c0, c1⟩ := HCB.out w3 HP3.out.be
    have HE3 : Hid (Below w.heap.size w w3) := HBW.out.trans (HP3.out.be.mono HBW.out.size)
    by_cases hl : 65535 < n
    · have hl' : (65535 : Int) < (n : Int) := by omega
      go_wp2_with fail
      go_ret
      exact ⟨rfl, HE3.out⟩
    have hl' : ¬ (65535 : Int) < (n : Int) := by omega
    by_cases hz : n = 0
    · subst hz
      go_wp2_with fail
      go_ret
      exact ⟨rfl, HE3.out⟩
    have hz1 : ((n : Int) == 0) = false := by simp; omega
    have hz2 : ¬ (n : Int) = 0 := by omega
    by_cases hxz : x = 0
    · subst hxz
      go_wp2_with fail
      go_ret
      exact ⟨rfl, HE3.out⟩
    have hx1 : ((x : Int) == 0) = false := by simp; omega
    have hx2 : ¬ (x : Int) = 0 := by omega
    by_cases hneg : i < 0
    · have z0 : decide (i < 0) = true := by simpa using hneg
      go_upto_region 8 with fail
      obtain ⟨A, hA⟩ : ∃ A : Nat, -(i + 1) = (A : Int) := ⟨(-(i + 1)).toNat, by omega⟩
      rw [hA]
      clear hA z0 hneg hil hih
      obtain ⟨r, hr⟩ : ∃ r, r = A % n := ⟨_, rfl⟩
      have hrn : r < n := by rw [hr]; exact Nat.mod_lt _ (by omega)
      have e1 : (A : Int) % (n : Int) = (r : Int) := by rw [hr]; simp
      have e2 : (A : Int).tmod (n : Int) = (r : Int) := by rw [hr]; rfl
      have HRL : Hid (r < L.length) := by unfold Hid; rw [← HN.out]; exact hrn
      clear hr
      have HCL := hid (clone_any w3 _ _ L (HU1.out.below HP3.out.be) (by have := HN.out; omega))
      go_wp2_with fail
      refine HCL.out.mono ?_
      rintro _ w4 ⟨ga, gn, gc, rfl, ho4, hb4⟩
      have hne : L ≠ [] := fun e => by have := HRL.out; rw [e] at this; simp at this
      obtain ⟨g, gn', gc', hgs, HGN, hgb, hgc, hgm, hfz⟩ := ho4.grip hne
      simp only [Value.slice.injEq] at hgs
      obtain ⟨rfl, rfl, rfl⟩ := hgs
      have hby := HU1.out.bytes
      obtain ⟨y, hy⟩ : ∃ y, L[r]? = some y := ⟨_, List.getElem?_eq_getElem HRL.out⟩
      have hyb : y < 256 := hby y (List.mem_of_getElem? hy)
      have hcell : w4.cell? ⟨g, r, none⟩ = some (.int .u8 (y : Int)) := by
        obtain ⟨g2, o2, p2, hp2, -, hcl, -, HPP⟩ := (ho4.sees hby).at r (by have := HGN.out; have := HRL.out; omega)
        simp only [Option.some.injEq, Addr.mk.injEq, and_true] at hp2
        obtain ⟨rfl, rfl⟩ := hp2
        have := HPP.out
        rw [hy] at this
        cases this
        rw [Nat.zero_add] at hcl
        exact hcl
      have hfr := hfz r
      have hxor : bits .xor .u8 (y : Int) (x : Int) = ((y ^^^ x : Nat) : Int) := u8_xor_nat y x hyb hx
      have hzb : y ^^^ x < 256 := Nat.xor_lt_two_pow (n := 8) hyb hx
      have HSP : Hid (spP ⟨ad, L⟩ r x = ⟨ad, L.set r (y ^^^ x)⟩) := by
        unfold Hid spP; simp only; rw [List.getD_eq_getElem?_getD, hy]; rfl
      obtain ⟨z, HZ⟩ : ∃ z, Hid (z = y ^^^ x) := ⟨_, rfl⟩
      rw [← HZ.out] at hxor HSP hzb
      obtain ⟨w5, HW5⟩ : ∃ w5, Hid (w5 = w4.setCell ⟨g, r, none⟩ (.int .u8 (z : Int))) := ⟨_, rfl⟩
      have ho5 : OwnB w5 w3.heap.size (.slice (some ⟨g, 0, none⟩) gn gc) (L.set r z) := by rw [HW5.out]; exact ho4.put r z
      have hk5 : Keeps (fun k => k = g) w4 w5 := by rw [HW5.out]; exact Keeps.set (S := fun k => k = g) (Keeps.refl _ _) ⟨g, r, none⟩ rfl _
      have hb5 : Below w3.heap.size w3 w5 := hk5.below' hb4 (fun k e => by omega) (Nat.le_refl _)
      obtain ⟨w6, HW6⟩ : ∃ w6, Hid (w6 = w5.alloc (.cells #[.int .u32 (ad : Int), .slice (some ⟨g, 0, none⟩) gn gc] 41)) := ⟨_, rfl⟩
      have hb56 : Below w5.heap.size w5 w6 := by rw [HW6.out]; exact (Below.refl _ _).alloc (Nat.le_refl _) _
      obtain ⟨b6, HB6⟩ : ∃ b, Hid (b = w5.heap.size) := ⟨_, rfl⟩
      have r6 : w6.heap[b6]? = some (.cells #[.int .u32 (ad : Int), .slice (some ⟨g, 0, none⟩) gn gc] 41 (0, 0)) := by rw [HW6.out, HB6.out]; exact heap_alloc_new w5 _
      have hb6 : Below w3.heap.size w3 w6 := hb5.trans (hb56.mono hb5.size)
      obtain ⟨w7, HW7⟩ : ∃ w7, Hid (w7 = w6.alloc (.cells #[.int .u32 (ad : Int), .slice ua n uc] 41)) := ⟨_, rfl⟩
      have hb67 : Below w6.heap.size w6 w7 := by rw [HW7.out]; exact (Below.refl _ _).alloc (Nat.le_refl _) _
      obtain ⟨b7, HB7⟩ : ∃ b, Hid (b = w6.heap.size) := ⟨_, rfl⟩
      have r7 : w7.heap[b7]? = some (.cells #[.int .u32 (ad : Int), .slice ua n uc] 41 (0, 0)) := by rw [HW7.out, HB7.out]; exact heap_alloc_new w6 _
      have hb7 : Below w3.heap.size w3 w7 := hb6.trans (hb67.mono hb6.size)
      obtain ⟨K, HK⟩ : ∃ K : Nat → Prop, Hid (K = fun k => k < w1.heap.size ∨ (w3.heap.size ≤ k ∧ k < w7.heap.size)) := ⟨_, rfl⟩
      have HP7 : Hid (Pn w1 K w7 pb 9 []) := HP3.out.more hb7 fun k e => by
        rw [HK.out] at e
        have h1 := HP3.out.be.size
        have h2 := hb7.size
        rcases e with e | e
        · exact ⟨.inl e, by omega⟩
        · exact ⟨.inr e.1, e.2⟩
      have hKU : SeesB K w7 (.slice ua n uc) L := (HU1.out.below (HP3.out.be.trans (hb7.mono HP3.out.be.size))).weak fun k _ e => by rw [HK.out]; exact .inl e
      have HKU := hid hKU
      have hlt7 : ∀ k o, w7.heap[k]? = some o → w3.heap.size ≤ k → K k := fun k o h1 h2 => by rw [HK.out]; exact .inr ⟨h2, (Array.getElem?_eq_some_iff.1 h1).1⟩
      have HT7 : Hid (SeesB K w7 (.slice (some ⟨g, 0, none⟩) gn gc) (L.set r z)) := by
        have h1 : OwnB w7 w3.heap.size (.slice (some ⟨g, 0, none⟩) gn gc) (L.set r z) := (OwnB.below ho5 hb56).below hb67
        refine (h1.sees fun q hq => ?_).weak fun k hk e => ?_
        · rcases List.mem_or_eq_of_mem_set hq with h | rfl
          · exact hby q h
          · exact hzb
        · have := (h1.lt e).1
          rw [HK.out]; exact .inr ⟨this, hk⟩
      have hK7 : K b7 := hlt7 b7 _ r7 (by have := HB7.out; have := hb6.size; omega)
      have hK6 : K b6 := hlt7 b6 _ (below_keeps hb67 r6 (Array.getElem?_eq_some_iff.1 r6).1) (by have := HB6.out; have := hb5.size; omega)
      have HSO := hid (sees_one r7 hK7 hKU had)
      have HR67 : Hid (w7.heap[b6]? = some (.cells #[.int .u32 (ad : Int), .slice (some ⟨g, 0, none⟩) gn gc] 41 (0, 0))) := below_keeps hb67 r6 (Array.getElem?_eq_some_iff.1 r6).1
      have HRB7 : Hid (w7.heap[b]? = some (.cells #[.int .u32 (ad : Int), .slice ua n uc] 41 (0, 0))) := below_keeps (HP3.out.be.trans (hb7.mono HP3.out.be.size)) R1.out (Array.getElem?_eq_some_iff.1 R1.out).1
      have hKb : K b := by rw [HK.out]; exact .inl (Array.getElem?_eq_some_iff.1 R1.out).1
      have d0 : w6.cell? ⟨b, 0, none⟩ = some (.int .u32 (ad : Int)) := (HCB.out w6 (HP3.out.be.trans (hb6.mono HP3.out.be.size))).1
      have d1 : w6.cell? ⟨b, 1, none⟩ = some (.slice ua n uc) := (HCB.out w6 (HP3.out.be.trans (hb6.mono HP3.out.be.size))).2
      have f0 : w5.cell? ⟨b, 0, none⟩ = some (.int .u32 (ad : Int)) := (HCB.out w5 (HP3.out.be.trans (hb5.mono HP3.out.be.size))).1
      have q1 : (r : Int) < (gn : Int) := by have := HGN.out; have := HRL.out; omega
      have q2 : (0 : Int) ≤ (r : Int) := by omega
      have hgc' : gn ≤ gc := hgc
      clear ho4 hb4 hne hgb hgm hfz hby hy hyb hzb ho5 hk5 hb5 hb56 r6 hb6 hb67 r7 hb7 hKU hlt7 HCL hgc
      go_upto_region 11 with fail
      rw [← HW5.out]
      clear hcell hfr hxor c0 c1
      go_upto_region 12 with fail
      rw [← HW6.out, ← HB6.out]
      clear f0
      have HPU := hid (HP7.out.put HSO.out)
      have hpa := pu_all (m := 9) (S := []) (L := [⟨ad, L⟩]) (fun p hp => by simp at hp; rw [hp]; simp only; have := HN.out; omega) (by simp)
      rw [hpa.1, hpa.2.1, hpa.2.2] at HPU
      clear hpa
      go_wp2_with fail
      rw [← HW7.out, ← HB7.out]
      refine HPU.out.mono ?_
      rintro _ w8 ⟨rfl, hp8, hk8⟩
      have HPS0 := hid hp8
      have HKS0 := hid hk8
      have HQ : Hid (spP ⟨ad, L.set r z⟩ r x = ⟨ad, L⟩) := by unfold Hid; rw [← HSP.out]; exact sp_twice _ r x HRL.out
      have HRL2 : Hid (r < (L.set r z).length) := by unfold Hid; rw [List.length_set]; exact HRL.out
      clear hp8 hk8 HPU HSO d0 d1
      simp only [List.nil_append] at HPS0
      have g1 : spE [⟨ad, L⟩] 0 (r : Int) x = 0 ∧ spS [⟨ad, L⟩] 0 (r : Int) x = [⟨ad, L.set r z⟩] := by
        have h := sp_do (S := [⟨ad, L⟩]) (i := 0) (a := r) (p := ⟨ad, L⟩) rfl HRL.out hxz
        rw [HSP.out] at h
        exact h
      have HA := hid (HPS0.out.spoil 0 (r : Int) hx)
      rw [g1.1, g1.2] at HA
      clear g1
      go_wp2_with fail
      refine HA.out.mono ?_
      rintro _ w9 ⟨rfl, hp, hk⟩
      have HPS1 := hid hp
      have HKS1 := hid (HKS0.out.trans hk)
      clear hp hk HA HPS0 HKS0
      have g1 : coE 9 [⟨ad, L.set r z⟩] 0 = 0 ∧ coS 9 [⟨ad, L.set r z⟩] 0 = [⟨ad, L.set r z⟩, ⟨ad, L.set r z⟩] := co_do (S := [⟨ad, L.set r z⟩]) (i := 0) (m := 9) (p := ⟨ad, L.set r z⟩) rfl (by simp)
      have HA := hid (HPS1.out.copy 0)
      rw [g1.1, g1.2] at HA
      clear g1
      go_wp2_with fail
      refine HA.out.mono ?_
      rintro _ w10 ⟨rfl, hp, hk⟩
      have HPS2 := hid hp
      have HKS2 := hid (HKS1.out.trans hk)
      clear hp hk HA HPS1 HKS1
      have g1 : spE [⟨ad, L.set r z⟩, ⟨ad, L.set r z⟩] 0 (r : Int) x = 0 ∧ spS [⟨ad, L.set r z⟩, ⟨ad, L.set r z⟩] 0 (r : Int) x = [⟨ad, L⟩, ⟨ad, L.set r z⟩] := by
        have h := sp_do (S := [⟨ad, L.set r z⟩, ⟨ad, L.set r z⟩]) (i := 0) (a := r) (p := ⟨ad, L.set r z⟩) rfl HRL2.out hxz
        rw [HQ.out] at h
        exact h
      have HA := hid (HPS2.out.spoil 0 (r : Int) hx)
      rw [g1.1, g1.2] at HA
      clear g1
      go_wp2_with fail
      refine HA.out.mono ?_
      rintro _ w11 ⟨rfl, hp, hk⟩
      have HPS3 := hid hp
      have HKS3 := hid (HKS2.out.trans hk)
      clear hp hk HA HPS2 HKS2
      have g1 : coE 9 [⟨ad, L⟩, ⟨ad, L.set r z⟩] 0 = 0 ∧ coS 9 [⟨ad, L⟩, ⟨ad, L.set r z⟩] 0 = [⟨ad, L⟩, ⟨ad, L.set r z⟩, ⟨ad, L⟩] := co_do (S := [⟨ad, L⟩, ⟨ad, L.set r z⟩]) (i := 0) (m := 9) (p := ⟨ad, L⟩) rfl (by simp)
      have HA := hid (HPS3.out.copy 0)
      rw [g1.1, g1.2] at HA
      clear g1
      go_wp2_with fail
      refine HA.out.mono ?_
      rintro _ w12 ⟨rfl, hp, hk⟩
      have HPS4 := hid hp
      have HKS4 := hid (HKS3.out.trans hk)
      clear hp hk HA HPS3 HKS3
      have g1 : spE [⟨ad, L⟩, ⟨ad, L.set r z⟩, ⟨ad, L⟩] 1 (r : Int) x = 0 ∧ spS [⟨ad, L⟩, ⟨ad, L.set r z⟩, ⟨ad, L⟩] 1 (r : Int) x = [⟨ad, L⟩, ⟨ad, L⟩, ⟨ad, L⟩] := by
        have h := sp_do (S := [⟨ad, L⟩, ⟨ad, L.set r z⟩, ⟨ad, L⟩]) (i := 1) (a := r) (p := ⟨ad, L.set r z⟩) rfl HRL2.out hxz
        rw [HQ.out] at h
        exact h
      have HA := hid (HPS4.out.spoil 1 (r : Int) hx)
      rw [g1.1, g1.2] at HA
      clear g1
      go_wp2_with fail
      refine HA.out.mono ?_
      rintro _ w13 ⟨rfl, hp, hk⟩
      have HPS5 := hid hp
      have HKS5 := hid (HKS4.out.trans hk)
      clear hp hk HA HPS4 HKS4
      have g1 : coE 9 [⟨ad, L⟩, ⟨ad, L⟩, ⟨ad, L⟩] 1 = 0 ∧ coS 9 [⟨ad, L⟩, ⟨ad, L⟩, ⟨ad, L⟩] 1 = [⟨ad, L⟩, ⟨ad, L⟩, ⟨ad, L⟩, ⟨ad, L⟩] := co_do (S := [⟨ad, L⟩, ⟨ad, L⟩, ⟨ad, L⟩]) (i := 1) (m := 9) (p := ⟨ad, L⟩) rfl (by simp)
      have HA := hid (HPS5.out.copy 1)
      rw [g1.1, g1.2] at HA
      clear g1
      go_wp2_with fail
      refine HA.out.mono ?_
      rintro _ w14 ⟨rfl, hp, hk⟩
      have HPS6 := hid hp
      have HKS6 := hid (HKS5.out.trans hk)
      clear hp hk HA HPS5 HKS5
      have g1 : spE [⟨ad, L⟩, ⟨ad, L⟩, ⟨ad, L⟩, ⟨ad, L⟩] 1 (r : Int) x = 0 ∧ spS [⟨ad, L⟩, ⟨ad, L⟩, ⟨ad, L⟩, ⟨ad, L⟩] 1 (r : Int) x = [⟨ad, L⟩, ⟨ad, L.set r z⟩, ⟨ad, L⟩, ⟨ad, L⟩] := by
        have h := sp_do (S := [⟨ad, L⟩, ⟨ad, L⟩, ⟨ad, L⟩, ⟨ad, L⟩]) (i := 1) (a := r) (p := ⟨ad, L⟩) rfl HRL.out hxz
        rw [HSP.out] at h
        exact h
      have HA := hid (HPS6.out.spoil 1 (r : Int) hx)
      rw [g1.1, g1.2] at HA
      clear g1
      go_wp2_with fail
      refine HA.out.mono ?_
      rintro _ w15 ⟨rfl, hp, hk⟩
      have HPS7 := hid hp
      have HKS7 := hid (HKS6.out.trans hk)
      clear hp hk HA HPS6 HKS6
      have HRB : Hid (w15.heap[b]? = some (.cells #[.int .u32 (ad : Int), .slice ua n uc] 41 (0, 0))) := HKS7.out.mem HRB7.out fun e => e hKb
      have HR6 : Hid (w15.heap[b6]? = some (.cells #[.int .u32 (ad : Int), .slice (some ⟨g, 0, none⟩) gn gc] 41 (0, 0))) := HKS7.out.mem HR67.out fun e => e hK6
      have HKU9 := hid (HKU.out.keeps HKS7.out fun k h1 h2 => h2 h1)
      have HT9 := hid (HT7.out.keeps HKS7.out fun k h1 h2 => h2 h1)
      have HLD : Hid (∀ u : World, Below w15.heap.size w15 u → (u.cell? ⟨b, 0, none⟩ = some (.int .u32 (ad : Int)) ∧ u.cell? ⟨b, 1, none⟩ = some (.slice ua n uc)) ∧ u.cell? ⟨b6, 0, none⟩ = some (.int .u32 (ad : Int)) ∧ u.cell? ⟨b6, 1, none⟩ = some (.slice (some ⟨g, 0, none⟩) gn gc)) := fun u hu => by
        have x1 := below_keeps hu HRB.out (Array.getElem?_eq_some_iff.1 HRB.out).1
        have x2 := below_keeps hu HR6.out (Array.getElem?_eq_some_iff.1 HR6.out).1
        refine ⟨⟨?_, ?_⟩, ?_, ?_⟩
        · rw [cell_of_row _ _ _ _ _ _ x1]; rfl
        · rw [cell_of_row _ _ _ _ _ _ x1]; rfl
        · rw [cell_of_row _ _ _ _ _ _ x2]; rfl
        · rw [cell_of_row _ _ _ _ _ _ x2]; rfl
      have HBE : Hid (Below w.heap.size w w15) := HBW.out.trans (HPS7.out.be.mono HBW.out.size)
      clear HKS7 HRB HR6
      go_upto_region 15 with fail
      refine wp_region_mono' 8 (fun i => 110 + i) (FSt pb [⟨ad, L⟩, ⟨ad, L.set r z⟩, ⟨ad, L⟩, ⟨ad, L⟩] (.agg #[.int .u32 (ad : Int), .slice ua n uc]) (.agg #[.int .u32 (ad : Int), .slice (some ⟨g, 0, none⟩) gn gc]) #[.int .u32 (ad : Int), .slice ua n uc, .int .u32 (ad : Int), .slice (some ⟨g, 0, none⟩) gn gc, .int .u32 (ad : Int), .slice ua n uc, .int .u32 (ad : Int), .slice ua n uc]) (by kernel_rfl) (by kernel_rfl) (FSt.keeps _ _ _ _ _) ?_ ?_
      · simp only [List.take_succ_cons, List.take_zero, N.stepsOk]
        refine ⟨?_, ?_, ?_, ?_, ?_, ?_, ?_, ?_, trivial⟩
        · intro a u vs hb hold hdep
          exact wp_val (ex_move (.tmp 7) _ rfl (hold 7 (fun j hj => low (by decide)))) ⟨_, rfl, rfl, hb, Below.refl _ _⟩
        · intro a u vs hb hold hdep
          have h0 := hdep ⟨0, .data⟩ (by simp) rfl (by decide)
          have e0 : a.eval (.tmp 110) = .pointer (some ⟨pb, 0, none⟩) := h0.1.trans h0.2
          refine wp_call 20 _ _ rfl (enters_of Try.func20 (by kernel_rfl) rfl) #[.pointer (some ⟨pb, 0, none⟩)] (by simp only [List.map_toArray, List.map_cons, List.map_nil, e0]) ?_
          refine ((HPS7.out.below hb).list).mono ?_
          rintro _ u' ⟨a', n', c', rfl, hb', ⟨E', f1, f2, -⟩, -⟩
          exact ⟨_, rfl, _, rfl, ⟨_, _, _, E', rfl, f1, f2⟩, hb.trans (hb'.mono hb.size), hb'⟩
        · intro a u vs hb hold hdep
          exact wp_val (ex_load _ _ (.tmp 3) _ rfl (hold 3 (fun j hj => low (by decide))) (load_sn (HLD.out u hb).1.1 (HLD.out u hb).1.2)) ⟨_, rfl, rfl, hb, Below.refl _ _⟩
        · intro a u vs hb hold hdep
          exact wp_val (ex_load _ _ (.tmp 10) _ rfl (hold 10 (fun j hj => low (by decide))) (load_sn (HLD.out u hb).2.1 (HLD.out u hb).2.2)) ⟨_, rfl, rfl, hb, Below.refl _ _⟩
        · intro a u vs hb hold hdep
          exact wp_val (ex_load _ _ (.tmp 3) _ rfl (hold 3 (fun j hj => low (by decide))) (load_sn (HLD.out u hb).1.1 (HLD.out u hb).1.2)) ⟨_, rfl, rfl, hb, Below.refl _ _⟩
        · intro a u vs hb hold hdep
          exact wp_val (ex_load _ _ (.tmp 3) _ rfl (hold 3 (fun j hj => low (by decide))) (load_sn (HLD.out u hb).1.1 (HLD.out u hb).1.2)) ⟨_, rfl, rfl, hb, Below.refl _ _⟩
        · intro a u vs hb hold hdep
          have h2 := hdep ⟨2, .data⟩ (by simp) rfl (by decide)
          have h3 := hdep ⟨3, .data⟩ (by simp) rfl (by decide)
          have h4 := hdep ⟨4, .data⟩ (by simp) rfl (by decide)
          have h5 := hdep ⟨5, .data⟩ (by simp) rfl (by decide)
          have e2 : a.eval (.tmp 112) = _ := h2.1.trans h2.2
          have e3 : a.eval (.tmp 113) = _ := h3.1.trans h3.2
          have e4 : a.eval (.tmp 114) = _ := h4.1.trans h4.2
          have e5 : a.eval (.tmp 115) = _ := h5.1.trans h5.2
          have hba : Below u.heap.size u (u.alloc (.cells #[.int .u32 (ad : Int), .slice ua n uc, .int .u32 (ad : Int), .slice (some ⟨g, 0, none⟩) gn gc, .int .u32 (ad : Int), .slice ua n uc, .int .u32 (ad : Int), .slice ua n uc] 41)) := (Below.refl _ _).alloc (Nat.le_refl _) _
          exact wp_val (ex_bsK _ 4 _ _ _ rfl (by simp only [List.map_toArray, List.map_cons, List.map_nil, e2, e3, e4, e5]) (build_4 _ _ _ _ u)) ⟨_, rfl, ⟨_, rfl, heap_alloc_new u _⟩, hb.trans (hba.mono hb.size), hba⟩
        · intro a u vs hb hold hdep
          have h1 := hdep ⟨1, .data⟩ (by simp) rfl (by decide)
          have h6 := hdep ⟨6, .data⟩ (by simp) rfl (by decide)
          obtain ⟨a', n', c', E', v1, f1, f2⟩ := h1.2
          obtain ⟨b', v6, f6⟩ := h6.2
          have e1 : a.eval (.tmp 111) = .slice a' n' c' := h1.1.trans v1
          have e6 : a.eval (.tmp 116) = .slice (some ⟨b', 0, none⟩) 4 4 := h6.1.trans v6
          refine wp_call 19 _ _ rfl (enters_of Try.func19 (by kernel_rfl) rfl) #[.slice a' n' c', .slice (some ⟨b', 0, none⟩) 4 4] (by simp only [List.map_toArray, List.map_cons, List.map_nil, e1, e6]) ?_
          have s1 := f1.sees
          rw [f2] at s1
          refine (sents_any _ _ _ _ (fun _ => True) u s1 (sees_four f6 trivial ((HKU9.out.below hb).weak fun _ _ _ => trivial) ((HT9.out.below hb).weak fun _ _ _ => trivial) had)).mono ?_
          rintro _ u' ⟨rfl, hb'⟩
          exact ⟨_, rfl, _, rfl, rfl, hb.trans (hb'.mono hb.size), hb'⟩
      intro vs u hb hF
      have e7 : vs 7 = .bool true := hF 7 (by decide)
      have HBU := hid (HBE.out.trans (hb.mono HBE.out.size))
      simp only [List.drop_succ_cons, List.drop_zero, puts, List.range, List.range.loop, List.foldr, if_true, e7, Act.put, List.setIfInBounds_toArray, List.set_cons_zero, List.set_cons_succ]
      clear hF e7 hb
      generalize vs 0 = u0 at *
      generalize vs 1 = u1 at *
      generalize vs 2 = u2 at *
      generalize vs 3 = u3 at *
      generalize vs 4 = u4 at *
      generalize vs 5 = u5 at *
      generalize vs 6 = u6 at *
      go_wp2_with fail
      go_ret
      exact ⟨rfl, HBU.out⟩
    · have z0 : decide (i < 0) = false := by simpa using hneg
      obtain ⟨A, rfl⟩ : ∃ A : Nat, i = (A : Int) := ⟨i.toNat, by omega⟩
      go_upto_region 8 with fail
      clear z0 hneg hil hih
      obtain ⟨r, hr⟩ : ∃ r, r = A % n := ⟨_, rfl⟩
      have hrn : r < n := by rw [hr]; exact Nat.mod_lt _ (by omega)
      have e1 : (A : Int) % (n : Int) = (r : Int) := by rw [hr]; simp
      have e2 : (A : Int).tmod (n : Int) = (r : Int) := by rw [hr]; rfl
      have HRL : Hid (r < L.length) := by unfold Hid; rw [← HN.out]; exact hrn
      clear hr
      have HCL := hid (clone_any w3 _ _ L (HU1.out.below HP3.out.be) (by have := HN.out; omega))
      go_wp2_with fail
      refine HCL.out.mono ?_
      rintro _ w4 ⟨ga, gn, gc, rfl, ho4, hb4⟩
      have hne : L ≠ [] := fun e => by have := HRL.out; rw [e] at this; simp at this
      obtain ⟨g, gn', gc', hgs, HGN, hgb, hgc, hgm, hfz⟩ := ho4.grip hne
      simp only [Value.slice.injEq] at hgs
      obtain ⟨rfl, rfl, rfl⟩ := hgs
      have hby := HU1.out.bytes
      obtain ⟨y, hy⟩ : ∃ y, L[r]? = some y := ⟨_, List.getElem?_eq_getElem HRL.out⟩
      have hyb : y < 256 := hby y (List.mem_of_getElem? hy)
      have hcell : w4.cell? ⟨g, r, none⟩ = some (.int .u8 (y : Int)) := by
        obtain ⟨g2, o2, p2, hp2, -, hcl, -, HPP⟩ := (ho4.sees hby).at r (by have := HGN.out; have := HRL.out; omega)
        simp only [Option.some.injEq, Addr.mk.injEq, and_true] at hp2
        obtain ⟨rfl, rfl⟩ := hp2
        have := HPP.out
        rw [hy] at this
        cases this
        rw [Nat.zero_add] at hcl
        exact hcl
      have hfr := hfz r
      have hxor : bits .xor .u8 (y : Int) (x : Int) = ((y ^^^ x : Nat) : Int) := u8_xor_nat y x hyb hx
      have hzb : y ^^^ x < 256 := Nat.xor_lt_two_pow (n := 8) hyb hx
      have HSP : Hid (spP ⟨ad, L⟩ r x = ⟨ad, L.set r (y ^^^ x)⟩) := by
        unfold Hid spP; simp only; rw [List.getD_eq_getElem?_getD, hy]; rfl
      obtain ⟨z, HZ⟩ : ∃ z, Hid (z = y ^^^ x) := ⟨_, rfl⟩
      rw [← HZ.out] at hxor HSP hzb
      obtain ⟨w5, HW5⟩ : ∃ w5, Hid (w5 = w4.setCell ⟨g, r, none⟩ (.int .u8 (z : Int))) := ⟨_, rfl⟩
      have ho5 : OwnB w5 w3.heap.size (.slice (some ⟨g, 0, none⟩) gn gc) (L.set r z) := by rw [HW5.out]; exact ho4.put r z
      have hk5 : Keeps (fun k => k = g) w4 w5 := by rw [HW5.out]; exact Keeps.set (S := fun k => k = g) (Keeps.refl _ _) ⟨g, r, none⟩ rfl _
      have hb5 : Below w3.heap.size w3 w5 := hk5.below' hb4 (fun k e => by omega) (Nat.le_refl _)
      obtain ⟨w6, HW6⟩ : ∃ w6, Hid (w6 = w5.alloc (.cells #[.int .u32 (ad : Int), .slice (some ⟨g, 0, none⟩) gn gc] 41)) := ⟨_, rfl⟩
      have hb56 : Below w5.heap.size w5 w6 := by rw [HW6.out]; exact (Below.refl _ _).alloc (Nat.le_refl _) _
      obtain ⟨b6, HB6⟩ : ∃ b, Hid (b = w5.heap.size) := ⟨_, rfl⟩
      have r6 : w6.heap[b6]? = some (.cells #[.int .u32 (ad : Int), .slice (some ⟨g, 0, none⟩) gn gc] 41 (0, 0)) := by rw [HW6.out, HB6.out]; exact heap_alloc_new w5 _
      have hb6 : Below w3.heap.size w3 w6 := hb5.trans (hb56.mono hb5.size)
      obtain ⟨w7, HW7⟩ : ∃ w7, Hid (w7 = w6.alloc (.cells #[.int .u32 (ad : Int), .slice ua n uc] 41)) := ⟨_, rfl⟩
      have hb67 : Below w6.heap.size w6 w7 := by rw [HW7.out]; exact (Below.refl _ _).alloc (Nat.le_refl _) _
      obtain ⟨b7, HB7⟩ : ∃ b, Hid (b = w6.heap.size) := ⟨_, rfl⟩
      have r7 : w7.heap[b7]? = some (.cells #[.int .u32 (ad : Int), .slice ua n uc] 41 (0, 0)) := by rw [HW7.out, HB7.out]; exact heap_alloc_new w6 _
      have hb7 : Below w3.heap.size w3 w7 := hb6.trans (hb67.mono hb6.size)
      obtain ⟨K, HK⟩ : ∃ K : Nat → Prop, Hid (K = fun k => k < w1.heap.size ∨ (w3.heap.size ≤ k ∧ k < w7.heap.size)) := ⟨_, rfl⟩
      have HP7 : Hid (Pn w1 K w7 pb 9 []) := HP3.out.more hb7 fun k e => by
        rw [HK.out] at e
        have h1 := HP3.out.be.size
        have h2 := hb7.size
        rcases e with e | e
        · exact ⟨.inl e, by omega⟩
        · exact ⟨.inr e.1, e.2⟩
      have hKU : SeesB K w7 (.slice ua n uc) L := (HU1.out.below (HP3.out.be.trans (hb7.mono HP3.out.be.size))).weak fun k _ e => by rw [HK.out]; exact .inl e
      have HKU := hid hKU
      have hlt7 : ∀ k o, w7.heap[k]? = some o → w3.heap.size ≤ k → K k := fun k o h1 h2 => by rw [HK.out]; exact .inr ⟨h2, (Array.getElem?_eq_some_iff.1 h1).1⟩
      have HT7 : Hid (SeesB K w7 (.slice (some ⟨g, 0, none⟩) gn gc) (L.set r z)) := by
        have h1 : OwnB w7 w3.heap.size (.slice (some ⟨g, 0, none⟩) gn gc) (L.set r z) := (OwnB.below ho5 hb56).below hb67
        refine (h1.sees fun q hq => ?_).weak fun k hk e => ?_
        · rcases List.mem_or_eq_of_mem_set hq with h | rfl
          · exact hby q h
          · exact hzb
        · have := (h1.lt e).1
          rw [HK.out]; exact .inr ⟨this, hk⟩
      have hK7 : K b7 := hlt7 b7 _ r7 (by have := HB7.out; have := hb6.size; omega)
      have hK6 : K b6 := hlt7 b6 _ (below_keeps hb67 r6 (Array.getElem?_eq_some_iff.1 r6).1) (by have := HB6.out; have := hb5.size; omega)
      have HSO := hid (sees_one r7 hK7 hKU had)
      have HR67 : Hid (w7.heap[b6]? = some (.cells #[.int .u32 (ad : Int), .slice (some ⟨g, 0, none⟩) gn gc] 41 (0, 0))) := below_keeps hb67 r6 (Array.getElem?_eq_some_iff.1 r6).1
      have HRB7 : Hid (w7.heap[b]? = some (.cells #[.int .u32 (ad : Int), .slice ua n uc] 41 (0, 0))) := below_keeps (HP3.out.be.trans (hb7.mono HP3.out.be.size)) R1.out (Array.getElem?_eq_some_iff.1 R1.out).1
      have hKb : K b := by rw [HK.out]; exact .inl (Array.getElem?_eq_some_iff.1 R1.out).1
      have d0 : w6.cell? ⟨b, 0, none⟩ = some (.int .u32 (ad : Int)) := (HCB.out w6 (HP3.out.be.trans (hb6.mono HP3.out.be.size))).1
      have d1 : w6.cell? ⟨b, 1, none⟩ = some (.slice ua n uc) := (HCB.out w6 (HP3.out.be.trans (hb6.mono HP3.out.be.size))).2
      have f0 : w5.cell? ⟨b, 0, none⟩ = some (.int .u32 (ad : Int)) := (HCB.out w5 (HP3.out.be.trans (hb5.mono HP3.out.be.size))).1
      have q1 : (r : Int) < (gn : Int) := by have := HGN.out; have := HRL.out; omega
      have q2 : (0 : Int) ≤ (r : Int) := by omega
      have hgc' : gn ≤ gc := hgc
      clear ho4 hb4 hne hgb hgm hfz hby hy hyb hzb ho5 hk5 hb5 hb56 r6 hb6 hb67 r7 hb7 hKU hlt7 HCL hgc
      go_upto_region 11 with fail
      rw [← HW5.out]
      clear hcell hfr hxor c0 c1
      go_upto_region 12 with fail
      rw [← HW6.out, ← HB6.out]
      clear f0
      have HPU := hid (HP7.out.put HSO.out)
      have hpa := pu_all (m := 9) (S := []) (L := [⟨ad, L⟩]) (fun p hp => by simp at hp; rw [hp]; simp only; have := HN.out; omega) (by simp)
      rw [hpa.1, hpa.2.1, hpa.2.2] at HPU
      clear hpa
      go_wp2_with fail
      rw [← HW7.out, ← HB7.out]
      refine HPU.out.mono ?_
      rintro _ w8 ⟨rfl, hp8, hk8⟩
      have HPS0 := hid hp8
      have HKS0 := hid hk8
      have HQ : Hid (spP ⟨ad, L.set r z⟩ r x = ⟨ad, L⟩) := by unfold Hid; rw [← HSP.out]; exact sp_twice _ r x HRL.out
      have HRL2 : Hid (r < (L.set r z).length) := by unfold Hid; rw [List.length_set]; exact HRL.out
      clear hp8 hk8 HPU HSO d0 d1
      simp only [List.nil_append] at HPS0
      have g1 : spE [⟨ad, L⟩] 0 (r : Int) x = 0 ∧ spS [⟨ad, L⟩] 0 (r : Int) x = [⟨ad, L.set r z⟩] := by
        have h := sp_do (S := [⟨ad, L⟩]) (i := 0) (a := r) (p := ⟨ad, L⟩) rfl HRL.out hxz
        rw [HSP.out] at h
        exact h
      have HA := hid (HPS0.out.spoil 0 (r : Int) hx)
      rw [g1.1, g1.2] at HA
      clear g1
      go_wp2_with fail
      refine HA.out.mono ?_
      rintro _ w9 ⟨rfl, hp, hk⟩
      have HPS1 := hid hp
      have HKS1 := hid (HKS0.out.trans hk)
      clear hp hk HA HPS0 HKS0
      have g1 : coE 9 [⟨ad, L.set r z⟩] 0 = 0 ∧ coS 9 [⟨ad, L.set r z⟩] 0 = [⟨ad, L.set r z⟩, ⟨ad, L.set r z⟩] := co_do (S := [⟨ad, L.set r z⟩]) (i := 0) (m := 9) (p := ⟨ad, L.set r z⟩) rfl (by simp)
      have HA := hid (HPS1.out.copy 0)
      rw [g1.1, g1.2] at HA
      clear g1
      go_wp2_with fail
      refine HA.out.mono ?_
      rintro _ w10 ⟨rfl, hp, hk⟩
      have HPS2 := hid hp
      have HKS2 := hid (HKS1.out.trans hk)
      clear hp hk HA HPS1 HKS1
      have g1 : spE [⟨ad, L.set r z⟩, ⟨ad, L.set r z⟩] 0 (r : Int) x = 0 ∧ spS [⟨ad, L.set r z⟩, ⟨ad, L.set r z⟩] 0 (r : Int) x = [⟨ad, L⟩, ⟨ad, L.set r z⟩] := by
        have h := sp_do (S := [⟨ad, L.set r z⟩, ⟨ad, L.set r z⟩]) (i := 0) (a := r) (p := ⟨ad, L.set r z⟩) rfl HRL2.out hxz
        rw [HQ.out] at h
        exact h
      have HA := hid (HPS2.out.spoil 0 (r : Int) hx)
      rw [g1.1, g1.2] at HA
      clear g1
      go_wp2_with fail
      refine HA.out.mono ?_
      rintro _ w11 ⟨rfl, hp, hk⟩
      have HPS3 := hid hp
      have HKS3 := hid (HKS2.out.trans hk)
      clear hp hk HA HPS2 HKS2
      have g1 : coE 9 [⟨ad, L⟩, ⟨ad, L.set r z⟩] 0 = 0 ∧ coS 9 [⟨ad, L⟩, ⟨ad, L.set r z⟩] 0 = [⟨ad, L⟩, ⟨ad, L.set r z⟩, ⟨ad, L⟩] := co_do (S := [⟨ad, L⟩, ⟨ad, L.set r z⟩]) (i := 0) (m := 9) (p := ⟨ad, L⟩) rfl (by simp)
      have HA := hid (HPS3.out.copy 0)
      rw [g1.1, g1.2] at HA
      clear g1
      go_wp2_with fail
      refine HA.out.mono ?_
      rintro _ w12 ⟨rfl, hp, hk⟩
      have HPS4 := hid hp
      have HKS4 := hid (HKS3.out.trans hk)
      clear hp hk HA HPS3 HKS3
      have g1 : spE [⟨ad, L⟩, ⟨ad, L.set r z⟩, ⟨ad, L⟩] 1 (r : Int) x = 0 ∧ spS [⟨ad, L⟩, ⟨ad, L.set r z⟩, ⟨ad, L⟩] 1 (r : Int) x = [⟨ad, L⟩, ⟨ad, L⟩, ⟨ad, L⟩] := by
        have h := sp_do (S := [⟨ad, L⟩, ⟨ad, L.set r z⟩, ⟨ad, L⟩]) (i := 1) (a := r) (p := ⟨ad, L.set r z⟩) rfl HRL2.out hxz
        rw [HQ.out] at h
        exact h
      have HA := hid (HPS4.out.spoil 1 (r : Int) hx)
      rw [g1.1, g1.2] at HA
      clear g1
      go_wp2_with fail
      refine HA.out.mono ?_
      rintro _ w13 ⟨rfl, hp, hk⟩
      have HPS5 := hid hp
      have HKS5 := hid (HKS4.out.trans hk)
      clear hp hk HA HPS4 HKS4
      have g1 : coE 9 [⟨ad, L⟩, ⟨ad, L⟩, ⟨ad, L⟩] 1 = 0 ∧ coS 9 [⟨ad, L⟩, ⟨ad, L⟩, ⟨ad, L⟩] 1 = [⟨ad, L⟩, ⟨ad, L⟩, ⟨ad, L⟩, ⟨ad, L⟩] := co_do (S := [⟨ad, L⟩, ⟨ad, L⟩, ⟨ad, L⟩]) (i := 1) (m := 9) (p := ⟨ad, L⟩) rfl (by simp)
      have HA := hid (HPS5.out.copy 1)
      rw [g1.1, g1.2] at HA
      clear g1
      go_wp2_with fail
      refine HA.out.mono ?_
      rintro _ w14 ⟨rfl, hp, hk⟩
      have HPS6 := hid hp
      have HKS6 := hid (HKS5.out.trans hk)
      clear hp hk HA HPS5 HKS5
      have g1 : spE [⟨ad, L⟩, ⟨ad, L⟩, ⟨ad, L⟩, ⟨ad, L⟩] 1 (r : Int) x = 0 ∧ spS [⟨ad, L⟩, ⟨ad, L⟩, ⟨ad, L⟩, ⟨ad, L⟩] 1 (r : Int) x = [⟨ad, L⟩, ⟨ad, L.set r z⟩, ⟨ad, L⟩, ⟨ad, L⟩] := by
        have h := sp_do (S := [⟨ad, L⟩, ⟨ad, L⟩, ⟨ad, L⟩, ⟨ad, L⟩]) (i := 1) (a := r) (p := ⟨ad, L⟩) rfl HRL.out hxz
        rw [HSP.out] at h
        exact h
      have HA := hid (HPS6.out.spoil 1 (r : Int) hx)
      rw [g1.1, g1.2] at HA
      clear g1
      go_wp2_with fail
      refine HA.out.mono ?_
      rintro _ w15 ⟨rfl, hp, hk⟩
      have HPS7 := hid hp
      have HKS7 := hid (HKS6.out.trans hk)
      clear hp hk HA HPS6 HKS6
      have HRB : Hid (w15.heap[b]? = some (.cells #[.int .u32 (ad : Int), .slice ua n uc] 41 (0, 0))) := HKS7.out.mem HRB7.out fun e => e hKb
      have HR6 : Hid (w15.heap[b6]? = some (.cells #[.int .u32 (ad : Int), .slice (some ⟨g, 0, none⟩) gn gc] 41 (0, 0))) := HKS7.out.mem HR67.out fun e => e hK6
      have HKU9 := hid (HKU.out.keeps HKS7.out fun k h1 h2 => h2 h1)
      have HT9 := hid (HT7.out.keeps HKS7.out fun k h1 h2 => h2 h1)
      have HLD : Hid (∀ u : World, Below w15.heap.size w15 u → (u.cell? ⟨b, 0, none⟩ = some (.int .u32 (ad : Int)) ∧ u.cell? ⟨b, 1, none⟩ = some (.slice ua n uc)) ∧ u.cell? ⟨b6, 0, none⟩ = some (.int .u32 (ad : Int)) ∧ u.cell? ⟨b6, 1, none⟩ = some (.slice (some ⟨g, 0, none⟩) gn gc)) := fun u hu => by
        have x1 := below_keeps hu HRB.out (Array.getElem?_eq_some_iff.1 HRB.out).1
        have x2 := below_keeps hu HR6.out (Array.getElem?_eq_some_iff.1 HR6.out).1
        refine ⟨⟨?_, ?_⟩, ?_, ?_⟩
        · rw [cell_of_row _ _ _ _ _ _ x1]; rfl
        · rw [cell_of_row _ _ _ _ _ _ x1]; rfl
        · rw [cell_of_row _ _ _ _ _ _ x2]; rfl
        · rw [cell_of_row _ _ _ _ _ _ x2]; rfl
      have HBE : Hid (Below w.heap.size w w15) := HBW.out.trans (HPS7.out.be.mono HBW.out.size)
      clear HKS7 HRB HR6
      go_upto_region 15 with fail
      refine wp_region_mono' 8 (fun i => 110 + i) (FSt pb [⟨ad, L⟩, ⟨ad, L.set r z⟩, ⟨ad, L⟩, ⟨ad, L⟩] (.agg #[.int .u32 (ad : Int), .slice ua n uc]) (.agg #[.int .u32 (ad : Int), .slice (some ⟨g, 0, none⟩) gn gc]) #[.int .u32 (ad : Int), .slice ua n uc, .int .u32 (ad : Int), .slice (some ⟨g, 0, none⟩) gn gc, .int .u32 (ad : Int), .slice ua n uc, .int .u32 (ad : Int), .slice ua n uc]) (by kernel_rfl) (by kernel_rfl) (FSt.keeps _ _ _ _ _) ?_ ?_
      · simp only [List.take_succ_cons, List.take_zero, N.stepsOk]
        refine ⟨?_, ?_, ?_, ?_, ?_, ?_, ?_, ?_, trivial⟩
        · intro a u vs hb hold hdep
          exact wp_val (ex_move (.tmp 7) _ rfl (hold 7 (fun j hj => low (by decide)))) ⟨_, rfl, rfl, hb, Below.refl _ _⟩
        · intro a u vs hb hold hdep
          have h0 := hdep ⟨0, .data⟩ (by simp) rfl (by decide)
          have e0 : a.eval (.tmp 110) = .pointer (some ⟨pb, 0, none⟩) := h0.1.trans h0.2
          refine wp_call 20 _ _ rfl (enters_of Try.func20 (by kernel_rfl) rfl) #[.pointer (some ⟨pb, 0, none⟩)] (by simp only [List.map_toArray, List.map_cons, List.map_nil, e0]) ?_
          refine ((HPS7.out.below hb).list).mono ?_
          rintro _ u' ⟨a', n', c', rfl, hb', ⟨E', f1, f2, -⟩, -⟩
          exact ⟨_, rfl, _, rfl, ⟨_, _, _, E', rfl, f1, f2⟩, hb.trans (hb'.mono hb.size), hb'⟩
        · intro a u vs hb hold hdep
          exact wp_val (ex_load _ _ (.tmp 3) _ rfl (hold 3 (fun j hj => low (by decide))) (load_sn (HLD.out u hb).1.1 (HLD.out u hb).1.2)) ⟨_, rfl, rfl, hb, Below.refl _ _⟩
        · intro a u vs hb hold hdep
          exact wp_val (ex_load _ _ (.tmp 10) _ rfl (hold 10 (fun j hj => low (by decide))) (load_sn (HLD.out u hb).2.1 (HLD.out u hb).2.2)) ⟨_, rfl, rfl, hb, Below.refl _ _⟩
        · intro a u vs hb hold hdep
          exact wp_val (ex_load _ _ (.tmp 3) _ rfl (hold 3 (fun j hj => low (by decide))) (load_sn (HLD.out u hb).1.1 (HLD.out u hb).1.2)) ⟨_, rfl, rfl, hb, Below.refl _ _⟩
        · intro a u vs hb hold hdep
          exact wp_val (ex_load _ _ (.tmp 3) _ rfl (hold 3 (fun j hj => low (by decide))) (load_sn (HLD.out u hb).1.1 (HLD.out u hb).1.2)) ⟨_, rfl, rfl, hb, Below.refl _ _⟩
        · intro a u vs hb hold hdep
          have h2 := hdep ⟨2, .data⟩ (by simp) rfl (by decide)
          have h3 := hdep ⟨3, .data⟩ (by simp) rfl (by decide)
          have h4 := hdep ⟨4, .data⟩ (by simp) rfl (by decide)
          have h5 := hdep ⟨5, .data⟩ (by simp) rfl (by decide)
          have e2 : a.eval (.tmp 112) = _ := h2.1.trans h2.2
          have e3 : a.eval (.tmp 113) = _ := h3.1.trans h3.2
          have e4 : a.eval (.tmp 114) = _ := h4.1.trans h4.2
          have e5 : a.eval (.tmp 115) = _ := h5.1.trans h5.2
          have hba : Below u.heap.size u (u.alloc (.cells #[.int .u32 (ad : Int), .slice ua n uc, .int .u32 (ad : Int), .slice (some ⟨g, 0, none⟩) gn gc, .int .u32 (ad : Int), .slice ua n uc, .int .u32 (ad : Int), .slice ua n uc] 41)) := (Below.refl _ _).alloc (Nat.le_refl _) _
          exact wp_val (ex_bsK _ 4 _ _ _ rfl (by simp only [List.map_toArray, List.map_cons, List.map_nil, e2, e3, e4, e5]) (build_4 _ _ _ _ u)) ⟨_, rfl, ⟨_, rfl, heap_alloc_new u _⟩, hb.trans (hba.mono hb.size), hba⟩
        · intro a u vs hb hold hdep
          have h1 := hdep ⟨1, .data⟩ (by simp) rfl (by decide)
          have h6 := hdep ⟨6, .data⟩ (by simp) rfl (by decide)
          obtain ⟨a', n', c', E', v1, f1, f2⟩ := h1.2
          obtain ⟨b', v6, f6⟩ := h6.2
          have e1 : a.eval (.tmp 111) = .slice a' n' c' := h1.1.trans v1
          have e6 : a.eval (.tmp 116) = .slice (some ⟨b', 0, none⟩) 4 4 := h6.1.trans v6
          refine wp_call 19 _ _ rfl (enters_of Try.func19 (by kernel_rfl) rfl) #[.slice a' n' c', .slice (some ⟨b', 0, none⟩) 4 4] (by simp only [List.map_toArray, List.map_cons, List.map_nil, e1, e6]) ?_
          have s1 := f1.sees
          rw [f2] at s1
          refine (sents_any _ _ _ _ (fun _ => True) u s1 (sees_four f6 trivial ((HKU9.out.below hb).weak fun _ _ _ => trivial) ((HT9.out.below hb).weak fun _ _ _ => trivial) had)).mono ?_
          rintro _ u' ⟨rfl, hb'⟩
          exact ⟨_, rfl, _, rfl, rfl, hb.trans (hb'.mono hb.size), hb'⟩
      intro vs u hb hF
      have e7 : vs 7 = .bool true := hF 7 (by decide)
      have HBU := hid (HBE.out.trans (hb.mono HBE.out.size))
      simp only [List.drop_succ_cons, List.drop_zero, puts, List.range, List.range.loop, List.foldr, if_true, e7, Act.put, List.setIfInBounds_toArray, List.set_cons_zero, List.set_cons_succ]
      clear hF e7 hb
      generalize vs 0 = u0 at *
      generalize vs 1 = u1 at *
      generalize vs 2 = u2 at *
      generalize vs 3 = u3 at *
      generalize vs 4 = u4 at *
      generalize vs 5 = u5 at *
      generalize vs 6 = u6 at *
      go_wp2_with fail
      go_ret
      exact ⟨rfl, HBU.out⟩
end Go.Proofs.Ytaelfhjhinfikab
