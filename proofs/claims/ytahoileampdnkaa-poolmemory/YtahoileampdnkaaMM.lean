/-
  (*Pool).Taken.
-/
import Derived.Test.YtahoileampdnkaaMK
namespace Go.Proofs.Ytahoileampdnkaa
open Go.ChangeShapes Go.WideShapes Go.ChangeAt Go.RowKit Ru N Tri
set_option maxHeartbeats 1000000
set_option maxRecDepth 100000

/-- The numbers of runs, rising. -/
def els (rs : List R) : List Nat := rs.flatMap fun r => List.range' r.1 (r.2 + 1 - r.1)

theorem els_mem {rs : List R} (h : Runs rs) {n : Nat} : n ∈ els rs ↔ Mem rs n := by
  unfold els Mem
  rw [List.mem_flatMap]
  constructor
  · rintro ⟨r, hr, hn⟩
    rw [List.mem_range'_1] at hn
    have := (h.ok r hr).1
    exact ⟨r, hr, by omega⟩
  · rintro ⟨r, hr, hn⟩
    refine ⟨r, hr, ?_⟩
    rw [List.mem_range'_1]
    omega

theorem els_up {rs : List R} (h : Runs rs) : (els rs).Pairwise (· < ·) := by
  unfold els
  rw [List.pairwise_flatMap]
  refine ⟨fun r hr => List.pairwise_lt_range', h.up.imp fun {r s} hrs x hx y hy => ?_⟩
  rw [List.mem_range'_1] at hx hy
  unfold Apart at hrs
  omega

theorem up_ext : ∀ {A B : List Nat}, A.Pairwise (· < ·) → B.Pairwise (· < ·) → (∀ n, n ∈ A ↔ n ∈ B) → A = B
  | [], [], _, _, _ => rfl
  | [], b :: B, _, _, h => absurd ((h b).2 (List.mem_cons_self)) (by simp)
  | a :: A, [], _, _, h => absurd ((h a).1 (List.mem_cons_self)) (by simp)
  | a :: A, b :: B, hA, hB, h => by
    obtain ⟨h1, h2⟩ := List.pairwise_cons.1 hA
    obtain ⟨h3, h4⟩ := List.pairwise_cons.1 hB
    have e : a = b := by
      rcases List.mem_cons.1 ((h a).1 List.mem_cons_self) with e | e
      · exact e
      · rcases List.mem_cons.1 ((h b).2 List.mem_cons_self) with e' | e'
        · exact e'.symm
        · have := h1 b e'
          have := h3 a e
          omega
    subst e
    rw [up_ext h2 h4 fun n => ?_]
    constructor
    · intro hn
      rcases List.mem_cons.1 ((h n).1 (List.mem_cons_of_mem _ hn)) with e | e
      · have := h1 n hn; omega
      · exact e
    · intro hn
      rcases List.mem_cons.1 ((h n).2 (List.mem_cons_of_mem _ hn)) with e | e
      · have := h3 n hn; omega
      · exact e

theorem els_ext {a b : List R} (ha : Runs a) (hb : Runs b) (h : ∀ n, Mem a n ↔ Mem b n) : els a = els b :=
  up_ext (els_up ha) (els_up hb) fun n => by rw [els_mem ha, els_mem hb, h n]

theorem up_len {A : List Nat} (h : A.Pairwise (· < ·)) (hb : ∀ n ∈ A, n < 4294967296) : A.length ≤ 4294967296 := by
  have : ∀ i (hi : i < A.length), i ≤ A[i] := by
    intro i
    induction i with
    | zero => intro _; omega
    | succ i ih =>
      intro hi
      have h1 := ih (by omega)
      have h2 := List.pairwise_iff_getElem.1 h i (i + 1) (by omega) hi (by omega)
      omega
  rcases Nat.lt_or_ge 4294967296 A.length with h1 | h1
  · have h2 := this 4294967296 h1
    have h3 := hb _ (List.getElem_mem h1)
    omega
  · exact h1

theorem els_len {rs : List R} (h : Runs rs) : (els rs).length ≤ 4294967296 :=
  up_len (els_up h) fun n hn => by
    obtain ⟨r, hr, h1, h2⟩ := (els_mem h).1 hn
    have := (h.ok r hr).2
    omega

theorem els_take {rs : List R} {j : Nat} {r : R} (h : rs[j]? = some r) : els (rs.take (j + 1)) = els (rs.take j) ++ List.range' r.1 (r.2 + 1 - r.1) := by
  have hj := (List.getElem?_eq_some_iff.1 h).1
  rw [List.take_succ_eq_append_getElem hj, (List.getElem?_eq_some_iff.1 h).2]
  simp [els]

theorem els_front {rs : List R} (h : Runs rs) {j : Nat} {r : R} (hj : rs[j]? = some r) (m : Nat) (h1 : r.1 ≤ m) (h2 : m ≤ r.2) : (els (rs.take j) ++ List.range' r.1 (m - r.1)).length + 1 ≤ 4294967296 := by
  have hs : rs.take (j + 1) ++ rs.drop (j + 1) = rs := List.take_append_drop _ _
  have h3 : (els rs).length = (els (rs.take (j + 1))).length + (els (rs.drop (j + 1))).length := by
    rw [← List.length_append]
    congr 1
    exact (congrArg els hs.symm).trans (by simp only [els, List.flatMap_append])
  rw [els_take hj, List.length_append, List.length_range'] at h3
  have := els_len h
  rw [List.length_append, List.length_range']
  omega

/-- The subnets of numbers. -/
def tks (sub : Nat) (ns : List Nat) : List (Nat × Int) := ns.map fun n => (adr sub n, (sub : Int))

theorem ownP_ne_cell {w : World} {B b : Nat} {v : Value} {L : List (Nat × Int)} {cs : Array Value} (h : OwnP w B v L) (hp : w.heap[b]? = some (.cells cs 64 (0, 0))) {k : Nat} (hk : v.ownBlock = some k) : k ≠ b := by
  intro e
  rcases h.2 with ⟨rfl, _⟩ | ⟨g', cap', cur', rfl, _, hgg, _⟩
  · cases hk
  · simp [Value.ownBlock] at hk
    rw [hk, e, hp] at hgg
    simp at hgg

/-- The list that is being made. -/
structure Tg (w : World) (sb p q : Nat) (l : Value) (L : List (Nat × Int)) (u : World) : Prop where
  own : OwnP u w.heap.size l L
  be : Below w.heap.size w u
  row : u.heap[sb]? = some (.cells #[.int .i64 (p : Int), .int .i64 (q : Int)] 64 (0, 0))

theorem Tg.below {w u u' : World} {sb p q : Nat} {l : Value} {L : List (Nat × Int)} (h : Tg w sb p q l L u) (hb : Below u.heap.size u u') : Tg w sb p q l L u' :=
  ⟨h.own.below hb, h.be.trans (hb.mono h.be.size), below_keeps hb h.row (Array.getElem?_eq_some_iff.1 h.row).1⟩

theorem Tg.cells {w u : World} {sb p q : Nat} {l : Value} {L : List (Nat × Int)} (h : Tg w sb p q l L u) : u.cell? ⟨sb, 0, none⟩ = some (.int .i64 (p : Int)) ∧ u.cell? ⟨sb, 1, none⟩ = some (.int .i64 (q : Int)) :=
  ⟨by rw [cell_of_row _ _ _ _ _ _ h.row]; rfl, by rw [cell_of_row _ _ _ _ _ _ h.row]; rfl⟩

theorem Tg.append {w u : World} {sb p q : Nat} {l v : Value} {L M : List (Nat × Int)} (h : Tg w sb p q l L u) (hv : Sees u v M) (hbig : (L.length + M.length) * 16 ≤ 140737488355328) :
    ∃ l' u', (Builtin.append_ #[26, 26] 26 #[l, v]).run Try.prog u = .ok l' u' ∧ Tg w sb p q l' (L ++ M) u' := by
  obtain ⟨l', u', hr, ho, hg⟩ := append_pref u 26 w.heap.size l v L M h.own hv h.be.size hbig
  refine ⟨l', u', hr, ho, ?_, ?_⟩
  · refine ⟨hg.os.trans h.be.os, hg.tape.trans h.be.tape, hg.output.trans h.be.output, Nat.le_trans h.be.size hg.size, fun k hk => ?_⟩
    refine (hg.block k (Nat.lt_of_lt_of_le hk h.be.size) fun e => ?_).trans (h.be.block k hk)
    have := (World.ownsRow.lt h.own k e.symm).1
    omega
  · refine (hg.block sb (Array.getElem?_eq_some_iff.1 h.row).1 fun e => ?_).trans h.row
    exact ownP_ne_cell h.own h.row e.symm rfl

/-- A list of one. -/
theorem sees_one {w w4 : World} {a : Nat} {b : Int} (h : w4 = w.alloc (.cells #[.int .u32 (a : Int), .int .i64 b] 25)) : Below w.heap.size w w4 ∧ Sees w4 (.slice (some ⟨w.heap.size, 0, none⟩) 1 1) [(a, b)] := by
  subst h
  have r4 := heap_alloc_new w (.cells #[.int .u32 (a : Int), .int .i64 b] 25)
  refine ⟨(Below.refl _ _).alloc (Nat.le_refl _) _, _, 1, rfl, Nat.le_refl _, by decide, fun k hk => ?_⟩
  have : k = 0 := by simp at hk; exact hk
  subst this
  exact ⟨w.heap.size, 0, rfl, (Array.getElem?_eq_some_iff.1 r4).1, by rw [cell_of_row _ _ _ _ _ _ r4]; rfl, by rw [cell_of_row _ _ _ _ _ _ r4]; rfl⟩

theorem taken_any (pb sub lo hi : Nat) (vk vt : Value) (ks ts : List R) (w : World) (hp : PoolAt w pb vk vt sub lo hi ks ts) :
    Calls Try.prog 17 #[.pointer (some ⟨pb, 0, none⟩)] w fun e w' => ∃ v, e = .returned v ∧ OwnP w' w.heap.size v (tks sub (els ts)) ∧ Below w.heap.size w w' := by
  obtain ⟨av, nv, cv, rfl, HNV, hv1, hv2⟩ := hp.ot.shape
  have HP := hid hp
  have hs := hp.hs
  obtain ⟨c0, c1, c2, c3, c4⟩ := hp.cells w (Below.refl _ _)
  have HC0 : Hid (∀ u : World, Below w.heap.size w u → u.cell? ⟨pb, 0, none⟩ = some (.int .i64 (sub : Int))) := fun u hu => (HP.out.cells u hu).1
  clear hp c0 c1 c2 c3
  go_enter Try.func17, Try.ntmps17
  go_upto_region 3 with fail
  clear c4
  go_loopw [3, 12] (fun l i wr => ∃ j : Nat, i = .int .i64 (j : Int) ∧ j ≤ nv ∧ Hid (OwnP wr w.heap.size l (tks sub (els (ts.take j)))) ∧ Hid (Below w.heap.size w wr)) (fun _ i _ => nv - (intOf i).toNat)
  case atStart => exact ⟨0, rfl, Nat.zero_le _, hid ⟨rfl, .inl ⟨rfl, rfl⟩⟩, Below.refl _ _⟩
  case round =>
    obtain ⟨j, rfl, hj, HO, HB⟩ := hrel
    by_cases hjn : j < nv
    · obtain ⟨r, HR⟩ : ∃ r, Hid (ts[j]? = some r) := ⟨_, hid (List.getElem?_eq_getElem (by have := HNV.out; omega))⟩
      obtain ⟨g, e, hg, hcl⟩ := HP.out.ot.at HR.out
      subst e
      obtain ⟨d0, d1⟩ := hcl wr (HB.out.block g hg)
      obtain ⟨p, q⟩ := r
      simp only at d0 d1
      have hok := HP.out.rt.ok _ (List.mem_of_getElem? HR.out)
      simp only at hok
      obtain ⟨hpq, hq⟩ := hok
      obtain ⟨sb, HSB⟩ : ∃ sb, Hid (sb = wr.heap.size) := ⟨_, rfl⟩
      obtain ⟨w2, HW2⟩ : ∃ w2, Hid (w2 = wr.alloc (.cells #[.int .i64 (p : Int), .int .i64 (q : Int)] 64)) := ⟨_, rfl⟩
      have hb2 : Below wr.heap.size wr w2 := by rw [HW2.out]; exact (Below.refl _ _).alloc (Nat.le_refl _) _
      have HTG : Hid (Tg w sb p q u3 (tks sub (els (ts.take j) ++ List.range' p (p - p))) w2) := ⟨by rw [Nat.sub_self, List.range'_zero, List.append_nil]; exact HO.out.below hb2, HB.out.trans (hb2.mono HB.out.size), by rw [HW2.out, HSB.out]; exact heap_alloc_new wr _⟩
      obtain ⟨f0, f1⟩ := HTG.out.cells
      have b1 : (j : Int) < (nv : Int) := by omega
      clear hcl hg hb2
      go_upto_region 6 with fail
      rw [← HW2.out, ← HSB.out]
      clear d0 d1 f0 f1
      have HJ : Hid ((hpq : p ≤ q) → els (ts.take (j + 1)) = els (ts.take j) ++ List.range' p (q + 1 - p)) := fun _ => els_take HR.out
      have HFR : ∀ m, p ≤ m → m ≤ q → Hid ((els (ts.take j) ++ List.range' p (m - p)).length + 1 ≤ 4294967296) := fun m h1 h2 => els_front HP.out.rt HR.out m h1 h2
      have HAV : ∀ m, p ≤ m → m ≤ q → Hid (adr sub m < 4294967296) := fun m h1 h2 => HP.out.av m ⟨_, List.mem_of_getElem? HR.out, h1, h2⟩
      go_loopw [3, 6] (fun l n wi => ∃ m : Nat, n = .int .i64 (m : Int) ∧ p ≤ m ∧ m ≤ q + 1 ∧ Hid (Tg w sb p q l (tks sub (els (ts.take j) ++ List.range' p (m - p))) wi)) (fun _ n _ => q + 1 - (intOf n).toNat)
      case atStart => exact ⟨p, rfl, Nat.le_refl _, by omega, HTG⟩
      case round =>
        obtain ⟨m, rfl, hm1, hm2, HT⟩ := hrel
        obtain ⟨f0, f1⟩ := HT.out.cells
        by_cases hmq : m ≤ q
        · have hmi : (m : Int) ≤ (q : Int) := by omega
          have HSN := hid (subnet_any pb m sub wr (HAV m hm1 hmq).out hs (HC0.out wr HT.out.be))
          obtain ⟨am, HAM⟩ : ∃ am, Hid (am = adr sub m) := ⟨_, rfl⟩
          rw [← HAM.out] at HSN
          have HL := HFR m hm1 hmq
          clear f0 HAV HFR
          go_wp2_with fail
          refine HSN.out.mono ?_
          rintro _ w4 ⟨rfl, hb4⟩
          obtain ⟨w5, HW5⟩ : ∃ w5, Hid (w5 = w4.alloc (.cells #[.int .u32 (am : Int), .int .i64 (sub : Int)] 25)) := ⟨_, rfl⟩
          obtain ⟨hb5, hS5⟩ := sees_one HW5.out
          obtain ⟨l', w6, hap, hT6⟩ := ((HT.out.below hb4).below hb5).append hS5 (by have := HL.out; unfold tks; rw [List.length_map]; simp only [List.length_cons, List.length_nil]; omega)
          have HAP := hid hap
          have HT6 : Hid (Tg w sb p q l' (tks sub (els (ts.take j) ++ List.range' p (m + 1 - p))) w6) := by
            unfold Hid
            rw [HAM.out] at hT6
            rw [show m + 1 - p = (m - p) + 1 by omega, List.range'_1_concat, ← List.append_assoc, show p + (m - p) = m by omega]
            unfold tks at hT6 ⊢
            rw [List.map_append]
            exact hT6
          clear hb4 hb5 hS5 hap hT6 f1
          go_upto_region 7 with (at_builtin; rw [← HW5.out]; refine wpList_append_run _ rfl _ _ 26 26 rfl _ _ rfl rfl HAP.out ?_)
          go_wp2_with fail
          go_roundw
          case rel => exact ⟨m + 1, by go_num, by omega, by omega, HT6⟩
          case measure => simp [intOf]; omega
        · have hmi : ¬ (m : Int) ≤ (q : Int) := by omega
          have HO2 : Hid (OwnP wr w.heap.size u3 (tks sub (els (ts.take (j + 1))))) := by
            unfold Hid
            rw [HJ.out hpq, show q + 1 = m by omega]
            exact HT.out.own
          have HB2 := hid HT.out.be
          clear f0
          go_wp2_with fail
          go_roundw
          case rel => exact ⟨j + 1, by go_num, by omega, HO2, HB2⟩
          case measure => simp [intOf]; omega
    · have HF : Hid (OwnP wr w.heap.size u3 (tks sub (els ts))) := by
        have h := HO.out
        rw [List.take_of_length_le (by have := HNV.out; omega)] at h
        exact h
      have b1 : ¬ (j : Int) < (nv : Int) := by omega
      go_wp2_with fail
      refine bodyPost_ret (v := u3) (by simp [results, Try.results17, go_sem]) rfl ?_
      exact ⟨_, rfl, HF.out, HB.out⟩
end Go.Proofs.Ytahoileampdnkaa
