/-
  The reference: Put of what is new.
-/
import Derived.Test.YtmnafocmbcgdiabWJ
namespace Go.Proofs.Ytmnafocmbcgdiab
open Go.ChangeShapes Go.WideShapes Go.ChangeAt Go.RowKit Tri N
set_option maxHeartbeats 2000000
set_option maxRecDepth 100000

def gtK (q p : K) : Prop := p.x < q.x ∨ (q.x = p.x ∧ p.n < q.n)

/-- Where the new one stands among the first j. -/
def InsRel (L : List (K × Int)) (p : K) (a : Int) (j : Nat) (d : Bool) (acc : List (K × Int)) : Prop :=
  (d = false ∧ acc = L.take j ∧ ∀ e ∈ L.take j, ¬ gtK e.1 p) ∨
  (d = true ∧ ∃ A B, L.take j = A ++ B ∧ acc = A ++ (p, a) :: B ∧ (∀ e ∈ A, ¬ gtK e.1 p) ∧ ∃ e B', B = e :: B' ∧ gtK e.1 p)

theorem InsRel.go {L : List (K × Int)} {p : K} {a : Int} {j : Nat} {d : Bool} {acc : List (K × Int)} (h : InsRel L p a j d acc) {e : K × Int} (he : L[j]? = some e) (hn : d = false → ¬ gtK e.1 p) : InsRel L p a (j + 1) d (acc ++ [e]) := by
  rcases h with ⟨h1, h2, h3⟩ | ⟨h1, A, B, h2, h3, h4, x, B', h5, h6⟩
  · refine .inl ⟨h1, by rw [h2, take_snoc he], fun q hq => ?_⟩
    rw [take_snoc he] at hq
    rcases List.mem_append.1 hq with hq | hq
    · exact h3 q hq
    · simp at hq; subst hq; exact hn h1
  · refine .inr ⟨h1, A, B ++ [e], by rw [take_snoc he, h2, List.append_assoc], by rw [h3]; simp, h4, x, B' ++ [e], by rw [h5]; rfl, h6⟩

theorem InsRel.put {L : List (K × Int)} {p : K} {a : Int} {j : Nat} {acc : List (K × Int)} (h : InsRel L p a j false acc) {e : K × Int} (he : L[j]? = some e) (hg : gtK e.1 p) : InsRel L p a (j + 1) true (acc ++ [(p, a)] ++ [e]) := by
  rcases h with ⟨_, h2, h3⟩ | ⟨h1, _⟩
  · exact .inr ⟨rfl, L.take j, [e], take_snoc he, by rw [h2]; simp, h3, e, [], rfl, hg⟩
  · cases h1

theorem InsRel.len {L : List (K × Int)} {p : K} {a : Int} {j : Nat} {d : Bool} {acc : List (K × Int)} (h : InsRel L p a j d acc) : acc.length ≤ L.length + 1 := by
  rcases h with ⟨_, h2, _⟩ | ⟨_, A, B, h2, h3, _⟩
  · rw [h2, List.length_take]; omega
  · have := congrArg List.length h2
    rw [List.length_take, List.length_append] at this
    rw [h3, List.length_append, List.length_cons]
    omega

theorem infoE : (Try.prog.info? 77).map (fun i => (i.zero, i.size, i.bytes)) = some (some (.agg #[.int .u32 0, .int .i64 0, .int .i64 0]), 3, 24) := by kernel_rfl

theorem three_at {W : World} {n : Nat} (hn : W.heap.size = n) (a b c : Value) (T : TypeId) : ∀ (j : Nat) (u : Value), [a, b, c][j]? = some u → (W.alloc (.cells #[a, b, c] T)).cell? ((⟨n, 0, none⟩ : Addr).add j) = some u := by
  subst hn
  intro j u hj
  match j, hj with
  | 0, hj => simp at hj; subst hj; simp [Addr.add]
  | 1, hj => simp at hj; subst hj; simp [Addr.add]
  | 2, hj => simp at hj; subst hj; simp [Addr.add]

theorem OwnE.alloc {w : World} {base : Nat} {v : Value} {L : List (K × Int)} (h : OwnE w base v L) (o : Obj) : (w.alloc o).ownsRow base 77 3 v L.length (ecs L) := World.ownsRow.alloc h o
theorem OwnE.lt {w : World} {base : Nat} {v : Value} {L : List (K × Int)} (h : OwnE w base v L) : ∀ k, v.ownBlock = some k → base ≤ k ∧ k < w.heap.size := World.ownsRow.lt h

theorem ref_store {w w6 : World} {rb : Nat} {v v6 : Value} {L acc : List (K × Int)} {base : Nat} (hR : RefAt w rb v L) (hb : Below w.heap.size w w6) (ho : OwnE w6 base v6 acc) (hbase : w.heap.size ≤ base) (hok : ∀ e ∈ acc, e.1.Ok) :
    RefAt (w6.setCell ⟨rb, 0, none⟩ v6) rb v6 acc ∧ (∀ b, v6.ownBlock = some b → w.heap.size ≤ b) ∧ Chg (fun b => b = rb) w (w6.setCell ⟨rb, 0, none⟩ v6) := by
  have hrb := (Array.getElem?_eq_some_iff.1 hR.1).1
  refine ⟨⟨(set_row (hR.below hb).1).trans rfl, ?_, hok⟩, fun b hb' => Nat.le_trans hbase (ho.lt b hb').1, (Chg.of_below hb).trans (Chg.of_but (But.set rb _ w6 _) rfl)⟩
  refine ⟨ho.1, ?_⟩
  rcases ho.2 with ⟨hv, hn⟩ | ⟨g, cap', cur, hv, hb', hg, hrest⟩
  · exact .inl ⟨hv, hn⟩
  · exact .inr ⟨g, cap', cur, hv, Nat.zero_le _, ((But.set rb _ w6 _).block g (Array.getElem?_eq_some_iff.1 hg).1 (by omega)).trans hg, hrest⟩

/-- One more, in its place. -/
def InsAt (L : List (K × Int)) (p : K) (a : Int) (M : List (K × Int)) : Prop := ∃ A B, L = A ++ B ∧ M = A ++ (p, a) :: B ∧ (∀ e ∈ A, ¬ gtK e.1 p) ∧ (B = [] ∨ ∃ e B', B = e :: B' ∧ gtK e.1 p)

theorem InsRel.fin_true {L : List (K × Int)} {p : K} {a : Int} {acc : List (K × Int)} {n : Nat} (hn : n = L.length) (h : InsRel L p a n true acc) : ∃ A B, L = A ++ B ∧ acc = A ++ (p, a) :: B ∧ (∀ e ∈ A, ¬ gtK e.1 p) ∧ (B = [] ∨ ∃ e B', B = e :: B' ∧ gtK e.1 p) := by
  subst hn
  rcases h with ⟨h1, _⟩ | ⟨_, A, B, h2, h3, h4, h5⟩
  · cases h1
  · rw [List.take_length] at h2; exact ⟨A, B, h2, h3, h4, .inr h5⟩

theorem InsRel.fin_false {L : List (K × Int)} {p : K} {a : Int} {acc : List (K × Int)} {n : Nat} (hn : n = L.length) (h : InsRel L p a n false acc) : acc = L ∧ ∀ e ∈ L, ¬ gtK e.1 p := by
  subst hn
  rcases h with ⟨_, h2, h3⟩ | ⟨h1, _⟩
  · rw [List.take_length] at h2 h3; exact ⟨h2, h3⟩
  · cases h1

theorem ok_mid {A B : List (K × Int)} {p : K} {a : Int} (hp : p.Ok) (h : ∀ e ∈ A ++ B, e.1.Ok) : ∀ e ∈ A ++ (p, a) :: B, e.1.Ok := fun e he => by
  rcases List.mem_append.1 he with h1 | h1
  · exact h e (List.mem_append.2 (.inl h1))
  · rcases List.mem_cons.1 h1 with h2 | h2
    · rw [h2]; exact hp
    · exact h e (List.mem_append.2 (.inr h2))

theorem putR_new {rb : Nat} {v : Value} {L : List (K × Int)} (p : K) (a : Int) (w : World) (hR : RefAt w rb v L) (hp : p.Ok) (h1 : posL L p L.length = none) (hlen : L.length ≤ 4000000000000) :
    Calls Try.prog 44 #[.pointer (some ⟨rb, 0, none⟩), pv p, .int .i64 a] w fun e w' => e = .returned (.int .i64 0) ∧ (∃ v' M, InsAt L p a M ∧ RefAt w' rb v' M ∧ (∀ b, v'.ownBlock = some b → w.heap.size ≤ b)) ∧ Chg (fun b => b = rb) w w' := by
  obtain ⟨i0, hi0, hz0, hz1, hz2⟩ := info_parts infoE
  have HI : Hid (Try.prog.info? 77 = some i0) := hi0
  obtain ⟨ao, n, cap, rfl, HN, hn1, hn2⟩ := hR.2.1.shape
  have hn4 : n ≤ 4000000000000 := by have := HN.out; omega
  obtain ⟨wa, hwa, hb0, hs0, r1, x0, x1⟩ := one_box w (.int .u32 (p.x : Int)) (.int .i64 (p.n : Int))
  have HV := hid (validR_any (y := (p.n : Int)) wa hp.2.2)
  rw [valB_ok hp] at HV
  have HR := hid hR
  have HWA := hid hwa
  have HB0 := hid hb0
  have HS0 := hid hs0
  have R1 := hid r1
  have H1 := hid h1
  unfold maxLen at hn2
  unfold qv at HV
  unfold pv
  clear hR hwa r1 hb0 hs0 h1 hi0 hlen
  go_enter Try.func44, Try.ntmps44
  go_upto_region 1 with fail
  rw [← HWA.out]
  go_wp2_with fail
  refine HV.out.mono ?_
  rintro _ w3 ⟨rfl, hb3⟩
  have b03 : Below w.heap.size w w3 := HB0.out.trans (hb3.mono HB0.out.size)
  have r3 := below_keeps hb3 R1.out (by have := HS0.out; omega)
  have x0 : w3.cell? ⟨w.heap.size, 0, none⟩ = some (.int .u32 (p.x : Int)) := by rw [cell_of_row _ _ _ _ _ _ r3]; rfl
  have x1 : w3.cell? ⟨w.heap.size, 1, none⟩ = some (.int .i64 (p.n : Int)) := by rw [cell_of_row _ _ _ _ _ _ r3]; rfl
  have HF := hid (find_ref p w3 (HR.out.below b03))
  rw [H1.out] at HF
  simp only [posI] at HF
  have HB3 := hid b03
  have R3 := hid r3
  unfold pv at HF
  clear hb3 b03 r3
  go_wp2_with fail
  refine HF.out.mono ?_
  rintro _ w4 ⟨rfl, hb4⟩
  have b04 := HB3.out.trans (hb4.mono HB3.out.size)
  have HR4 := hid (HR.out.below b04)
  have HB4 := hid b04
  have hl3 := (Array.getElem?_eq_some_iff.1 R3.out).1
  have R4 := hid (below_keeps hb4 R3.out hl3)
  have HL4 : Hid (w.heap.size < w4.heap.size) := Nat.lt_of_lt_of_le hl3 hb4.size
  have HRL : Hid (rb < w4.heap.size) := (Array.getElem?_eq_some_iff.1 HR4.out.1).1
  have HRW : Hid (rb < w.heap.size) := (Array.getElem?_eq_some_iff.1 HR.out.1).1
  clear hb4 b04 hl3 x0 x1
  go_upto_region 10 with fail
  go_loopw [8, 9, 10] (fun t d i wr => ∃ (j : Nat) (dd : Bool) (acc : List (K × Int)), i = .int .i64 (j : Int) ∧ d = .bool dd ∧ j ≤ n ∧ Hid (InsRel L p a j dd acc) ∧ OwnE wr w4.heap.size t acc ∧ Below w4.heap.size w4 wr) (fun _ _ i _ => n - (intOf i).toNat)
  case atStart => exact ⟨0, false, [], rfl, rfl, by omega, .inl ⟨rfl, rfl, fun e he => by cases he⟩, World.ownsRow_nil _ _ _ _, Below.refl _ _⟩
  case round =>
    obtain ⟨j, dd, acc, rfl, rfl, hj, HIR, hown, hb⟩ := hrel
    have hrr := HR4.out.below hb
    have t0 : wr.cell? ⟨rb, 0, none⟩ = some (.slice ao n cap) := by rw [cell_of_row _ _ _ _ _ _ hrr.1]; rfl
    have hlen := HIR.out.len
    have hlen2 : acc.length ≤ n + 1 := by have := HN.out; omega
    have px := below_keeps hb R4.out HL4.out
    have x0 : wr.cell? ⟨w.heap.size, 0, none⟩ = some (.int .u32 (p.x : Int)) := by rw [cell_of_row _ _ _ _ _ _ px]; rfl
    have x1 : wr.cell? ⟨w.heap.size, 1, none⟩ = some (.int .i64 (p.n : Int)) := by rw [cell_of_row _ _ _ _ _ _ px]; rfl
    by_cases hjn : j < n
    · have b1 : (j : Int) < (n : Int) := by omega
      have b2 : (0 : Int) ≤ (j : Int) := by omega
      obtain ⟨g, e, hao, hg, he, c0, c1, c2⟩ := hrr.2.1.at j hjn
      subst hao
      obtain ⟨k, v⟩ := e
      simp only at c0 c1 c2
      have HE := hid he
      have HRR := hid hrr
      have HB := hid hb
      have HOW := hid hown
      have HPX := hid px
      have HG := hid hg
      clear hrr hb hown px hg he
      go_upto_region 13 with fail
      obtain ⟨w5, hw5⟩ : ∃ w5, w5 = wr.alloc (.cells #[.int .u32 (k.x : Int), .int .i64 (k.n : Int)] 31) := ⟨_, rfl⟩
      rw [← hw5]
      have hb5 : Below wr.heap.size wr w5 := by rw [hw5]; exact (Below.refl _ _).alloc (Nat.le_refl _) _
      have r5 : w5.heap[wr.heap.size]? = some (.cells #[.int .u32 (k.x : Int), .int .i64 (k.n : Int)] 31) := by rw [hw5]; exact heap_alloc_new wr _
      have d0 : w5.cell? ⟨wr.heap.size, 0, none⟩ = some (.int .u32 (k.x : Int)) := by rw [cell_of_row _ _ _ _ _ _ r5]; rfl
      have d1 : w5.cell? ⟨wr.heap.size, 1, none⟩ = some (.int .i64 (k.n : Int)) := by rw [cell_of_row _ _ _ _ _ _ r5]; rfl
      have C0 := hid c0
      have C1 := hid c1
      have C2 := hid c2
      have HO5 := hid (HOW.out.below hb5)
      have HB5 : Hid (Below w4.heap.size w4 w5) := HB.out.trans (hb5.mono HB.out.size)
      have HW5 := hid hb5
      clear t0 c0 c1 c2 x0 x1 hw5 r5
      have t0 : w5.cell? ⟨rb, 0, none⟩ = some (.slice (some ⟨g, 0, none⟩) n cap) := by rw [cell_of_row _ _ _ _ _ _ (below_keeps hb5 HRR.out.1 (Array.getElem?_eq_some_iff.1 HRR.out.1).1)]; rfl
      have c0 : w5.cell? ⟨g, j * 3, none⟩ = some (.int .u32 (k.x : Int)) := (hb5.cell (p := ⟨g, _, none⟩) HG.out).trans C0.out
      have c1 : w5.cell? ⟨g, j * 3 + 1, none⟩ = some (.int .i64 (k.n : Int)) := (hb5.cell (p := ⟨g, _, none⟩) HG.out).trans C1.out
      have c2 : w5.cell? ⟨g, j * 3 + 2, none⟩ = some (.int .i64 v) := (hb5.cell (p := ⟨g, _, none⟩) HG.out).trans C2.out
      have x0 : w5.cell? ⟨w.heap.size, 0, none⟩ = some (.int .u32 (p.x : Int)) := by rw [cell_of_row _ _ _ _ _ _ (below_keeps hb5 HPX.out (Array.getElem?_eq_some_iff.1 HPX.out).1)]; rfl
      have x1 : w5.cell? ⟨w.heap.size, 1, none⟩ = some (.int .i64 (p.n : Int)) := by rw [cell_of_row _ _ _ _ _ _ (below_keeps hb5 HPX.out (Array.getElem?_eq_some_iff.1 HPX.out).1)]; rfl
      clear hb5
      by_cases hcond : dd = false ∧ gtK k p
      · obtain ⟨rfl, hgt⟩ := hcond
        have HIR2 := hid (HIR.out.put HE.out hgt)
        unfold gtK at hgt
        have hlen7 : (acc ++ [(p, a)]).length ≤ n + 2 := by simp; omega
        rcases hgt with e1 | ⟨e1, e2⟩
        · have q1 : (p.x : Int) < (k.x : Int) := by omega
          clear e1
          go_wp2_with (at_builtin; refine wpList_append_own _ rfl _ _ 73 rfl w4.heap.size 77 i0 (.agg #[.int .u32 0, .int .i64 0, .int .i64 0]) 3 24 (by kernel_rfl) HI.out hz0 hz1 hz2 rfl (by decide) _ _ _ rfl (HO5.out.alloc _) ⟨w5.heap.size, 0, none⟩ 1 1 [.int .u32 (p.x : Int), .int .i64 (p.n : Int), .int .i64 a] rfl rfl ?aa1 ?aa2 ?aa3 ?aa4 ?aa5 ?_)
          case aa1 => exact three_at rfl _ _ _ _
          case aa2 => intro u hu; simp at hu; rcases hu with rfl | rfl | rfl <;> rfl
          case aa3 => unfold maxLen; omega
          case aa4 => omega
          case aa5 => have := HB5.out.size; simp; omega
          intro v6 w6 hown6 hgrow _
          rw [ecs_snoc] at hown6
          have HO6 : Hid (OwnE w6 w4.heap.size v6 (acc ++ [(p, a)])) := by unfold Hid OwnE; rw [List.length_append]; exact hown6
          have hb56 : Below w4.heap.size w5 w6 := ((Below.refl _ _).alloc HB5.out.size _).grown hgrow (by have := HB5.out.size; simp; omega) (fun k hk => (HO5.out.lt k hk).1)
          have HB6 : Hid (Below w4.heap.size w4 w6) := HB5.out.trans hb56
          have hl6 : w5.heap.size ≤ w6.heap.size := hb56.size
          clear hown6 hgrow t0 c0 c1 c2 x0 x1 d0 d1
          have hrr6 := HR4.out.below HB6.out
          have t0 : w6.cell? ⟨rb, 0, none⟩ = some (.slice (some ⟨g, 0, none⟩) n cap) := by rw [cell_of_row _ _ _ _ _ _ hrr6.1]; rfl
          obtain ⟨g', e', hao', hg', he', c0, c1, c2⟩ := hrr6.2.1.at j hjn
          simp at hao'
          subst hao'
          rw [HE.out] at he'
          obtain rfl := Option.some.inj he'
          simp only at c0 c1 c2
          clear hrr6 hb56 hg' he'
          go_upto_region 16 with fail
          go_wp2_with (at_builtin; refine wpList_append_own _ rfl _ _ 73 rfl w4.heap.size 77 i0 (.agg #[.int .u32 0, .int .i64 0, .int .i64 0]) 3 24 (by kernel_rfl) HI.out hz0 hz1 hz2 rfl (by decide) _ _ _ rfl (HO6.out.alloc _) ⟨w6.heap.size, 0, none⟩ 1 1 [.int .u32 (k.x : Int), .int .i64 (k.n : Int), .int .i64 v] rfl rfl ?bb1 ?bb2 ?bb3 ?bb4 ?bb5 ?_)
          case bb1 => exact three_at rfl _ _ _ _
          case bb2 => intro u hu; simp at hu; rcases hu with rfl | rfl | rfl <;> rfl
          case bb3 => unfold maxLen; omega
          case bb4 => omega
          case bb5 => have := HB6.out.size; simp; omega
          intro v7 w7 hown7 hgrow _
          have e7 : ecs (acc ++ [(p, a)]) ++ [.int .u32 (k.x : Int), .int .i64 (k.n : Int), .int .i64 v] = ecs (acc ++ [(p, a)] ++ [(k, v)]) := ecs_snoc _ _ _
          rw [e7] at hown7
          have HO7 : Hid (OwnE w7 w4.heap.size v7 (acc ++ [(p, a)] ++ [(k, v)])) := by unfold Hid OwnE; rw [List.length_append, List.length_append]; exact hown7
          have HB7 : Hid (Below w4.heap.size w4 w7) := (HB6.out.alloc HB6.out.size _).grown hgrow (by have := HB6.out.size; simp; omega) (fun k hk => (HO6.out.lt k hk).1)
          clear hown7 hgrow e7
          go_wp2_with fail
          go_roundw
          case rel => exact ⟨j + 1, _, _, by go_num, rfl, by omega, HIR2, HO7.out, HB7.out⟩
          case measure => simp [intOf]; omega
        · have q1 : ¬ ((p.x : Int) < (k.x : Int)) := by omega
          have q2 : ((k.x : Int) == (p.x : Int)) = true := by simp [e1]
          have q3 : (p.n : Int) < (k.n : Int) := by omega
          clear e1 e2
          go_wp2_with (at_builtin; refine wpList_append_own _ rfl _ _ 73 rfl w4.heap.size 77 i0 (.agg #[.int .u32 0, .int .i64 0, .int .i64 0]) 3 24 (by kernel_rfl) HI.out hz0 hz1 hz2 rfl (by decide) _ _ _ rfl (HO5.out.alloc _) ⟨w5.heap.size, 0, none⟩ 1 1 [.int .u32 (p.x : Int), .int .i64 (p.n : Int), .int .i64 a] rfl rfl ?cc1 ?cc2 ?cc3 ?cc4 ?cc5 ?_)
          case cc2 => exact ⟨rfl, rfl, rfl⟩
          case cc3 => unfold maxLen; omega
          case cc4 => omega
          case cc5 => have := HB5.out.size; simp; omega
          intro v6 w6 hown6 hgrow _
          rw [ecs_snoc] at hown6
          have HO6 : Hid (OwnE w6 w4.heap.size v6 (acc ++ [(p, a)])) := by unfold Hid OwnE; rw [List.length_append]; exact hown6
          have hb56 : Below w4.heap.size w5 w6 := ((Below.refl _ _).alloc HB5.out.size _).grown hgrow (by have := HB5.out.size; simp; omega) (fun k hk => (HO5.out.lt k hk).1)
          have HB6 : Hid (Below w4.heap.size w4 w6) := HB5.out.trans hb56
          have hl6 : w5.heap.size ≤ w6.heap.size := hb56.size
          clear hown6 hgrow t0 c0 c1 c2 x0 x1 d0 d1
          have hrr6 := HR4.out.below HB6.out
          have t0 : w6.cell? ⟨rb, 0, none⟩ = some (.slice (some ⟨g, 0, none⟩) n cap) := by rw [cell_of_row _ _ _ _ _ _ hrr6.1]; rfl
          obtain ⟨g', e', hao', hg', he', c0, c1, c2⟩ := hrr6.2.1.at j hjn
          simp at hao'
          subst hao'
          rw [HE.out] at he'
          obtain rfl := Option.some.inj he'
          simp only at c0 c1 c2
          clear hrr6 hb56 hg' he'
          go_upto_region 16 with fail
          go_wp2_with (at_builtin; refine wpList_append_own _ rfl _ _ 73 rfl w4.heap.size 77 i0 (.agg #[.int .u32 0, .int .i64 0, .int .i64 0]) 3 24 (by kernel_rfl) HI.out hz0 hz1 hz2 rfl (by decide) _ _ _ rfl (HO6.out.alloc _) ⟨w6.heap.size, 0, none⟩ 1 1 [.int .u32 (k.x : Int), .int .i64 (k.n : Int), .int .i64 v] rfl rfl ?dd1 ?dd2 ?dd3 ?dd4 ?dd5 ?_)
          case dd1 => exact three_at rfl _ _ _ _
          case dd2 => intro u hu; simp at hu; rcases hu with rfl | rfl | rfl <;> rfl
          case dd3 => unfold maxLen; omega
          case dd4 => omega
          case dd5 => have := HB6.out.size; simp; omega
          intro v7 w7 hown7 hgrow _
          have e7 : ecs (acc ++ [(p, a)]) ++ [.int .u32 (k.x : Int), .int .i64 (k.n : Int), .int .i64 v] = ecs (acc ++ [(p, a)] ++ [(k, v)]) := ecs_snoc _ _ _
          rw [e7] at hown7
          have HO7 : Hid (OwnE w7 w4.heap.size v7 (acc ++ [(p, a)] ++ [(k, v)])) := by unfold Hid OwnE; rw [List.length_append, List.length_append]; exact hown7
          have HB7 : Hid (Below w4.heap.size w4 w7) := (HB6.out.alloc HB6.out.size _).grown hgrow (by have := HB6.out.size; simp; omega) (fun k hk => (HO6.out.lt k hk).1)
          clear hown7 hgrow e7
          go_wp2_with fail
          go_roundw
          case rel => exact ⟨j + 1, _, _, by go_num, rfl, by omega, HIR2, HO7.out, HB7.out⟩
          case measure => simp [intOf]; omega
      · have HIR2 : Hid (InsRel L p a (j + 1) dd (acc ++ [(k, v)])) := HIR.out.go HE.out (fun h1 h2 => hcond ⟨h1, h2⟩)
        obtain ⟨hc1⟩ : Nonempty ((dd = true) ∨ (dd = false ∧ ¬ (p.x < k.x) ∧ ¬ (k.x = p.x)) ∨ (dd = false ∧ ¬ (p.x < k.x) ∧ k.x = p.x ∧ ¬ (p.n < k.n))) := ⟨by
          unfold gtK at hcond
          cases dd with
          | true => exact .inl rfl
          | false =>
            right
            by_cases e1 : k.x = p.x
            · exact .inr ⟨rfl, by omega, e1, fun h => hcond ⟨rfl, .inr ⟨e1, h⟩⟩⟩
            · exact .inl ⟨rfl, fun h => hcond ⟨rfl, .inl h⟩, e1⟩⟩
        clear hcond
        rcases hc1 with rfl | ⟨rfl, e1, e2⟩ | ⟨rfl, e1, e2, e3⟩
        · clear d0 d1
          go_upto_region 16 with fail
          go_wp2_with (at_builtin; refine wpList_append_own _ rfl _ _ 73 rfl w4.heap.size 77 i0 (.agg #[.int .u32 0, .int .i64 0, .int .i64 0]) 3 24 (by kernel_rfl) HI.out hz0 hz1 hz2 rfl (by decide) _ _ _ rfl (HO5.out.alloc _) ⟨w5.heap.size, 0, none⟩ 1 1 [.int .u32 (k.x : Int), .int .i64 (k.n : Int), .int .i64 v] rfl rfl ?ee1 ?ee2 ?ee3 ?ee4 ?ee5 ?_)
          case ee1 => exact three_at rfl _ _ _ _
          case ee2 => intro u hu; simp at hu; rcases hu with rfl | rfl | rfl <;> rfl
          case ee3 => unfold maxLen; omega
          case ee4 => omega
          case ee5 => have := HB5.out.size; simp; omega
          intro v6 w6 hown6 hgrow _
          rw [ecs_snoc] at hown6
          have HO6 : Hid (OwnE w6 w4.heap.size v6 (acc ++ [(k, v)])) := by unfold Hid OwnE; rw [List.length_append]; exact hown6
          have HB6 : Hid (Below w4.heap.size w4 w6) := (HB5.out.alloc HB5.out.size _).grown hgrow (by have := HB5.out.size; simp; omega) (fun k hk => (HO5.out.lt k hk).1)
          clear hown6 hgrow
          go_wp2_with fail
          go_roundw
          case rel => exact ⟨j + 1, _, _, by go_num, rfl, by omega, HIR2, HO6.out, HB6.out⟩
          case measure => simp [intOf]; omega
        · have q1 : ¬ ((p.x : Int) < (k.x : Int)) := by omega
          have q2 : ((k.x : Int) == (p.x : Int)) = false := by simp; omega
          clear e1 e2
          go_upto_region 16 with fail
          go_wp2_with (at_builtin; refine wpList_append_own _ rfl _ _ 73 rfl w4.heap.size 77 i0 (.agg #[.int .u32 0, .int .i64 0, .int .i64 0]) 3 24 (by kernel_rfl) HI.out hz0 hz1 hz2 rfl (by decide) _ _ _ rfl (HO5.out.alloc _) ⟨w5.heap.size, 0, none⟩ 1 1 [.int .u32 (k.x : Int), .int .i64 (k.n : Int), .int .i64 v] rfl rfl ?ff1 ?ff2 ?ff3 ?ff4 ?ff5 ?_)
          case ff2 => exact ⟨rfl, rfl, rfl⟩
          case ff3 => unfold maxLen; omega
          case ff4 => omega
          case ff5 => have := HB5.out.size; simp; omega
          intro v6 w6 hown6 hgrow _
          rw [ecs_snoc] at hown6
          have HO6 : Hid (OwnE w6 w4.heap.size v6 (acc ++ [(k, v)])) := by unfold Hid OwnE; rw [List.length_append]; exact hown6
          have HB6 : Hid (Below w4.heap.size w4 w6) := (HB5.out.alloc HB5.out.size _).grown hgrow (by have := HB5.out.size; simp; omega) (fun k hk => (HO5.out.lt k hk).1)
          clear hown6 hgrow
          go_wp2_with fail
          go_roundw
          case rel => exact ⟨j + 1, _, _, by go_num, rfl, by omega, HIR2, HO6.out, HB6.out⟩
          case measure => simp [intOf]; omega
        · have q1 : ¬ ((p.x : Int) < (k.x : Int)) := by omega
          have q2 : ((k.x : Int) == (p.x : Int)) = true := by simp [e2]
          have q3 : ¬ ((p.n : Int) < (k.n : Int)) := by omega
          clear e1 e2 e3
          go_upto_region 16 with fail
          go_wp2_with (at_builtin; refine wpList_append_own _ rfl _ _ 73 rfl w4.heap.size 77 i0 (.agg #[.int .u32 0, .int .i64 0, .int .i64 0]) 3 24 (by kernel_rfl) HI.out hz0 hz1 hz2 rfl (by decide) _ _ _ rfl (HO5.out.alloc _) ⟨w5.heap.size, 0, none⟩ 1 1 [.int .u32 (k.x : Int), .int .i64 (k.n : Int), .int .i64 v] rfl rfl ?gg1 ?gg2 ?gg3 ?gg4 ?gg5 ?_)
          case gg2 => exact ⟨rfl, rfl, rfl⟩
          case gg3 => unfold maxLen; omega
          case gg4 => omega
          case gg5 => have := HB5.out.size; simp; omega
          intro v6 w6 hown6 hgrow _
          rw [ecs_snoc] at hown6
          have HO6 : Hid (OwnE w6 w4.heap.size v6 (acc ++ [(k, v)])) := by unfold Hid OwnE; rw [List.length_append]; exact hown6
          have HB6 : Hid (Below w4.heap.size w4 w6) := (HB5.out.alloc HB5.out.size _).grown hgrow (by have := HB5.out.size; simp; omega) (fun k hk => (HO5.out.lt k hk).1)
          clear hown6 hgrow
          go_wp2_with fail
          go_roundw
          case rel => exact ⟨j + 1, _, _, by go_num, rfl, by omega, HIR2, HO6.out, HB6.out⟩
          case measure => simp [intOf]; omega
    · have hjn' : j = n := by omega
      subst hjn'
      have b1 : ¬ (j : Int) < (j : Int) := by omega
      have HB : Hid (Below w4.heap.size w4 wr) := hb
      have HOW := hid hown
      have HBW : Hid (Below w.heap.size w wr) := HB4.out.trans (hb.mono HB4.out.size)
      have f0 : wr.frozen? ⟨rb, 0, none⟩ = false := frozen_of_row _ _ _ _ _ hrr.1
      clear hrr hb hown px
      cases dd with
      | true =>
        obtain ⟨A, B, hAB, hacc, hA, hB⟩ := HIR.out.fin_true HN.out
        have HFIN := hid (ref_store HR.out HBW.out HOW.out HB4.out.size (by rw [hacc]; exact ok_mid hp (hAB ▸ HR.out.2.2)))
        rw [hacc] at HFIN
        have HA := hid hA
        have HB' := hid hB
        have HAB := hid hAB
        obtain ⟨ao2, n2, cap2, rfl, HN2, _, _⟩ := HOW.out.shape
        clear hA hB hAB hacc
        go_wp2_with fail
        go_ret
        exact ⟨rfl, ⟨_, _, ⟨A, B, HAB.out, rfl, HA.out, HB'.out⟩, HFIN.out.1, HFIN.out.2.1⟩, HFIN.out.2.2⟩
      | false =>
        obtain ⟨hacc, hA⟩ := HIR.out.fin_false HN.out
        have HA := hid hA
        have HACC := hid hacc
        clear hA hacc
        go_upto_region 18 with fail
        go_wp2_with (at_builtin; refine wpList_append_own _ rfl _ _ 73 rfl w4.heap.size 77 i0 (.agg #[.int .u32 0, .int .i64 0, .int .i64 0]) 3 24 (by kernel_rfl) HI.out hz0 hz1 hz2 rfl (by decide) _ _ _ rfl (HOW.out.alloc _) ⟨wr.heap.size, 0, none⟩ 1 1 [.int .u32 (p.x : Int), .int .i64 (p.n : Int), .int .i64 a] rfl rfl ?hh1 ?hh2 ?hh3 ?hh4 ?hh5 ?_)
        case hh2 => exact ⟨rfl, rfl, rfl⟩
        case hh3 => unfold maxLen; omega
        case hh4 => omega
        case hh5 => have := HB.out.size; simp; omega
        intro v6 w6 hown6 hgrow _
        rw [ecs_snoc] at hown6
        have HO6 : Hid (OwnE w6 w4.heap.size v6 (L ++ [(p, a)])) := by rw [← HACC.out]; unfold Hid OwnE; rw [List.length_append]; exact hown6
        have hb6 : Below w4.heap.size w4 w6 := (HB.out.alloc HB.out.size _).grown hgrow (by have := HB.out.size; simp; omega) (fun k hk => (HOW.out.lt k hk).1)
        have HB6 : Hid (Below w.heap.size w w6) := HB4.out.trans (hb6.mono HB4.out.size)
        have HFIN := hid (ref_store HR.out HB6.out HO6.out HB4.out.size (ok_mid hp (by simpa using HR.out.2.2)))
        have f0' : w6.frozen? ⟨rb, 0, none⟩ = false := frozen_of_row _ _ _ _ _ (HR.out.below HB6.out).1
        have t0' : w6.cell? ⟨rb, 0, none⟩ = some (.slice ao j cap) := by rw [cell_of_row _ _ _ _ _ _ (HR.out.below HB6.out).1]; rfl
        obtain ⟨ao2, n2, cap2, rfl, HN2, _, _⟩ := HO6.out.shape
        clear hown6 hgrow hb6 t0 x0 x1 f0
        go_wp2_with fail
        go_ret
        exact ⟨rfl, ⟨_, _, ⟨L, [], by simp, rfl, HA.out, .inl rfl⟩, HFIN.out.1, HFIN.out.2.1⟩, HFIN.out.2.2⟩
end Go.Proofs.Ytmnafocmbcgdiab
