import Derived.Test.YthbjfbalgejndaaTS
namespace Go.Proofs.Ythbjfbalgejndaa
open Go.ChangeShapes Go.WideShapes Go.ChangeAt Go.RowKit Go.Maps H
set_option maxHeartbeats 4000000
set_option maxRecDepth 100000

/-- Where the first of the first k stands. -/
def FirstAt (R : List Dl) (k : Nat) (z : Int) : Prop := (z = -1 ∧ k = 0) ∨ ∃ p : Nat, p < k ∧ z = (p : Int) ∧ ∀ q, q < k → ¬ Lt (at' R q) (at' R p)

theorem first_took {R : List Dl} {k p : Nat} (h : ∀ q, q < k → ¬ Lt (at' R q) (at' R p)) (hl : Lt (at' R k) (at' R p)) : FirstAt R (k + 1) (k : Int) := by
  refine .inr ⟨k, by omega, rfl, fun q hq hlt => ?_⟩
  rcases Nat.lt_or_ge q k with h1 | h1
  · exact h q h1 (hlt.trans hl)
  · rw [show q = k by omega] at hlt; exact Lt.irrefl _ hlt

theorem first_kept {R : List Dl} {k p : Nat} (hp : p < k) (h : ∀ q, q < k → ¬ Lt (at' R q) (at' R p)) (hl : ¬ Lt (at' R k) (at' R p)) : FirstAt R (k + 1) (p : Int) := by
  refine .inr ⟨p, by omega, rfl, fun q hq hlt => ?_⟩
  rcases Nat.lt_or_ge q k with h1 | h1
  · exact h q h1 hlt
  · rw [show q = k by omega] at hlt; exact hl hlt

theorem RfG.below {w u : World} {b : Nat} {ao : Option Addr} {n cap : Nat} {R : List Dl} (h : RfG w b ao n cap R) (hb : b < w.heap.size) (hu : Below w.heap.size w u) : RfG u b ao n cap R := by
  refine ⟨(hu.cell (p := ⟨b, 1, none⟩) hb).trans h.at1, fun j hj => ?_, h.lc, h.cm⟩
  obtain ⟨g, e, hgb, hgl, c0, c1, hfz⟩ := h.cell j hj
  refine ⟨g, e, hgb, Nat.lt_of_lt_of_le hgl hu.size, (hu.cell (p := ⟨g, _, none⟩) hgl).trans c0, (hu.cell (p := ⟨g, _, none⟩) hgl).trans c1, fun k => ?_⟩
  have hb := hu.block g hgl
  have := hfz k
  simp only [World.frozen?] at this ⊢
  rw [hb]; exact this

theorem first_any (b : Nat) (go : Option Nat) (lim : Int) (R : List Dl) (w : World) (hT : Rf w b go lim R) :
    Calls Try.prog 40 #[.pointer (some ⟨b, 0, none⟩)] w fun e w' => ∃ z, e = .returned (.int .i64 z) ∧ FirstAt R R.length z ∧ Below w.heap.size w w' := by
  obtain ⟨ao, n, cap, HN, hn6, _, hr, hG, _⟩ := hT.grip
  have h1 := hG.lc
  have h2 := hG.cm
  have HG : Hid (∀ u, Below w.heap.size w u → RfG u b ao n cap R) := fun u hu => hG.below (Array.getElem?_eq_some_iff.1 hr).1 hu
  rw [← HN.out]
  clear hT hG hr
  go_enter Try.func40, Try.ntmps40
  go_wp2_with fail
  go_loopw [3, 4] (fun t j wv => ∃ (k : Nat) (z : Int) (wr : World), wr = wv ∧ t = .int .i64 z ∧ j = .int .i64 k ∧ k ≤ n ∧ Hid (FirstAt R k z) ∧ Hid (Below w.heap.size w wr)) (fun _ j _ => n - (intOf j).toNat)
  case atStart => exact ⟨0, -1, _, rfl, rfl, rfl, by omega, .inl ⟨rfl, rfl⟩, Below.refl _ _⟩
  case round =>
    obtain ⟨k, z, u, rfl, rfl, rfl, hk, HF, HB⟩ := hrel
    obtain ⟨k1, hcell, _, _⟩ := HG.out u HB.out
    by_cases hlt : k < n
    · obtain ⟨x1, hx1⟩ : ∃ x1, x1 = u.alloc (.cells #[.int .i64 (at' R k).1, .int .i64 (at' R k).2] 76) := ⟨_, rfl⟩
      have hbx : Below u.heap.size u x1 := by rw [hx1]; exact (Below.refl _ _).alloc (Nat.le_refl _) _
      have hBX : Below w.heap.size w x1 := HB.out.trans (hbx.mono HB.out.size)
      have hrx : x1.heap[u.heap.size]? = some (.cells #[.int .i64 (at' R k).1, .int .i64 (at' R k).2] 76 (0, 0)) := by rw [hx1]; exact heap_alloc_new u _
      have n0 : x1.cell? ⟨u.heap.size, 0, none⟩ = some (.int .i64 (at' R k).1) := by rw [cell_of_row _ _ _ _ _ _ hrx]; rfl
      have n1 : x1.cell? ⟨u.heap.size, 1, none⟩ = some (.int .i64 (at' R k).2) := by rw [cell_of_row _ _ _ _ _ _ hrx]; rfl
      have HX1 := hid hx1
      have HBX := hid hBX
      obtain ⟨g, rfl, _, _, e0, e1, _⟩ := hcell k hlt
      obtain ⟨kx, hcx, _, _⟩ := HG.out x1 hBX
      clear hx1 hbx hBX hrx hcell HB
      rcases HF.out with ⟨rfl, rfl⟩ | ⟨p, hp, rfl, hleast⟩
      · have HFA : Hid (FirstAt R (0 + 1) ((0 : Nat) : Int)) := .inr ⟨0, by omega, rfl, fun q hq => by rw [show q = 0 by omega]; exact Lt.irrefl _⟩
        clear HF hcx
        generalize (at' R 0).1 = z0 at *
        generalize (at' R 0).2 = z1 at *
        go_upto_region 6 with fail
        rw [← HX1.out]
        clear e0 e1 k1
        go_wp2
        go_region
        go_wp2
        go_roundw
        case rel => exact ⟨0 + 1, ((0 : Nat) : Int), _, rfl, rfl, by go_num, by omega, HFA, below_drew HBX.out⟩
        case measure => simp [intOf]; omega
      · obtain ⟨g', eg, _, _, f0, f1, _⟩ := hcx p (by omega)
        cases eg
        have hpn : p < n := by omega
        have b0 : (p : Int) < (n : Int) := by omega
        have b1 : (0 : Int) ≤ (p : Int) := by omega
        have hq0 : decide ((p : Int) < 0) = false := by simp
        have hlt2 : Lt (at' R k) (at' R p) ↔ ((at' R k).2 < (at' R p).2 ∨ (at' R k).2 = (at' R p).2 ∧ (at' R k).1 < (at' R p).1) := Iff.rfl
        have HLE := hid hleast
        clear hcx hleast
        by_cases hA : (at' R k).2 < (at' R p).2
        · have hq1 : decide ((at' R k).2 < (at' R p).2) = true := decide_eq_true hA
          have HFA : Hid (FirstAt R (k + 1) (k : Int)) := first_took HLE.out (hlt2.2 (.inl hA))
          clear HF hlt2
          generalize (at' R k).1 = z0 at *
          generalize (at' R k).2 = z1 at *
          generalize (at' R p).1 = y0 at *
          generalize (at' R p).2 = y1 at *
          go_upto_region 6 with fail
          rw [← HX1.out]
          clear e0 e1 k1
          go_wp2_with fail
          go_quiet (fail)
          go_wp2_with fail
          go_roundw
          case rel => exact ⟨k + 1, (k : Int), _, rfl, rfl, by go_num, by omega, HFA, below_drewN HBX.out _⟩
          case measure => simp [intOf]; omega
        · have hq1 : decide ((at' R k).2 < (at' R p).2) = false := decide_eq_false hA
          by_cases hBq : (at' R k).2 = (at' R p).2
          · have hq2 : ((at' R k).2 == (at' R p).2) = true := by simp [hBq]
            by_cases hC : (at' R k).1 < (at' R p).1
            · have hq3 : decide ((at' R k).1 < (at' R p).1) = true := decide_eq_true hC
              have HFA : Hid (FirstAt R (k + 1) (k : Int)) := first_took HLE.out (hlt2.2 (.inr ⟨hBq, hC⟩))
              clear HF hlt2 hBq
              generalize (at' R k).1 = z0 at *
              generalize (at' R k).2 = z1 at *
              generalize (at' R p).1 = y0 at *
              generalize (at' R p).2 = y1 at *
              go_upto_region 6 with fail
              rw [← HX1.out]
              clear e0 e1 k1
              go_wp2_with fail
              go_quiet (fail)
              go_wp2_with fail
              go_roundw
              case rel => exact ⟨k + 1, (k : Int), _, rfl, rfl, by go_num, by omega, HFA, below_drewN HBX.out _⟩
              case measure => simp [intOf]; omega
            · have hq3 : decide ((at' R k).1 < (at' R p).1) = false := decide_eq_false hC
              have HFA : Hid (FirstAt R (k + 1) (p : Int)) := first_kept hp HLE.out (fun h => by have := hlt2.1 h; omega)
              clear HF hlt2 hBq
              generalize (at' R k).1 = z0 at *
              generalize (at' R k).2 = z1 at *
              generalize (at' R p).1 = y0 at *
              generalize (at' R p).2 = y1 at *
              go_upto_region 6 with fail
              rw [← HX1.out]
              clear e0 e1 k1
              go_wp2_with fail
              go_quiet (fail)
              go_wp2_with fail
              go_roundw
              case rel => exact ⟨k + 1, (p : Int), _, rfl, rfl, by go_num, by omega, HFA, below_drewN HBX.out _⟩
              case measure => simp [intOf]; omega
          · have hq2 : ((at' R k).2 == (at' R p).2) = false := by simp [hBq]
            have HFA : Hid (FirstAt R (k + 1) (p : Int)) := first_kept hp HLE.out (fun h => by have := hlt2.1 h; omega)
            clear HF hlt2 hBq
            generalize (at' R k).1 = z0 at *
            generalize (at' R k).2 = z1 at *
            generalize (at' R p).1 = y0 at *
            generalize (at' R p).2 = y1 at *
            go_upto_region 6 with fail
            rw [← HX1.out]
            clear e0 e1 k1
            go_wp2_with fail
            go_quiet (fail)
            go_wp2_with fail
            go_roundw
            case rel => exact ⟨k + 1, (p : Int), _, rfl, rfl, by go_num, by omega, HFA, below_drewN HBX.out _⟩
            case measure => simp [intOf]; omega
    · have HFE : Hid (FirstAt R n z) := by rw [show n = k by omega]; exact HF
      clear HF hcell
      go_wp2_with fail
      go_ret
      exact ⟨z, rfl, HFE.out, HB.out⟩

/-- The sorted list of what the row holds. -/
structure Srt (R S : List Dl) : Prop where
  sorted : S.Pairwise Lt
  mem : ∀ x, x ∈ S ↔ x ∈ R

theorem Srt.len {R S : List Dl} (h : Srt R S) (hi : Ids R) : S.length = R.length := by
  have h1 := nodup_len S R (sorted_nodup h.sorted) (fun x hx => (h.mem x).1 hx)
  have h2 := nodup_len R S (hi.imp fun h e => h (by rw [e])) (fun x hx => (h.mem x).2 hx)
  omega

theorem Srt.head {R S : List Dl} (h : Srt R S) {p : Nat} (hp : p < R.length) (hl : ∀ q, q < R.length → ¬ Lt (at' R q) (at' R p)) : ∃ T, S = at' R p :: T := by
  have h0 : at' R p ∈ S := (h.mem _).2 (mem_at hp)
  match S, h, h0 with
  | s :: T, h, h0 =>
    have hs : s ∈ R := (h.mem s).1 List.mem_cons_self
    obtain ⟨q, hq⟩ := List.mem_iff_getElem?.1 hs
    have hql := (List.getElem?_eq_some_iff.1 hq).1
    have e := at_get hql
    rw [hq] at e
    have e' : s = at' R q := Option.some.inj e
    rcases List.mem_cons.1 h0 with e2 | h2
    · exact ⟨T, by rw [e2]⟩
    · have := (List.pairwise_cons.1 h.sorted).1 _ h2
      rw [e'] at this
      exact absurd this (hl q hql)

theorem Srt.nil {S : List Dl} (h : Srt [] S) : S = [] := by
  cases S with
  | nil => rfl
  | cons s T => exact absurd ((h.mem s).1 List.mem_cons_self) (by simp)

theorem rnext_any (b : Nat) (go : Option Nat) (lim : Int) (R S : List Dl) (w : World) (hT : Rf w b go lim R) (hS : Srt R S) :
    Calls Try.prog 32 #[.pointer (some ⟨b, 0, none⟩)] w fun e w' => e = .returned (nextS S) ∧ Below w.heap.size w w' := by
  have HF := hid (first_any b go lim R w hT)
  obtain ⟨ao, n, cap, HN, hn6, _, hr, hG, _⟩ := hT.grip
  have h1 := hG.lc
  have h2 := hG.cm
  have HG : Hid (∀ u, Below w.heap.size w u → RfG u b ao n cap R) := fun u hu => hG.below (Array.getElem?_eq_some_iff.1 hr).1 hu
  have HS := hid hS
  clear hT hG hr hS
  go_enter Try.func32, Try.ntmps32
  go_wp2_with fail
  refine HF.out.mono ?_
  rintro _ u ⟨z, rfl, hz, hb⟩
  have HB := hid hb
  obtain ⟨k1, hcell, _, _⟩ := HG.out u hb
  rcases hz with ⟨rfl, h0⟩ | ⟨p, hp, rfl, hl⟩
  · have HEND : Hid (Ending.returned (.tuple #[.int .i64 0, .int .i64 0, .int .i64 3]) = .returned (nextS S)) := by
      have h := HS.out
      rw [List.eq_nil_of_length_eq_zero h0] at h
      unfold Hid
      rw [h.nil]; rfl
    clear h0 hb hcell HF
    go_wp2_with fail
    go_ret3
    exact ⟨HEND.out, HB.out⟩
  · have HE := hid (HS.out.head hp hl)
    obtain ⟨g, rfl, _, _, e0, e1, _⟩ := hcell p (by rw [HN.out]; exact hp)
    have hpn : p < n := by rw [HN.out]; exact hp
    have HEND : Hid (Ending.returned (.tuple #[.int .i64 (at' R p).1, .int .i64 (at' R p).2, .int .i64 0]) = .returned (nextS S)) := by
      obtain ⟨T, e⟩ := HE.out
      unfold Hid
      rw [e]; rfl
    clear hb hcell HF hp hl HE
    generalize (at' R p).1 = y0 at *
    generalize (at' R p).2 = y1 at *
    go_wp2
    go_region
    go_wp2
    go_ret3
    exact ⟨HEND.out, below_drew HB.out⟩
end Go.Proofs.Ythbjfbalgejndaa
