/-
  The reference: New.
-/
import Derived.Test.YtahoileampdnkaaMA
import Derived.Deep.AppendLies
import Derived.Deep.RegionLaw
namespace Go.Proofs.Ytahoileampdnkaa
open Go.ChangeShapes Go.WideShapes Go.ChangeAt Go.RowKit Ru N Tri
set_option maxHeartbeats 1000000
set_option maxRecDepth 100000

def rcells (x : Nat) (y : Int) (sub lo hi : Nat) (vk vt : Value) : Array Value := #[.int .u32 (x : Int), .int .i64 y, .int .i64 (sub : Int), .int .i64 (lo : Int), .int .i64 (hi : Int), vk, vt]

/-- The reference's pool that is being made. -/
structure RMk (w : World) (rb x : Nat) (y : Int) (sub lo hi : Nat) (u : World) (vk : Value) (A : List Nat) : Prop where
  new : w.heap.size ≤ rb
  vnew : ∀ g, vk.ownBlock = some g → w.heap.size ≤ g
  be : Below w.heap.size w u
  row : u.heap[rb]? = some (.cells (rcells x y sub lo hi vk (.slice none 0 0)) 77 (0, 0))
  own : OwnN u 0 vk A

theorem RMk.below {w u u' : World} {rb x sub lo hi : Nat} {y : Int} {vk : Value} {A : List Nat} (h : RMk w rb x y sub lo hi u vk A) (hb : Below u.heap.size u u') : RMk w rb x y sub lo hi u' vk A :=
  ⟨h.new, h.vnew, h.be.trans (hb.mono h.be.size), below_keeps hb h.row (Array.getElem?_eq_some_iff.1 h.row).1, h.own.below hb⟩

theorem alg_eq {sub x : Nat} {y : Int} (hs : sub ≤ 32) : alg sub x y = (valB x y && decide (y = (sub : Int))) := by
  unfold alg valB
  rw [Bool.eq_iff_iff]
  simp
  constructor
  · rintro ⟨rfl, h⟩
    rw [Int.toNat_natCast]
    omega
  · rintro ⟨⟨_, _, h⟩, rfl⟩
    rw [Int.toNat_natCast] at h
    exact ⟨rfl, h⟩

theorem num_inj {sub a b : Nat} (ha : a % 2 ^ (32 - sub) = 0) (hb : b % 2 ^ (32 - sub) = 0) (h : num sub a = num sub b) : a = b := by
  have h1 := Nat.div_add_mod a (2 ^ (32 - sub))
  have h2 := Nat.div_add_mod b (2 ^ (32 - sub))
  unfold num at h
  rw [h] at h1
  omega

/-- What the reference's New leaves. -/
def NewsR (w : World) (x : Nat) (y s : Int) (lo hi : Nat) (L : List (Nat × Int)) (e : Ending) (w' : World) : Prop :=
  (newE x y s lo hi L ≠ 0 ∧ e = .returned (.tuple #[.pointer none, .int .i64 (newE x y s lo hi L)]) ∧ Below w.heap.size w w') ∨
  (newE x y s lo hi L = 0 ∧ ∃ (rb sub : Nat) (vk : Value), s = (sub : Int) ∧ e = .returned (.tuple #[.pointer (some ⟨rb, 0, none⟩), .int .i64 0]) ∧ RMk w rb x y sub lo hi w' vk (L.map (·.1)))

theorem infoI : (Try.prog.info? 3).map (fun i => (i.zero, i.size, i.bytes)) = some (some (.int .i64 0), 1, 8) := by kernel_rfl
theorem infoI_at : ∃ i, Try.prog.info? 3 = some i ∧ i.zero = some (.int .i64 0) ∧ i.size = 1 ∧ i.bytes = 8 := by
  have h := infoI
  cases hq : Try.prog.info? 3 with
  | none => rw [hq] at h; cases h
  | some i =>
    rw [hq] at h
    simp at h
    exact ⟨i, rfl, h.1, h.2.1, h.2.2⟩

theorem ownN_ne {w : World} {B rb : Nat} {v : Value} {L : List Nat} {cs : Array Value} (h : OwnN w B v L) (hp : w.heap[rb]? = some (.cells cs 77 (0, 0))) : v.ownBlock ≠ some rb := by
  intro e
  rcases h.2 with ⟨rfl, _⟩ | ⟨g', cap', cur', rfl, _, hgg, _⟩
  · cases e
  · simp [Value.ownBlock] at e
    rw [e, hp] at hgg
    simp at hgg

theorem RMk.store {w u u' : World} {rb x sub lo hi n : Nat} {y : Int} {vk : Value} {A : List Nat} {g cap m : Nat} (h : RMk w rb x y sub lo hi u vk A) (hm : m = A.length + 1) (hown : u'.ownsRow 0 3 1 (.slice (some ⟨g, 0, none⟩) m cap) m ((A.map fun n : Nat => Value.int .i64 (n : Int)) ++ [.int .i64 (n : Int)])) (hb : ∀ k, k < u.heap.size → some k ≠ vk.ownBlock → u'.heap[k]? = u.heap[k]?)
    (h1 : u'.os = u.os) (h2 : u'.tape = u.tape) (h3 : u'.output = u.output) (h4 : u.heap.size ≤ u'.heap.size) (hat : vk.ownBlock = some g ∨ u.heap.size ≤ g) :
    RMk w rb x y sub lo hi (u'.setCell ⟨rb, 5, none⟩ (.slice (some ⟨g, 0, none⟩) m cap)) (.slice (some ⟨g, 0, none⟩) m cap) (A ++ [n]) := by
  have hrl := (Array.getElem?_eq_some_iff.1 h.row).1
  have hne := ownN_ne h.own h.row
  have hr : u'.heap[rb]? = some (.cells (rcells x y sub lo hi vk (.slice none 0 0)) 77 (0, 0)) := (hb rb hrl (Ne.symm hne)).trans h.row
  have hgr : g ≠ rb := by
    rcases hat with e | e
    · intro e'; exact hne (by rw [e, e'])
    · omega
  have hvn : w.heap.size ≤ g := by
    rcases hat with e | e
    · exact h.vnew g e
    · exact Nat.le_trans h.be.size e
  have hbe : Below w.heap.size w u' := ⟨h1.trans h.be.os, h2.trans h.be.tape, h3.trans h.be.output, Nat.le_trans h.be.size h4, fun k hk => (hb k (Nat.lt_of_lt_of_le hk h.be.size) (fun e => by have := h.vnew k e.symm; omega)).trans (h.be.block k hk)⟩
  refine ⟨h.new, fun g' e => by simp [Value.ownBlock] at e; omega, hbe.setCell (p := ⟨rb, 5, none⟩) h.new _, ?_, ?_⟩
  · rw [set_cells hr]; rfl
  · have hk : Keeps (fun k => k = rb) u' (u'.setCell ⟨rb, 5, none⟩ (.slice (some ⟨g, 0, none⟩) m cap)) := Keeps.set (S := fun k => k = rb) (Keeps.refl _ _) ⟨rb, 5, none⟩ rfl _
    have e : (A ++ [n]).length = m := by rw [hm]; simp
    unfold OwnN
    rw [e, List.map_append]
    refine ⟨hown.1, ?_⟩
    rcases hown.2 with ⟨h0, _⟩ | ⟨g', cap', cur, h0, hbb, hg, rest⟩
    · cases h0
    · simp only [Value.slice.injEq, Option.some.injEq, Addr.mk.injEq, and_true] at h0
      obtain ⟨rfl, -, rfl⟩ := h0
      exact .inr ⟨g, cap, cur, rfl, hbb, (hk.block g (Array.getElem?_eq_some_iff.1 hg).1 hgr).trans hg, rest⟩

theorem newR_any (x lo hi : Nat) (y s : Int) (v : Value) (L : List (Nat × Int)) (w : World) (hx : x < 4294967296) (hl : lo < 4294967296) (hh : hi < 4294967296) (hv : Sees w v L) (hL : ∀ p ∈ L, p.1 < 4294967296) :
    Calls Try.prog 22 #[.agg #[.int .u32 (x : Int), .int .i64 y], .int .i64 s, .int .u32 (lo : Int), .int .u32 (hi : Int), v] w (NewsR w x y s lo hi L) := by
  obtain ⟨ao, n, cap, rfl, HN, hn1, hn2⟩ := hv.shape
  unfold maxLen at hn2
  obtain ⟨wa, HWA⟩ : ∃ wa, Hid (wa = w.alloc (.cells #[.int .u32 (x : Int), .int .i64 y] 25)) := ⟨_, rfl⟩
  have hb0 : Below w.heap.size w wa := by rw [HWA.out]; exact (Below.refl _ _).alloc (Nat.le_refl _) _
  have r1 : wa.heap[w.heap.size]? = some (.cells #[.int .u32 (x : Int), .int .i64 y] 25) := by rw [HWA.out]; exact heap_alloc_new w _
  obtain ⟨q0, q1⟩ := Beh.two r1
  have HB0 := hid hb0
  have HV := hid (hv.below hb0)
  have HLL := hid hL
  have HCK : ∀ t : Beh wa, Hid (Calls Try.prog 38 #[.agg #[.int .u32 (x : Int), .int .i64 y], .int .i64 s, .int .u32 (lo : Int), .int .u32 (hi : Int)] t.wd fun e w' => e = .returned (.int .i64 (ck x y s lo hi)) ∧ ∃ t' : Beh wa, w' = t'.wd) := fun t => Calls.beh (lookedR x lo hi y s t.wd hx hl hh)
  have hbw : ∀ t : Beh wa, Below w.heap.size w t.wd := fun t => HB0.out.trans (t.ok.mono HB0.out.size)
  clear hv hb0 r1 hL
  by_cases h1024 : 1024 < n
  · have HE : Hid (newE x y s lo hi L = 2) := by unfold Hid newE; rw [if_pos (by have := HN.out; omega)]
    go_enter Try.func22, Try.ntmps22
    go_upto_region 1 with fail
    rw [← HWA.out]
    go_wp2_with fail
    refine bodyPost_ret (v := .tuple #[.pointer none, .int .i64 2]) (by simp [results, Try.results22, go_sem]) rfl ?_
    exact .inl ⟨by rw [HE.out]; decide, by rw [HE.out], hbw ⟨wa, Below.refl _ _⟩⟩
  · have HE1 : Hid (newE x y s lo hi L = if ck x y s lo hi ≠ 0 then ck x y s lo hi else keE x y s.toNat [] L) := by unfold Hid newE; rw [if_neg (by have := HN.out; omega)]
    go_enter Try.func22, Try.ntmps22
    go_upto_region 1 with fail
    rw [← HWA.out]
    go_upto_region 3 with fail
    have p0 := q0 ⟨wa, Below.refl _ _⟩
    have p1 := q1 ⟨wa, Below.refl _ _⟩
    go_wp2_with fail
    refine (HCK ⟨wa, Below.refl _ _⟩).out.mono ?_
    rintro _ _ ⟨rfl, t1, rfl⟩
    by_cases hck : ck x y s lo hi = 0
    · obtain ⟨k1, k2, k3, k4, k5, k6, k7, k8⟩ := ck_zero hck
      have hs := valB_range k5
      obtain ⟨sub, rfl⟩ : ∃ sub : Nat, s = (sub : Int) := ⟨s.toNat, by omega⟩
      have hs32 : sub ≤ 32 := by omega
      have HE2 : Hid (newE x y (sub : Int) lo hi L = keE x y sub [] L) := by unfold Hid; rw [HE1.out, hck, if_neg (by simp), Int.toNat_natCast]
      rw [hck]
      clear hck HE1 k2 k3 k4 k5 k6 k7 k8 hs HCK p0 p1
      obtain ⟨rb, HRB⟩ : ∃ rb, Hid (rb = t1.wd.heap.size) := ⟨_, rfl⟩
      obtain ⟨w2, HW2⟩ : ∃ w2, Hid (w2 = t1.wd.alloc (.cells #[.int .u32 (x : Int), .int .i64 y, .int .i64 (sub : Int), .int .i64 (lo : Int), .int .i64 (hi : Int), .slice none 0 0, .slice none 0 0] 77)) := ⟨_, rfl⟩
      have HMK0 : Hid (RMk wa rb x y sub lo hi w2 (.slice none 0 0) []) := by
        refine ⟨by rw [HRB.out]; exact t1.ok.size, (fun g h => by cases h), by rw [HW2.out]; exact t1.ok.alloc t1.ok.size _, by rw [HW2.out, HRB.out]; exact heap_alloc_new t1.wd _, ⟨rfl, .inl ⟨rfl, rfl⟩⟩⟩
      have z0 := q0 t1
      have z1 := q1 t1
      go_upto_region 8 with fail
      rw [← HW2.out, ← HRB.out]
      clear z0 z1 HW2
      go_loopw [14, 15] (fun i _ wr => ∃ (j : Nat) (vk : Value), i = .int .i64 (j : Int) ∧ j ≤ n ∧ Hid (RMk wa rb x y sub lo hi wr vk ((L.take j).map (·.1))) ∧ Hid (∀ a ∈ (L.take j).map (·.1), a % 2 ^ (32 - sub) = 0) ∧ Hid (keE x y sub ((L.take j).map fun p => num sub p.1) (L.drop j) = keE x y sub [] L)) (fun i _ _ => n - (intOf i).toNat)
      case atStart => exact ⟨0, .slice none 0 0, rfl, Nat.zero_le _, HMK0, hid (by simp), hid (by simp)⟩
      case round =>
        obtain ⟨j, vk, rfl, hj, HMK, HAL, HKE⟩ := hrel
        by_cases hjn : j < n
        · have hseen := HV.out.below HMK.out.be
          obtain ⟨g, off, p, hao, hg, d0, d1, HPJ⟩ := hseen.at j hjn
          subst hao
          have hp1 : p.1 < 4294967296 := HLL.out p (List.mem_of_getElem? HPJ.out)
          have hjl : j < L.length := (List.getElem?_eq_some_iff.1 HPJ.out).1
          have edr : L.drop j = p :: L.drop (j + 1) := by rw [List.drop_eq_getElem_cons hjl, (List.getElem?_eq_some_iff.1 HPJ.out).2]
          have etk : ∀ f : Nat × Int → Nat, (L.take (j + 1)).map f = (L.take j).map f ++ [f p] := fun f => by
            rw [List.take_succ_eq_append_getElem hjl, (List.getElem?_eq_some_iff.1 HPJ.out).2]; simp
          have HSTEP : Hid (keE x y sub ((L.take j).map fun p => num sub p.1) (L.drop j) = if alg sub p.1 p.2 = false then 100 else if inN x y p.1 = false then 101 else if num sub p.1 ∈ ((L.take j).map fun p => num sub p.1) then 5 else keE x y sub ((L.take (j + 1)).map fun p => num sub p.1) (L.drop (j + 1))) := by
            unfold Hid; rw [edr, etk]; rfl
          have HTK := hid etk
          have HMEM : Hid (alg sub p.1 p.2 = true → (p.1 ∈ (L.take j).map (·.1) ↔ num sub p.1 ∈ ((L.take j).map fun p => num sub p.1))) := fun ha => by
            have ha' : p.1 % 2 ^ (32 - sub) = 0 := by unfold alg at ha; simp at ha; exact ha.2
            constructor
            · intro h
              obtain ⟨q, hq, e⟩ := List.mem_map.1 h
              exact List.mem_map.2 ⟨q, hq, by rw [e]⟩
            · intro h
              obtain ⟨q, hq, e⟩ := List.mem_map.1 h
              have hm : q.1 ∈ (L.take j).map (·.1) := List.mem_map.2 ⟨q, hq, rfl⟩
              rw [← num_inj (HAL.out _ hm) ha' e]
              exact hm
          obtain ⟨t2, ht2⟩ : ∃ t : Beh wa, t.wd = wr := ⟨⟨wr, HMK.out.be⟩, rfl⟩
          have HA : Hid (Calls Try.prog 39 #[.agg #[.int .u32 (p.1 : Int), .int .i64 p.2], .int .i64 (sub : Int)] wr fun e w' => e = .returned (.bool (alg sub p.1 p.2)) ∧ Below wr.heap.size wr w') := by
            unfold Hid; rw [alg_eq hs32]; exact alignedR p.1 p.2 (sub : Int) wr hp1
          have b1 : (j : Int) < (n : Int) := by omega
          clear edr etk hjl hseen
          go_upto_region 10 with fail
          go_wp2_with fail
          refine HA.out.mono ?_
          rintro _ w3 ⟨rfl, hb3⟩
          have HMK3 := hid (HMK.out.below hb3)
          have hbk : ∀ u' : World, Below wa.heap.size wa u' → Below w.heap.size w u' := fun u' h => HB0.out.trans (h.mono HB0.out.size)
          clear hb3 d0 d1 hg
          cases hal : alg sub p.1 p.2 with
          | false =>
            have HF : Hid (newE x y (sub : Int) lo hi L = 100) := by unfold Hid; rw [HE2.out, ← HKE.out, HSTEP.out, if_pos hal]
            go_wp2_with fail
            refine bodyPost_ret (v := .tuple #[.pointer none, .int .i64 100]) (by simp [results, Try.results22, go_sem]) rfl ?_
            exact .inl ⟨by rw [HF.out]; decide, by rw [HF.out], hbk _ HMK3.out.be⟩
          | true =>
            have hwt : ∀ t : Beh w3, Below wa.heap.size wa t.wd := fun t => HMK3.out.be.trans (t.ok.mono HMK3.out.be.size)
            have y0 : ∀ t : Beh w3, t.wd.cell? ⟨w.heap.size, 0, none⟩ = some (.int .u32 (x : Int)) := fun t => q0 ⟨t.wd, hwt t⟩
            have y1 : ∀ t : Beh w3, t.wd.cell? ⟨w.heap.size, 1, none⟩ = some (.int .i64 y) := fun t => q1 ⟨t.wd, hwt t⟩
            have hcl : ∀ u : World, Below wa.heap.size wa u → u.cell? ⟨g, off + j * 2, none⟩ = some (.int .u32 (p.1 : Int)) := fun u hu => by
              obtain ⟨g', off', p', e, hg', d0', d1', HPJ'⟩ := (HV.out.below hu).at j hjn
              simp only [Option.some.injEq, Addr.mk.injEq, and_true] at e
              obtain ⟨rfl, rfl⟩ := e
              have := HPJ'.out
              rw [HPJ.out] at this
              simp at this
              subst this
              exact d0'
            have y2 : ∀ t : Beh w3, t.wd.cell? ⟨g, off + j * 2, none⟩ = some (.int .u32 (p.1 : Int)) := fun t => hcl _ (hwt t)
            have HC : ∀ t : Beh w3, Hid (Calls Try.prog 40 #[.agg #[.int .u32 (x : Int), .int .i64 y], .int .u32 (p.1 : Int)] t.wd fun e w' => e = .returned (.bool (inN x y p.1)) ∧ ∃ t' : Beh w3, w' = t'.wd) := fun t => Calls.beh (containsR x y p.1 _ hx k1)
            have b2 : (0 : Int) ≤ (j : Int) := by omega
            have b3 : decide ((j : Int) < 0) = false := by simp
            go_upto_region 13 with fail
            refine wp_region_beh (by kernel_rfl) (by kernel_rfl) ?_
            repeat (go_big_quiet_step (first | (go_at_call 40; exact (HC _).out)))
            refine wpQuiet_nil ?_
            rintro _ ⟨t4, rfl⟩
            have HMK4 := hid (HMK3.out.below t4.ok)
            cases hin : inN x y p.1 with
            | false =>
              have HF : Hid (newE x y (sub : Int) lo hi L = 101) := by unfold Hid; rw [HE2.out, ← HKE.out, HSTEP.out, if_neg (by rw [hal]; simp), if_pos hin]
              go_wp2_with fail
              refine bodyPost_ret (v := .tuple #[.pointer none, .int .i64 101]) (by simp [results, Try.results22, go_sem]) rfl ?_
              exact .inl ⟨by rw [HF.out]; decide, by rw [HF.out], hbk _ HMK4.out.be⟩
            | true =>
              clear y0 y1 y2 HC hwt
              obtain ⟨ak, lk, ck0, hvk, HLK, hlk1, hlk2⟩ := HMK4.out.own.shape
              subst hvk
              have hwt : ∀ t : Beh t4.wd, Below wa.heap.size wa t.wd := fun t => HMK4.out.be.trans (t.ok.mono HMK4.out.be.size)
              have y2 : ∀ t : Beh t4.wd, t.wd.cell? ⟨g, off + j * 2, none⟩ = some (.int .u32 (p.1 : Int)) := fun t => hcl _ (hwt t)
              have y3 : ∀ t : Beh t4.wd, t.wd.cell? ⟨rb, 5, none⟩ = some (.slice ak lk ck0) := fun t => by rw [cell_of_row _ _ _ _ _ _ (HMK4.out.below t.ok).row]; rfl
              have HIN : ∀ t : Beh t4.wd, Hid (Calls Try.prog 41 #[.slice ak lk ck0, .int .i64 (p.1 : Int)] t.wd fun e w' => e = .returned (.bool (decide (p.1 ∈ (L.take j).map (·.1)))) ∧ ∃ t' : Beh t4.wd, w' = t'.wd) := fun t =>
                (inR 0 _ _ p.1 t.wd (HMK4.out.below t.ok).own (by simp; have := HN.out; omega)).mono fun e w'' ⟨he, hw⟩ => ⟨he, t, hw⟩
              go_upto_region 16 with fail
              refine wp_region_beh (by kernel_rfl) (by kernel_rfl) ?_
              repeat (go_big_quiet_step (first | (go_at_call 41; exact (HIN _).out)))
              refine wpQuiet_nil ?_
              rintro _ ⟨t5, rfl⟩
              have HMK5 := hid (HMK4.out.below t5.ok)
              by_cases hmm : p.1 ∈ (L.take j).map (·.1)
              · have HF : Hid (newE x y (sub : Int) lo hi L = 5) := by unfold Hid; rw [HE2.out, ← HKE.out, HSTEP.out, if_neg (by rw [hal]; simp), if_neg (by rw [hin]; simp), if_pos ((HMEM.out hal).1 hmm)]
                have hd : decide (p.1 ∈ (L.take j).map (·.1)) = true := by rw [decide_eq_true_eq]; exact hmm
                rw [hd]
                go_wp2_with fail
                refine bodyPost_ret (v := .tuple #[.pointer none, .int .i64 5]) (by simp [results, Try.results22, go_sem]) rfl ?_
                exact .inl ⟨by rw [HF.out]; decide, by rw [HF.out], hbk _ HMK5.out.be⟩
              · have hd : decide (p.1 ∈ (L.take j).map (·.1)) = false := by rw [decide_eq_false_iff_not]; exact hmm
                have HKE2 : Hid (keE x y sub ((L.take (j + 1)).map fun p => num sub p.1) (L.drop (j + 1)) = keE x y sub [] L) := by
                  unfold Hid
                  rw [← HKE.out, HSTEP.out, if_neg (by rw [hal]; simp), if_neg (by rw [hin]; simp), if_neg (fun h => hmm ((HMEM.out hal).2 h))]
                have HAL2 : Hid (∀ a ∈ (L.take (j + 1)).map (·.1), a % 2 ^ (32 - sub) = 0) := fun a ha => by
                  rw [HTK.out, List.mem_append, List.mem_singleton] at ha
                  rcases ha with ha | rfl
                  · exact HAL.out a ha
                  · have h := hal
                    unfold alg at h; simp at h; exact h.2
                rw [hd]
                obtain ⟨A, HA0⟩ : ∃ A, Hid (A = (L.take j).map (·.1)) := ⟨_, hid rfl⟩
                rw [← HA0.out] at HMK5
                have HTK2 : Hid ((L.take (j + 1)).map (·.1) = A ++ [p.1]) := by unfold Hid; rw [HTK.out, HA0.out]
                have hla : lk = A.length := by rw [HLK.out, HA0.out]
                subst hla
                have hln : A.length ≤ 1024 := by rw [HA0.out]; simp; have := HN.out; omega
                obtain ⟨w5, hw5⟩ : ∃ w5, w5 = t5.wd := ⟨_, rfl⟩
                rw [← hw5] at HMK5 ⊢
                have u2 : w5.cell? ⟨g, off + j * 2, none⟩ = some (.int .u32 (p.1 : Int)) := by rw [hw5]; exact y2 t5
                have u3 : w5.cell? ⟨rb, 5, none⟩ = some (.slice ak A.length ck0) := by rw [hw5]; exact y3 t5
                have hgl : g < w5.heap.size := World.block_lt_of_cell? w5 _ u2
                have hrl : rb < w5.heap.size := World.block_lt_of_cell? w5 _ u3
                clear hw5 y2 y3 HIN hwt hd
                obtain ⟨i0, hi0, hz0, hz1, hz2⟩ := infoI_at
                have HI := hid hi0
                have hC3 : A.length + 1 ≤ maxLen := by unfold maxLen; omega
                have hC : (A.length + 1) * 8 ≤ 140737488355328 := by omega
                have hwp : IntKind.i64.wrap (p.1 : Int) = (p.1 : Int) := by rw [IntKind.wrap_i64]; omega
                obtain ⟨w7, HW7⟩ : ∃ w7, Hid (w7 = (w5.alloc (.cells #[.int .i64 (p.1 : Int)] 3)).drew) := ⟨_, rfl⟩
                have hb7 : Below w5.heap.size w5 w7 := by rw [HW7.out]; have h := (Below.refl w5.heap.size w5).alloc (Nat.le_refl _) (.cells #[.int .i64 (p.1 : Int)] 3); exact ⟨h.os, h.tape, h.output, h.size, h.block⟩
                have HMK7 := hid (HMK5.out.below hb7)
                have HNEW : Hid (∀ (i : Nat) u, [Value.int .i64 (p.1 : Int)][i]? = some u → w7.cell? ((⟨w5.heap.size, 0, none⟩ : Addr).add i) = some u) := by
                  have h : w7.heap[w5.heap.size]? = some (.cells #[.int .i64 (p.1 : Int)] 3 (0, 0)) := by rw [HW7.out]; exact heap_alloc_new w5 _
                  exact World.news_of_block h
                have hs7 : w7.heap.size = w5.heap.size + 1 := by rw [HW7.out]; exact World.size_alloc _ _
                have hrl2 : rb < w7.heap.size := by omega
                have hnr : some rb ≠ Value.ownBlock (.slice ak A.length ck0) := Ne.symm (ownN_ne HMK5.out.own HMK5.out.row)
                clear hi0
                go_upto_region 19 with fail
                go_region_law (first
                  | (rw [← HW7.out]; refine step_append_lies _ (by rfl) _ _ _ (by rfl) 0 3 i0 (.int .i64 0) 1 8 (by kernel_rfl) HI.out hz0 hz1 hz2 rfl (by omega) (.slice ak A.length ck0) A.length (A.map fun n : Nat => Value.int .i64 (n : Int)) (by rfl) HMK7.out.own ⟨w5.heap.size, 0, none⟩ 1 1 [.int .i64 (p.1 : Int)] (by rfl) (by rfl) HNEW.out (by simp [Value.oneCell']) (by omega) hC3 hC (Nat.zero_le _) (w5.heap.size + 1) hs7 ?_; intro g6 cap6 w6 hown6 hgrow hat6 hlt6; have hr6 : w6.heap[rb]? = some (.cells (rcells x y sub lo hi (.slice ak A.length ck0) (.slice none 0 0)) 77 (0, 0)) := (hgrow.block rb hrl2 hnr).trans HMK7.out.row; have c6 : w6.cell? ⟨rb, 5, none⟩ = some (.slice ak A.length ck0) := (by rw [cell_of_row _ _ _ _ _ _ hr6]; rfl); have f6 : w6.frozen? ⟨rb, 5, none⟩ = false := frozen_of_row _ _ _ _ _ hr6)
                  | fail)
                all_goals (
                  have HRM := hid (HMK7.out.store rfl hown6 (fun k hk hne => hgrow.block k hk hne) hgrow.os hgrow.tape hgrow.output hgrow.size (by
                    rcases hat6 with e | e
                    · exact .inl e
                    · right; omega))
                  clear hown6 hgrow hat6 hlt6 hr6 c6 f6
                  rw [← HTK2.out] at HRM
                  go_wp2_with fail
                  go_roundw
                  case rel => exact ⟨j + 1, _, by go_num, by omega, HRM, HAL2, HKE2⟩
                  case measure => simp [intOf]; omega)
        · have HF : Hid (newE x y (sub : Int) lo hi L = 0) := by
            have e : j = L.length := by have := HN.out; omega
            have h1 := HKE.out
            rw [e, List.drop_length] at h1
            unfold Hid
            rw [HE2.out, ← h1]; rfl
          have HMW : Hid (RMk w rb x y sub lo hi wr vk (L.map (·.1))) := by
            have e : j = L.length := by have := HN.out; omega
            have h2 := HMK.out
            rw [e, List.take_length] at h2
            exact ⟨Nat.le_trans HB0.out.size h2.new, fun g hg => Nat.le_trans HB0.out.size (h2.vnew g hg), HB0.out.trans (h2.be.mono HB0.out.size), h2.row, h2.own⟩
          go_wp2_with fail
          refine bodyPost_ret (v := .tuple #[.pointer (some ⟨rb, 0, none⟩), .int .i64 0]) (by simp [results, Try.results22, go_sem]) rfl ?_
          exact .inr ⟨HF.out, rb, sub, vk, rfl, rfl, HMW.out⟩
    · have HE2 : Hid (newE x y s lo hi L = ck x y s lo hi) := by unfold Hid; rw [HE1.out, if_pos hck]
      generalize ck x y s lo hi = c at *
      have hc0 : (c == 0) = false := by simp [hck]
      go_wp2_with fail
      refine bodyPost_ret (v := .tuple #[.pointer none, .int .i64 c]) (by simp [results, Try.results22, go_sem]) rfl ?_
      exact .inl ⟨by rw [HE2.out]; exact hck, by rw [HE2.out], hbw t1⟩
end Go.Proofs.Ytahoileampdnkaa
