/-
  What has been given, by a plain list.
-/
import Derived.Test.YtjilahbkolcekabFQ
namespace Go.Proofs.Ytjilahbkolcekab
open Go.ChangeShapes Go.WideShapes Go.ChangeAt Go.RowKit Go.Maps Tri
set_option maxHeartbeats 4000000
set_option maxRecDepth 100000

/-- The law's list at rest: the pods in the order in which they came. -/
structure GvAt (w : World) (gb : Nat) (vp : Value) (s : Ist) : Prop where
  row : w.heap[gb]? = some (.cells #[vp] 58 (0, 0))
  own : OwnD w 0 vp s.S
  ok : s.Ok

section
variable {w w' : World} {rb : Nat} {vp : Value} {s : Ist}
theorem GvAt.ne (h : GvAt w rb vp s) : vp.ownBlock ≠ some rb := fun e => by
  obtain ⟨cs, h1⟩ := h.own.kind e
  have := h.row
  rw [h1] at this
  simp at this
theorem GvAt.lt (h : GvAt w rb vp s) {k : Nat} (hk : fpR rb vp k) : k < w.heap.size := by
  rcases hk with rfl | hk
  · exact (Array.getElem?_eq_some_iff.1 h.row).1
  · exact (h.own.lt hk).2
theorem GvAt.keeps {S : Nat → Prop} (h : GvAt w rb vp s) (hk : Keeps S w w') (hn : ∀ k, fpR rb vp k → ¬ S k) : GvAt w' rb vp s :=
  ⟨(hk.block rb (h.lt (.inl rfl)) (hn _ (.inl rfl))).trans h.row, h.own.keeps hk fun k e => hn k (.inr e), h.ok⟩
theorem GvAt.below (h : GvAt w rb vp s) (hb : Below w.heap.size w w') : GvAt w' rb vp s := h.keeps (S := fun _ => False) (Keeps.of hb) fun _ _ e => e
theorem GvAt.cells (h : GvAt w rb vp s) : w.cell? ⟨rb, 0, none⟩ = some vp ∧ w.frozen? ⟨rb, 0, none⟩ = false := by
  have hr := h.row
  exact ⟨by rw [cell_of_row _ _ _ _ _ _ hr]; rfl, frozen_of_row _ _ _ _ _ hr⟩
theorem sepIG {pb bn ba : Nat} {s2 : Ist} (hp : IpAt w pb bn ba s2) (hr : GvAt w rb vp s) : ∀ k, fpI pb bn ba k → ¬ fpR rb vp k := by
  rintro k (rfl | rfl | rfl) (e | e)
  · have := hp.row
    rw [e, hr.row] at this
    simp at this
  · obtain ⟨cs, h1⟩ := hr.own.kind e
    have := hp.row
    rw [h1] at this
    simp at this
  · obtain ⟨es, c, h1⟩ := hp.mn.isMap
    rw [e, hr.row] at h1
    cases h1
  · obtain ⟨es, c, h1⟩ := hp.mn.isMap
    obtain ⟨cs, h2⟩ := hr.own.kind e
    rw [h1] at h2
    cases h2
  · obtain ⟨es, c, h1⟩ := hp.ma.isMap
    rw [e, hr.row] at h1
    cases h1
  · obtain ⟨es, c, h1⟩ := hp.ma.isMap
    obtain ⟨cs, h2⟩ := hr.own.kind e
    rw [h1] at h2
    cases h2
end

/-- What a call leaves that changes it. -/
structure GTurn (w w' : World) (rb : Nat) (vp : Value) (s' : Ist) (vp' : Value) : Prop where
  ref : GvAt w' rb vp' s'
  new : NwB vp vp' w.heap.size
  keeps : Keeps (fpR rb vp) w w'

theorem GvAt.store {w u : World} {rb : Nat} {vp v' : Value} {s s' : Ist} (h : GvAt w rb vp s) (hk : Keeps (fun k => vp.ownBlock = some k) w u) (ho : OwnD u 0 v' s'.S) (hn : NwB vp v' w.heap.size) (hok : s'.Ok) :
    GTurn w (u.setCell ⟨rb, 0, none⟩ v') rb vp s' v' := by
  have hr : u.heap[rb]? = some (.cells #[vp] 58 (0, 0)) := (hk.block rb (h.lt (.inl rfl)) h.ne).trans h.row
  have hks : Keeps (fun k => k = rb) u (u.setCell ⟨rb, 0, none⟩ v') := Keeps.set (S := fun k => k = rb) (Keeps.refl _ _) ⟨rb, 0, none⟩ rfl _
  have hne : v'.ownBlock ≠ some rb := fun e => by
    obtain ⟨cs, h1⟩ := ho.kind e
    rw [hr] at h1
    simp at h1
  refine ⟨⟨?_, ho.keeps hks fun k hk1 e => hne (by rw [hk1, e]), hok⟩, hn, (hk.mono fun k _ e => .inr e).trans (hks.mono fun k _ e => .inl e)⟩
  rw [set_cells hr]; rfl

theorem gat_any (w : World) (rb : Nat) (vp : Value) (s : Ist) (n : ByteArray) (h : GvAt w rb vp s) :
    Calls Try.prog 45 #[.pointer (some ⟨rb, 0, none⟩), .string n] w fun e w' => (∃ v, e = .returned (.int .i64 v) ∧ AtN s n v) ∧ w' = w := by
  obtain ⟨c2, -⟩ := h.cells
  obtain ⟨av, nv, cv, rfl, HN, hnc, hcap, hnil⟩ := h.own.shape
  have HO := hid h.own
  have HOK := hid h.ok
  have HLE : Hid (nv ≤ 1024) := by have := h.ok.le; have := HN.out; unfold Hid; omega
  have hle := HLE.out
  clear h hnil hcap
  go_enter Try.func45, Try.ntmps45
  go_upto_region 2 with fail
  go_loopw [5] (fun i wr => ∃ j : Nat, i = .int .i64 (j : Int) ∧ j ≤ nv ∧ Hid (∀ k p, k < j → s.S[k]? = some p → p.nm ≠ n) ∧ wr = w) (fun i _ => nv - (intOf i).toNat)
  case atStart => exact ⟨0, rfl, Nat.zero_le _, fun k p hk => absurd hk (by omega), rfl⟩
  case round =>
    obtain ⟨j, rfl, hj, HA, rfl⟩ := hrel
    by_cases hlt : j < nv
    · have hlt' : (j : Int) < (nv : Int) := int_lt hlt
      obtain ⟨p, HX⟩ : ∃ p, Hid (s.S[j]? = some p) := ⟨_, hid (List.getElem?_eq_getElem (by have := HN.out; omega))⟩
      obtain ⟨g, rfl, hg, hcl⟩ := HO.out.at HX.out
      obtain ⟨d0, d1, -, -⟩ := hcl wr rfl
      clear hcl hg d1
      by_cases he : p.nm = n
      · have q : (p.nm.toList == n.toList) = true := by rw [he]; simp
        have HE : Hid (AtN s n (j : Int)) := .inr ⟨j, p, by rw [← he]; exact HOK.out.byN_mem (List.mem_of_getElem? HX.out), HX.out, rfl⟩
        clear he
        go_wp2_with fail
        go_ret
        exact ⟨⟨_, rfl, HE.out⟩, rfl⟩
      · have q : (p.nm.toList == n.toList) = false := str_ne he
        have HA2 : Hid (∀ k p, k < j + 1 → s.S[k]? = some p → p.nm ≠ n) := fun k p2 hk hp => by
          rcases Nat.lt_or_ge k j with h1 | h1
          · exact HA.out k p2 h1 hp
          · have : k = j := by omega
            subst this
            rw [HX.out] at hp
            cases hp
            exact he
        clear he
        go_wp2_with fail
        go_roundw
        case rel => exact ⟨j + 1, by go_num, hlt, HA2, trivial⟩
        case measure => simp [intOf]; omega
    · have hlt' : ¬ (j : Int) < (nv : Int) := int_nlt hlt
      have HE : Hid (AtN s n (-1)) := by
        refine .inl ⟨List.find?_eq_none.2 fun p hp => ?_, rfl⟩
        obtain ⟨k, hk, e⟩ := List.mem_iff_getElem.1 hp
        have := HA.out k p (by have := HN.out; omega) (by rw [List.getElem?_eq_getElem hk, e])
        simpa using this
      go_wp2_with fail
      go_ret
      exact ⟨⟨_, rfl, HE.out⟩, rfl⟩

theorem gholder_any (w : World) (rb : Nat) (vp : Value) (s : Ist) (a : Nat) (h : GvAt w rb vp s) :
    Calls Try.prog 46 #[.pointer (some ⟨rb, 0, none⟩), .int .u32 (a : Int)] w fun e w' => (∃ v, e = .returned (.int .i64 v) ∧ AtA s a v) ∧ w' = w := by
  obtain ⟨c2, -⟩ := h.cells
  obtain ⟨av, nv, cv, rfl, HN, hnc, hcap, hnil⟩ := h.own.shape
  have HO := hid h.own
  have HOK := hid h.ok
  have HLE : Hid (nv ≤ 1024) := by have := h.ok.le; have := HN.out; unfold Hid; omega
  have hle := HLE.out
  have HAD : Hid (∀ p ∈ s.S, p.ad < 4294967296) := fun p hp => by have := h.ok.ar p hp; have := h.ok.be; omega
  clear h hnil hcap
  go_enter Try.func46, Try.ntmps46
  go_upto_region 2 with fail
  go_loopw [5] (fun i wr => ∃ j : Nat, i = .int .i64 (j : Int) ∧ j ≤ nv ∧ Hid (∀ k p, k < j → s.S[k]? = some p → p.ad ≠ a) ∧ wr = w) (fun i _ => nv - (intOf i).toNat)
  case atStart => exact ⟨0, rfl, Nat.zero_le _, fun k p hk => absurd hk (by omega), rfl⟩
  case round =>
    obtain ⟨j, rfl, hj, HA, rfl⟩ := hrel
    by_cases hlt : j < nv
    · have hlt' : (j : Int) < (nv : Int) := int_lt hlt
      obtain ⟨p, HX⟩ : ∃ p, Hid (s.S[j]? = some p) := ⟨_, hid (List.getElem?_eq_getElem (by have := HN.out; omega))⟩
      obtain ⟨g, rfl, hg, hcl⟩ := HO.out.at HX.out
      obtain ⟨d0, d1, -, -⟩ := hcl wr rfl
      obtain ⟨m, HM⟩ : ∃ m, Hid (m = p.ad) := ⟨_, rfl⟩
      rw [← HM.out] at d1
      have hm : m < 4294967296 := by rw [HM.out]; exact HAD.out p (List.mem_of_getElem? HX.out)
      clear hcl hg d0
      by_cases he : m = a
      · have q : ((m : Int) == (a : Int)) = true := by simp [he]
        have q2 : (m : Int) = (a : Int) := by omega
        have HE : Hid (AtA s a (j : Int)) := .inr ⟨j, p, by rw [← he, HM.out]; exact HOK.out.byA_mem (List.mem_of_getElem? HX.out), HX.out, rfl⟩
        clear he
        go_wp2_with fail
        go_ret
        exact ⟨⟨_, rfl, HE.out⟩, rfl⟩
      · have q : ((m : Int) == (a : Int)) = false := by simp; omega
        have q2 : ¬ (m : Int) = (a : Int) := by omega
        have HA2 : Hid (∀ k p, k < j + 1 → s.S[k]? = some p → p.ad ≠ a) := fun k p2 hk hp => by
          rcases Nat.lt_or_ge k j with h1 | h1
          · exact HA.out k p2 h1 hp
          · have : k = j := by omega
            subst this
            rw [HX.out] at hp
            cases hp
            rw [← HM.out]
            exact he
        clear he
        go_wp2_with fail
        go_roundw
        case rel => exact ⟨j + 1, by go_num, hlt, HA2, trivial⟩
        case measure => simp [intOf]; omega
    · have hlt' : ¬ (j : Int) < (nv : Int) := int_nlt hlt
      have HE : Hid (AtA s a (-1)) := by
        refine .inl ⟨List.find?_eq_none.2 fun p hp => ?_, rfl⟩
        obtain ⟨k, hk, e⟩ := List.mem_iff_getElem.1 hp
        have := HA.out k p (by have := HN.out; omega) (by rw [List.getElem?_eq_getElem hk, e])
        simpa using this
      go_wp2_with fail
      go_ret
      exact ⟨⟨_, rfl, HE.out⟩, rfl⟩
end Go.Proofs.Ytjilahbkolcekab
