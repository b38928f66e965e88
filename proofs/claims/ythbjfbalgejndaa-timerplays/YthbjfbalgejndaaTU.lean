import Derived.Test.YthbjfbalgejndaaTT
namespace Go.Proofs.Ythbjfbalgejndaa
open Go.ChangeShapes Go.WideShapes Go.ChangeAt Go.RowKit Go.Maps H
set_option maxHeartbeats 4000000
set_option maxRecDepth 100000

theorem Rf.apart {w : World} {b : Nat} {go : Option Nat} {lim : Int} {R : List Dl} (h : Rf w b go lim R) {v : Value} {base : Nat} {L : List Int} (ho : OwnI w base v L) : ∀ x ∈ fpR b go, x ∉ v.ownBlock.toList := by
  intro x hx hv
  obtain ⟨v', hr, ho', hg⟩ := h.ex
  have h3 : ∃ cur, w.heap[x]? = some (.cells cur 3 (0, 0)) := by
    rcases ho.2 with ⟨rfl, _⟩ | ⟨g, cap, cur, rfl, _, hgg, _⟩
    · simp [Value.ownBlock] at hv
    · simp [Value.ownBlock] at hv
      subst hv
      exact ⟨cur, hgg⟩
  obtain ⟨cur, h3⟩ := h3
  simp only [fpR, List.mem_cons] at hx
  rcases hx with rfl | hx
  · rw [hr] at h3; cases h3
  · rcases ho'.2 with ⟨rfl, _⟩ | ⟨g, cap, cur', rfl, _, hgg, _⟩
    · rw [← hg] at hx; simp [Value.ownBlock] at hx
    · rw [← hg] at hx; simp [Value.ownBlock] at hx; subst hx; rw [hgg] at h3; cases h3

theorem Srt.took {R S T : List Dl} {d : Dl} (h : Srt R S) (hi : Ids R) (e : S = d :: T) : Srt (drp d.1 R) T := by
  subst e
  obtain ⟨s1, s2⟩ := List.pairwise_cons.1 h.sorted
  have hd : d ∈ R := (h.mem d).1 List.mem_cons_self
  refine ⟨s2, fun x => ?_⟩
  rw [mem_drp]
  constructor
  · intro hx
    have hxR := (h.mem x).1 (List.mem_cons_of_mem _ hx)
    refine ⟨hxR, fun e => ?_⟩
    have := idsM_of hi x hxR d hd e
    exact (s1 x hx).ne this.symm
  · rintro ⟨hx, hne⟩
    rcases List.mem_cons.1 ((h.mem x).2 hx) with rfl | h1
    · exact absurd rfl hne
    · exact h1

theorem rdue_any (b : Nat) (go : Option Nat) (lim : Int) (R S : List Dl) (now : Int) (w : World) (hT : Rf w b go lim R) (hS : Srt R S) :
    Calls Try.prog 33 #[.pointer (some ⟨b, 0, none⟩), .int .i64 now] w fun e w' => ∃ v go' R', e = .returned v ∧ OwnI w' w.heap.size v ((dueT S now).map (·.1)) ∧ Rf w' b go' lim R' ∧ Srt R' (dueR S now) ∧ (∀ x ∈ go'.toList, x ∈ go.toList ∨ w.heap.size ≤ x) ∧ Fr [b] w w' := by
  obtain ⟨i0, hi0, hz0, hz1, hz2⟩ := info_parts info3
  have HI : Hid (Try.prog.info? 3 = some i0) := hi0
  have HBL : Hid (b < w.heap.size) := hT.lt b (by simp [fpR])
  have hn6 : S.length ≤ 65536 := by have := hS.len hT.ids; have := hT.fits; have := hT.hi; omega
  have HT := hid hT
  have HS0 : Hid (Srt R (S.drop 0)) := hS
  clear hi0 hT hS
  go_enter Try.func33, Try.ntmps33
  go_wp2_with fail
  go_loopw [5] (fun v wv => ∃ (k : Nat) (ao : Option Addr) (cap : Nat) (go' : Option Nat) (R' : List Dl) (wr : World), v = .slice ao k cap ∧ wr = wv ∧ k ≤ S.length ∧ Hid (OwnI wr w.heap.size (.slice ao k cap) ((S.take k).map (·.1))) ∧ Hid (Rf wr b go' lim R') ∧ Hid (Srt R' (S.drop k)) ∧ Hid (∀ x ∈ go'.toList, x ∈ go.toList ∨ w.heap.size ≤ x) ∧ Hid (Fr [b] w wr) ∧ Hid (∀ x ∈ S.take k, x.2 ≤ now)) (fun v _ => S.length - lenOf v)
  case atStart => exact ⟨0, none, 0, go, R, _, rfl, rfl, by omega, ownI_nil _ _, HT, HS0, fun x hx => .inl hx, Fr.refl _ _, by simp [Hid]⟩
  case round =>
    clear HT HS0
    obtain ⟨k, ao, cap, go', R', u, rfl, rfl, hk, HO, HT, HS, HGO, HF, HP⟩ := hrel
    have hlen : ((S.take k).map (·.1)).length = k := by rw [List.length_map, List.length_take]; omega
    have HEND : Hid (∀ u', Below u.heap.size u u' → (∀ x, (S.drop k).head? = some x → ¬ x.2 ≤ now) → ∃ v go2 R2, Ending.returned (.slice ao k cap) = .returned v ∧ OwnI u' w.heap.size v ((dueT S now).map (·.1)) ∧ Rf u' b go2 lim R2 ∧ Srt R2 (dueR S now) ∧ (∀ x ∈ go2.toList, x ∈ go.toList ∨ w.heap.size ≤ x) ∧ Fr [b] w u') := fun u' hu h2 => by
      obtain ⟨e1, e2⟩ := due_at HP.out h2
      rw [e1, e2]
      refine ⟨_, go', R', rfl, HO.out.fr (Fr.of_below hu []) (by simp), HT.out.below hu, HS.out, HGO.out, HF.out.trans (Fr.of_below hu [b])⟩
    obtain ⟨a1, n1, c1, HN1, hn16, _, hr1, hG1, _⟩ := HT.out.grip
    have k1 := hG1.at1
    have l1 := hG1.lc
    have l2 := hG1.cm
    by_cases h0 : n1 = 0
    · subst h0
      have HE := hid (HEND.out u (Below.refl _ _) (fun x hx => by
        have h := HS.out
        rw [List.eq_nil_of_length_eq_zero HN1.out.symm] at h
        rw [h.nil] at hx; cases hx))
      clear hr1 hG1 HEND hlen
      go_wp2_with fail
      go_ret
      exact HE.out
    · have hpos : 0 < n1 := by omega
      have HFI := hid (first_any b go' lim R' u HT.out)
      have HG1 : Hid (∀ u', Below u.heap.size u u' → RfG u' b a1 n1 c1 R') := fun u' hu => hG1.below (Array.getElem?_eq_some_iff.1 hr1).1 hu
      clear hr1 hG1 h0
      go_wp2_with fail
      refine HFI.out.mono ?_
      rintro _ u1 ⟨z, rfl, hz, hb1⟩
      rcases hz with ⟨rfl, h0⟩ | ⟨p, hp, rfl, hl⟩
      · exfalso
        have := HN1.out
        omega
      · obtain ⟨k1', hcell, _, _⟩ := HG1.out u1 hb1
        have hpn : p < n1 := by rw [HN1.out]; exact hp
        obtain ⟨g, rfl, _, _, e0, e1, _⟩ := hcell p hpn
        have b0 : (p : Int) < (n1 : Int) := by omega
        have b1 : (0 : Int) ≤ (p : Int) := by omega
        obtain ⟨T, hST⟩ := HS.out.head hp hl
        have HB1 := hid hb1
        by_cases hdue : (at' R' p).2 ≤ now
        · have hk1 : k < S.length := by
            have h1 : (S.drop k).length = T.length + 1 := by rw [hST, List.length_cons]
            rw [List.length_drop] at h1
            omega
          have hget : S[k]? = some (at' R' p) := by
            have : (S.drop k)[0]? = some (at' R' p) := by rw [hST]; rfl
            rwa [List.getElem?_drop, Nat.add_zero] at this
          have htk : S.take (k + 1) = S.take k ++ [at' R' p] := by rw [List.take_add_one, hget]; rfl
          have hdr : S.drop (k + 1) = T := by rw [← List.drop_drop, hST]; rfl
          have HLU : Hid (w.heap.size ≤ u1.heap.size) := Nat.le_trans HF.out.size hb1.size
          have HO1 : Hid (OwnI u1 w.heap.size (.slice ao k cap) ((S.take k).map (·.1))) := HO.out.fr (Fr.of_below hb1 []) (by simp)
          have HREST : Hid (∀ (o : Obj) v' w3, w3.ownsRow w.heap.size 3 1 v' (((S.take k).map (·.1)).length + 1) (is' ((S.take k).map (·.1)) ++ [.int .i64 (at' R' p).1]) → (u1.alloc o).grownBy w3 (Value.slice ao k cap).ownBlock →
              w3.cell? ⟨b, 1, none⟩ = some (.slice (some ⟨g, 0, none⟩) n1 c1) ∧ Calls Try.prog 39 #[.pointer (some ⟨b, 0, none⟩), .int .i64 (p : Int)] w3 fun e w' => e = .returned (.tuple #[]) ∧ ∃ go2 R2, OwnI w' w.heap.size v' ((S.take (k + 1)).map (·.1)) ∧ Rf w' b go2 lim R2 ∧ Srt R2 (S.drop (k + 1)) ∧ (∀ x ∈ go2.toList, x ∈ go.toList ∨ w.heap.size ≤ x) ∧ Fr [b] w w' ∧ (∀ x ∈ S.take (k + 1), x.2 ≤ now)) := fun o v' w3 ho3 hg3 => by
            have hown3 : OwnI w3 w.heap.size v' ((S.take (k + 1)).map (·.1)) := by
              unfold OwnI
              rw [htk, List.map_append, List.length_append]
              unfold is' at ho3 ⊢
              rw [List.map_append]
              exact ho3
            have hub := HO1.out.lt
            have hR1 := HT.out.below hb1
            have hf1 : Fr (Value.slice ao k cap).ownBlock.toList u1 w3 := (Fr.alloc _ u1 o).grown hg3 (fun j hj => .inl (by simp [hj]))
            have hR3 : Rf w3 b go' lim R' := hR1.fr hf1 (hR1.apart HO1.out)
            have hfu : Fr [b] w w3 := ((HF.out.trans (Fr.of_below hb1 [b])).trans (Fr.alloc _ _ o)).grown hg3 (fun j hj => .inr (hub j hj).1)
            have hbx : b ∉ (Value.slice ao k cap).ownBlock.toList := hR1.apart HO1.out b (by simp [fpR])
            refine ⟨?_, ?_⟩
            · obtain ⟨v3, hr3, _, _⟩ := hR3.ex
              obtain ⟨v1, hrr1, _, _⟩ := hR1.ex
              have hb3 := hf1.block b (hR1.lt b (by simp [fpR])) hbx
              have hc3 : w3.cell? ⟨b, 1, none⟩ = u1.cell? ⟨b, 1, none⟩ := by
                rw [cell_of_row _ _ _ _ _ _ (hb3.trans hrr1), cell_of_row _ _ _ _ _ _ hrr1]
              rw [hc3]; exact k1'
            · refine (without_any b go' lim R' p (at' R' p).1 w3 hR3 hp rfl).mono ?_
              rintro e w' ⟨go2, he, hR2, hg2, hf2⟩
              refine ⟨he, go2, _, hown3.fr hf2 (by have := HBL.out; simpa using this), hR2, ?_, fun x hx => .inr (Nat.le_trans hfu.size (hg2 x hx)), hfu.trans hf2, fun x hx => ?_⟩
              · rw [hdr]; exact HS.out.took HT.out.ids hST
              · rw [htk] at hx
                rcases List.mem_append.1 hx with hx | hx
                · exact HP.out x hx
                · rw [List.mem_singleton.1 hx]; exact hdue
          have HHO : Hid (u1.ownsRow w.heap.size 3 1 (.slice ao k cap) ((S.take k).map (·.1)).length (is' ((S.take k).map (·.1)))) := HO1.out
          rw [hlen] at HHO HREST
          generalize is' ((S.take k).map (·.1)) = ids at HHO HREST
          generalize (at' R' p).1 = x0 at *
          generalize (at' R' p).2 = x1 at *
          have hkk : k < 65536 := by omega
          clear hlen hcell hp hl HEND hget htk hdr hST HO HO1 HT HF HP HS HFI HG1 hb1
          go_wp2_with (at_builtin; refine wpList_append_own _ rfl _ _ 37 rfl w.heap.size 3 i0 (.int .i64 0) 1 8 Try.underlying37 HI.out hz0 hz1 hz2 rfl (by decide) _ _ _ rfl (HHO.out.alloc _) ⟨u1.heap.size, 0, none⟩ 1 1 [.int .i64 x0] rfl rfl ?c1 ?c2 ?c3 ?c4 ?c5 ?_)
          case c1 => exact cell_one_new _ _ _
          case c2 => intro y hy; simp at hy; rw [hy]; rfl
          case c3 => unfold maxLen; omega
          case c4 => omega
          case c5 => have := HLU.out; simp; omega
          intro v' w3 ho3 hg3 _
          obtain ⟨hc3, hcl⟩ := HREST.out _ v' w3 ho3 hg3
          have HTK := hid hcl
          obtain ⟨a3, c3, rfl⟩ : ∃ a3 c3, v' = .slice a3 (k + 1) c3 := by
            rcases ho3.2 with ⟨h, hn⟩ | ⟨g, cap, cur, h, _⟩
            · omega
            · exact ⟨_, _, h⟩
          clear ho3 hg3 HREST HHO e0 e1 k1 hcl
          go_wp2_with fail
          refine HTK.out.mono ?_
          rintro _ w4 ⟨rfl, go2, R2, hO4, hT4, hS4, hG4, hF4, hP4⟩
          go_wp2_with fail
          go_roundw
          case rel => exact ⟨k + 1, _, _, go2, R2, _, rfl, rfl, by omega, hO4, hT4, hS4, hG4, hF4, hP4⟩
          case measure => simp [lenOf]; omega
        · have HE := hid (HEND.out u1 hb1 (fun x hx => by rw [hST] at hx; cases hx; omega))
          generalize (at' R' p).1 = x0 at *
          generalize (at' R' p).2 = x1 at *
          have hdue' : now < x1 := by omega
          clear hlen hcell hp hl HEND hST HFI HG1 hb1
          go_wp2_with fail
          go_ret
          exact HE.out
end Go.Proofs.Ythbjfbalgejndaa
