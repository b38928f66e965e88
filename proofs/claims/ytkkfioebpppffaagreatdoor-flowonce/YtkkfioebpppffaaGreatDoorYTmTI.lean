import Derived.Test.YtkkfioebpppffaaGreatDoorYTmTH
namespace Go.Proofs.YtkkfioebpppffaaGreatDoor.Tm
open Go.ChangeShapes Go.WideShapes Go.ChangeAt Go.RowKit Go.Maps H
set_option maxHeartbeats 1000000
set_option maxRecDepth 100000

def is' (L : List Int) : List Value := L.map fun (x : Int) => Value.int .i64 x
/-- A list of numbers of the call's own. -/
def OwnI (w : World) (base : Nat) (v : Value) (L : List Int) : Prop := w.ownsRow base 3 1 v L.length (is' L)

theorem info3 : (Tryz.prog.info? 3).map (fun i => (i.zero, i.size, i.bytes)) = some (some (.int .i64 0), 1, 8) := by kernel_rfl

theorem ownI_nil (w : World) (base : Nat) : OwnI w base (.slice none 0 0) [] := World.ownsRow_nil _ _ _ _

theorem OwnI.sees {w : World} {base : Nat} {v : Value} {L : List Int} (h : OwnI w base v L) (hb : ∀ x ∈ L, In64 x) : SeesI w v L := by
  rcases h.2 with ⟨rfl, hn⟩ | ⟨g, cap, cur, rfl, _, hg, hnc, hcm, hcs, ht⟩
  · have : L = [] := List.eq_nil_of_length_eq_zero hn
    subst this
    exact ⟨none, 0, rfl, by simp, by unfold maxLen; omega, fun j h => absurd h (by simp)⟩
  · refine ⟨some ⟨g, 0, none⟩, cap, rfl, hnc, hcm, fun j hj => ⟨g, 0, rfl, (Array.getElem?_eq_some_iff.1 hg).1, ?_, hb _ (List.getElem_mem hj)⟩⟩
    rw [Nat.zero_add, cell_of_row _ _ _ _ _ _ hg]
    have h1 : (is' L)[j]? = some (.int .i64 L[j]) := by unfold is'; rw [List.getElem?_map, List.getElem?_eq_getElem hj]; rfl
    rw [← ht, Nat.mul_one, List.getElem?_take_of_lt hj, Array.getElem?_toList] at h1
    exact h1

theorem OwnI.fr {w w' : World} {F : List Nat} {base : Nat} {v : Value} {L : List Int} (h : OwnI w base v L) (hf : Fr F w w') (hF : ∀ x ∈ F, x < base) : OwnI w' base v L := by
  refine ⟨h.1, ?_⟩
  rcases h.2 with hn | ⟨g, cap, cur, rfl, hb, hg, rest⟩
  · exact .inl hn
  · exact .inr ⟨g, cap, cur, rfl, hb, (hf.block g (Array.getElem?_eq_some_iff.1 hg).1 (fun hm => by have := hF g hm; omega)).trans hg, rest⟩

/-- What is due, and what is left. -/
def dueT (S : List Dl) (now : Int) : List Dl := S.takeWhile (fun x => decide (x.2 ≤ now))
def dueR (S : List Dl) (now : Int) : List Dl := S.dropWhile (fun x => decide (x.2 ≤ now))

theorem due_at {S : List Dl} {now : Int} {k : Nat} (h1 : ∀ x ∈ S.take k, x.2 ≤ now) (h2 : ∀ x, (S.drop k).head? = some x → ¬ x.2 ≤ now) : dueT S now = S.take k ∧ dueR S now = S.drop k := by
  unfold dueT dueR
  have e : S = S.take k ++ S.drop k := (List.take_append_drop k S).symm
  generalize S.take k = A at *
  generalize S.drop k = B at *
  subst e
  have hB : B.takeWhile (fun x => decide (x.2 ≤ now)) = [] ∧ B.dropWhile (fun x => decide (x.2 ≤ now)) = B := by
    cases B with
    | nil => simp
    | cons y B =>
      have := h2 y rfl
      simp [this]
  constructor
  · rw [List.takeWhile_append_of_pos (fun x hx => by simpa using h1 x hx), hB.1, List.append_nil]
  · rw [List.dropWhile_append_of_pos (fun x hx => by simpa using h1 x hx), hB.2]

def lenOf : Value → Nat
  | .slice _ n _ => n
  | _ => 0

theorem due_any (b bm : Nat) (go : Option Nat) (lim : Int) (S : List Dl) (now : Int) (w : World) (hT : Tm w b bm go lim S) (_hn : In64 now) :
    Calls Tryz.prog 27 #[.pointer (some ⟨b, 0, none⟩), .int .i64 now] w fun e w' => ∃ v, e = .returned v ∧ OwnI w' w.heap.size v ((dueT S now).map (·.1)) ∧ Tm w' b bm go lim (dueR S now) ∧ Fr (fp b bm go) w w' := by
  obtain ⟨i0, hi0, hz0, hz1, hz2⟩ := info_parts info3
  have HI : Hid (Tryz.prog.info? 3 = some i0) := hi0
  have HLT : Hid (∀ x ∈ fp b bm go, x < w.heap.size) := hT.lt
  have hn6 : S.length ≤ 65536 := by have := hT.fits; have := hT.hi; omega
  have HT := hid hT
  clear hi0 hT
  go_enter Tryz.func27, Tryz.ntmps27
  go_wp2_with fail
  go_loopw [5] (fun v wv => ∃ (k : Nat) (ao : Option Addr) (cap : Nat) (wr : World), v = .slice ao k cap ∧ wr = wv ∧ k ≤ S.length ∧ Hid (OwnI wr w.heap.size (.slice ao k cap) ((S.take k).map (·.1))) ∧ Hid (Tm wr b bm go lim (S.drop k)) ∧ Hid (Fr (fp b bm go) w wr) ∧ Hid (∀ x ∈ S.take k, x.2 ≤ now)) (fun v _ => S.length - lenOf v)
  case atStart => exact ⟨0, none, 0, _, rfl, rfl, by omega, ownI_nil _ _, HT, Fr.refl _ _, by simp [Hid]⟩
  case round =>
    clear HT
    obtain ⟨k, ao, cap, u, rfl, rfl, hk, HO, HT, HF, HP⟩ := hrel
    have hlen : ((S.take k).map (·.1)).length = k := by rw [List.length_map, List.length_take]; omega
    have HEND : Hid ((∀ x, (S.drop k).head? = some x → ¬ x.2 ≤ now) → OwnI u w.heap.size (.slice ao k cap) ((dueT S now).map (·.1)) ∧ Tm u b bm go lim (dueR S now) ∧ Fr (fp b bm go) w u) := fun h2 => by
      obtain ⟨e1, e2⟩ := due_at HP.out h2
      rw [e1, e2]
      exact ⟨HO.out, HT.out, HF.out⟩
    rcases HT.out.cases with ⟨hgo, hS, f, hr, hm, _⟩ | ⟨g, cap', L, f, hgo, hm, hH, hR, hl⟩
    · have k1 : u.cell? ⟨b, 1, none⟩ = some (.slice none 0 0) := by rw [cell_of_row _ _ _ _ _ _ hr]; rfl
      have HE := hid (HEND.out (fun x hx => by rw [hS] at hx; cases hx))
      clear hgo hS hr hm HEND hlen
      go_wp2_with fail
      go_ret
      exact ⟨_, rfl, HE.out⟩
    · have k1 := hm.at1
      by_cases h0 : L.length = 0
      · rw [h0] at k1
        have hS : S.drop k = [] := List.eq_nil_of_length_eq_zero (by omega)
        have HE := hid (HEND.out (fun x hx => by rw [hS] at hx; cases hx))
        clear hgo hS hm HEND hlen hH hR hl h0
        go_wp2_with fail
        go_ret
        exact ⟨_, rfl, HE.out⟩
      · obtain ⟨T, hS⟩ := hR.head hH (by omega)
        obtain ⟨c0, c1⟩ := hm.own.cell 0 (by omega)
        rw [Nat.zero_mul] at c0 c1
        rw [Nat.zero_add] at c1
        have hpos : 0 < L.length := by omega
        have hL6 := hm.room.1
        by_cases hdue : (at' L 0).2 ≤ now
        · have hk1 : k < S.length := by
            have h1 : (S.drop k).length = T.length + 1 := by rw [hS, List.length_cons]
            rw [List.length_drop] at h1
            omega
          have hget : S[k]? = some (at' L 0) := by
            have : (S.drop k)[0]? = some (at' L 0) := by rw [hS]; rfl
            rwa [List.getElem?_drop, Nat.add_zero] at this
          have htk : S.take (k + 1) = S.take k ++ [at' L 0] := by rw [List.take_add_one, hget]; rfl
          have hdr : S.drop (k + 1) = T := by rw [← List.drop_drop, hS]; rfl
          have hids := HT.out.ids
          rw [hS] at hids
          have hsrt := HT.out.sorted
          rw [hS] at hsrt
          have hdh := drp_head hsrt hids
          have HLU : Hid (w.heap.size ≤ u.heap.size) := HF.out.size
          have hfpg : go = some g := hgo
          -- behind the append
          have HREST : Hid (∀ (o : Obj) v' w3, w3.ownsRow w.heap.size 3 1 v' (((S.take k).map (·.1)).length + 1) (is' ((S.take k).map (·.1)) ++ [.int .i64 (at' L 0).1]) → (u.alloc o).grownBy w3 (Value.slice ao k cap).ownBlock →
              Calls Tryz.prog 45 #[.pointer (some ⟨b, 0, none⟩), .int .i64 0] w3 fun e w' => e = .returned (.tuple #[]) ∧ OwnI w' w.heap.size v' ((S.take (k + 1)).map (·.1)) ∧ Tm w' b bm go lim (S.drop (k + 1)) ∧ Fr (fp b bm go) w w' ∧ (∀ x ∈ S.take (k + 1), x.2 ≤ now)) := fun o v' w3 ho3 hg3 => by
            have hown3 : OwnI w3 w.heap.size v' ((S.take (k + 1)).map (·.1)) := by
              unfold OwnI
              rw [htk, List.map_append, List.length_append]
              unfold is' at ho3 ⊢
              rw [List.map_append]
              exact ho3
            have hub := HO.out.lt
            have hfu : Fr (fp b bm go) w w3 := ((HF.out.trans (Fr.alloc _ _ _)).grown hg3 (fun j hj => .inr (hub j hj).1))
            have hfu' : Fr [] u (u.alloc o) := Fr.alloc _ _ _
            have hmm3 : Mm w3 b bm g cap' lim L f L.length := by
              have hlu := hm.lt
              have hfpl := HLT.out
              have hb : ∀ x ∈ fp b bm go, w3.heap[x]? = u.heap[x]? := fun x hx => by
                have hxl := hfpl x hx
                have hxu : x < u.heap.size := by have := HLU.out; omega
                rw [hg3.block x (by rw [World.size_alloc]; omega) (fun e => by have := (hub x e.symm).1; omega)]
                exact hfu'.block x hxu (by simp)
              exact hm.kept (hb b (by simp [fp])) (hb g (by simp [fp, hfpg])) (hb bm (by simp [fp]))
            refine (take_any b bm g cap' 0 lim L f w3 hmm3 hH hpos).mono ?_
            rintro e w' ⟨he, M, h, ht⟩
            have hF3 : Fr (fp b bm go) w3 w' := ht.fr.mono (by simp [fp, hfpg])
            refine ⟨he, hown3.fr hF3 HLT.out, ?_, hfu.trans hF3, fun x hx => ?_⟩
            · have hl' := ht.len
              have hrp := ht.rep _ hR
              rw [hS, hdh] at hrp
              rw [hdr, hfpg]
              exact Tm.mk' ht.mm ht.heap hrp HT.out.lo HT.out.hi (by have := HT.out.fits; omega)
            · rw [htk] at hx
              rcases List.mem_append.1 hx with hx | hx
              · exact HP.out x hx
              · rw [List.mem_singleton.1 hx]; exact hdue
          have HHO : Hid (u.ownsRow w.heap.size 3 1 (.slice ao k cap) ((S.take k).map (·.1)).length (is' ((S.take k).map (·.1)))) := HO.out
          rw [hlen] at HHO HREST
          generalize is' ((S.take k).map (·.1)) = ids at HHO HREST
          generalize (at' L 0).1 = x0 at *
          generalize (at' L 0).2 = x1 at *
          have hkk : k < 65536 := by omega
          clear hgo hS hm hlen hH hR hl h0 HEND hget htk hdr hids hsrt hdh hfpg HO HT HF HP
          generalize L.length = n at *
          go_wp2_with (at_builtin; refine wpList_append_own _ rfl _ _ 85 rfl w.heap.size 3 i0 (.int .i64 0) 1 8 Tryz.underlying85 HI.out hz0 hz1 hz2 rfl (by decide) _ _ _ rfl (HHO.out.alloc _) ⟨u.heap.size, 0, none⟩ 1 1 [.int .i64 x0] rfl rfl ?c1 ?c2 ?c3 ?c4 ?c5 ?_)
          case c1 => exact cell_one_new _ _ _
          case c2 => intro y hy; simp at hy; rw [hy]; rfl
          case c3 => unfold maxLen; omega
          case c4 => omega
          case c5 => have := HLU.out; simp; omega
          intro v' w3 ho3 hg3 _
          have HTK := hid (HREST.out _ v' w3 ho3 hg3)
          obtain ⟨a3, c3, rfl⟩ : ∃ a3 c3, v' = .slice a3 (k + 1) c3 := by
            rcases ho3.2 with ⟨h, hn⟩ | ⟨g, cap, cur, h, _⟩
            · omega
            · exact ⟨_, _, h⟩
          clear ho3 hg3 HREST HHO c0 c1 k1
          go_wp2_with fail
          refine HTK.out.mono ?_
          rintro _ w4 ⟨rfl, hO4, hT4, hF4, hP4⟩
          go_wp2_with fail
          go_roundw
          case rel => exact ⟨k + 1, _, _, _, rfl, rfl, by omega, hO4, hT4, hF4, hP4⟩
          case measure => simp [lenOf]; omega
        · have HE := hid (HEND.out (fun x hx => by rw [hS] at hx; cases hx; exact hdue))
          generalize (at' L 0).1 = x0 at *
          generalize (at' L 0).2 = x1 at *
          have hdue' : now < x1 := by omega
          clear hgo hS hm hlen hH hR hl h0 HEND
          generalize L.length = n at *
          go_wp2_with fail
          go_ret
          exact ⟨_, rfl, HE.out⟩
end Go.Proofs.YtkkfioebpppffaaGreatDoor.Tm
