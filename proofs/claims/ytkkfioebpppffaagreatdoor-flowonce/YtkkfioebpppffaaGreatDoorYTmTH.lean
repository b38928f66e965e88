import Derived.Test.YtkkfioebpppffaaGreatDoorYTmTG
namespace Go.Proofs.YtkkfioebpppffaaGreatDoor.Tm
open Go.ChangeShapes Go.WideShapes Go.ChangeAt Go.RowKit Go.Maps H
set_option maxHeartbeats 1000000
set_option maxRecDepth 100000

def hasS (S : List Dl) (i : Int) : Bool := S.any (fun x => x.1 == i)

theorem hasS_true {S : List Dl} {d : Dl} (h : d ∈ S) : hasS S d.1 = true := by
  unfold hasS; rw [List.any_eq_true]; exact ⟨d, h, by simp⟩
theorem hasS_false {S : List Dl} {i : Int} (h : ∀ x ∈ S, x.1 ≠ i) : hasS S i = false := by
  unfold hasS; rw [List.any_eq_false]; exact fun x hx => by simpa using h x hx

theorem info67 : (Tryz.prog.info? 115).map (fun i => (i.zero, i.size, i.bytes)) = some (some (.agg #[.int .i64 0, .int .i64 0]), 2, 16) := by kernel_rfl

theorem at_snoc (L : List Dl) : ∀ i, i < L.length + 1 → at' (L ++ [(0, 0)]) i = at' L i := fun i hi => by
  unfold at'
  rw [List.getD_eq_getElem?_getD, List.getD_eq_getElem?_getD]
  by_cases h : i < L.length
  · rw [List.getElem?_append_left h]
  · have e : L[i]? = none := List.getElem?_eq_none (by omega)
    rw [List.getElem?_append_right (by omega), show i - L.length = 0 by omega, e]
    rfl

theorem Fr.grown {F : List Nat} {a b c : World} (h : Fr F a b) {row : Option Nat} (hg : b.grownBy c row) (hr : ∀ k, row = some k → k ∈ F ∨ a.heap.size ≤ k) : Fr F a c :=
  ⟨hg.os.trans h.os, hg.tape.trans h.tape, hg.output.trans h.output, Nat.le_trans h.size hg.size, fun j hj hn => (hg.block j (Nat.lt_of_lt_of_le hj h.size) (fun e => by rcases hr j e.symm with h | h; exact hn h; omega)).trans (h.block j hj hn)⟩

theorem set_held (b bm : Nat) (g cap : Nat) (lim : Int) (S L : List Dl) (f : Int → Option Nat) (i a : Int) (k : Nat) (w : World) (hm : Mm w b bm g cap lim L f L.length) (hH : Heap L.length (at' L) f) (hR : Rep L.length (at' L) S) (h1 : 1 ≤ lim) (h2 : lim ≤ 65536) (h3 : (L.length : Int) ≤ lim) (hi : In64 i) (ha : In64 a) (hf : f i = some k) :
    Calls Tryz.prog 42 #[.pointer (some ⟨b, 0, none⟩), .int .i64 i, .int .i64 a] w fun e w' => e = .returned (.int .i64 0) ∧ Tm w' b bm (some g) lim (setS S (i, a)) ∧ Fr (fp b bm (some g)) w w' := by
  have k2 := hm.at2
  have hlk := hm.map.look hi
  rw [hf] at hlk
  simp only [Option.getD_some, Option.isSome_some] at hlk
  obtain ⟨hk1, hk2, hk3⟩ := hR.held hH hf
  have hHo := hH.hole_at hk1 (i, a) hk2.symm
  have HSE := settle_any b bm g cap k lim L f L.length (i, a) w hm hHo ⟨hi, ha⟩ (.inl (by rw [hf]; rfl))
  rw [show (f (i, a).1).isSome = true by rw [show (i, a).1 = i from rfl, hf]; rfl, if_pos rfl] at HSE
  have HSE := hid HSE
  have HEND : Hid (∀ w' M h, Settled w w' b bm g cap lim L.length L.length (upd (at' L) k (i, a)) M h → Tm w' b bm (some g) lim (setS S (i, a)) ∧ Fr (fp b bm (some g)) w w') := fun w' M h hs => by
    refine ⟨Tm.mk' (L := M) (f := h) (by rw [hs.len]; exact hs.mm) (by rw [hs.len]; exact hs.heap) (by rw [hs.len]; exact hR.moved hH.inj hk1 hk2.symm hs.mem) h1 h2 (by rw [hs.len]; exact h3), hs.fr.mono (by simp [fp])⟩
  clear hm hH hR hf hk1 hk2 hk3 hHo h3
  go_enter Tryz.func42, Tryz.ntmps42
  go_wp2_with fail
  refine HSE.out.mono ?_
  rintro _ w2 ⟨rfl, M, h, hs⟩
  go_wp2_with fail
  go_ret
  exact ⟨rfl, HEND.out _ _ _ hs⟩

/-- Set of an id that is not held. -/
theorem set_new (b bm : Nat) (ao : Option Addr) (cap n : Nat) (lim : Int) (S L : List Dl) (f : Int → Option Nat) (i a : Int) (w : World)
    (hr : w.heap[b]? = some (.cells #[.int .i64 lim, .slice ao n cap, .map (some bm)] 84 (0, 0))) (ho : w.ownsRow 0 115 2 (.slice ao n cap) n (ds L)) (hn : n = L.length) (hmp : MapF w bm f n) (hdm : ∀ x ∈ L, In64 x.1 ∧ In64 x.2)
    (hH : Heap L.length (at' L) f) (hR : Rep L.length (at' L) S) (h1 : 1 ≤ lim) (h2 : lim ≤ 65536) (hi : In64 i) (ha : In64 a) (hf : f i = none) (hroom : (n : Int) < lim) :
    Calls Tryz.prog 42 #[.pointer (some ⟨b, 0, none⟩), .int .i64 i, .int .i64 a] w fun e w' => ∃ go', e = .returned (.int .i64 0) ∧ Tm w' b bm go' lim (setS S (i, a)) ∧ (∀ x ∈ go'.toList, x ∈ (Value.slice ao n cap).ownBlock.toList ∨ w.heap.size ≤ x) ∧ Fr (fp b bm (Value.slice ao n cap).ownBlock) w w' := by
  obtain ⟨i0, hi0, hz0, hz1, hz2⟩ := info_parts info67
  have HI : Hid (Tryz.prog.info? 115 = some i0) := hi0
  have k0 : w.cell? ⟨b, 0, none⟩ = some (.int .i64 lim) := by rw [cell_of_row _ _ _ _ _ _ hr]; rfl
  have k1 : w.cell? ⟨b, 1, none⟩ = some (.slice ao n cap) := by rw [cell_of_row _ _ _ _ _ _ hr]; rfl
  have k2 : w.cell? ⟨b, 2, none⟩ = some (.map (some bm)) := by rw [cell_of_row _ _ _ _ _ _ hr]; rfl
  have hlk := hmp.look hi
  rw [hf] at hlk
  simp only [Option.getD_none, Option.isSome_none, Int.ofNat_zero] at hlk
  have hbl : b < w.heap.size := (Array.getElem?_eq_some_iff.1 hr).1
  have hml := hmp.lt
  have hne : (Value.slice ao n cap).ownBlock ≠ some b ∧ (Value.slice ao n cap).ownBlock ≠ some bm ∧ b ≠ bm := by
    obtain ⟨D, ⟨es, clock, hmm, _⟩, _⟩ := hmp
    have hbm : b ≠ bm := fun e => by rw [e, hmm] at hr; cases hr
    rcases ho.2 with ⟨e, _⟩ | ⟨g, cap', cur, e, _, hg, _⟩
    · rw [e]; exact ⟨by simp [Value.ownBlock], by simp [Value.ownBlock], hbm⟩
    · rw [e]
      refine ⟨fun e2 => ?_, fun e2 => ?_, hbm⟩
      · simp [Value.ownBlock] at e2; rw [e2, hr] at hg; cases hg
      · simp [Value.ownBlock] at e2; rw [e2, hmm] at hg; cases hg
  have hrl := ho.lt
  have HO := hid ho
  -- behind the append, the slice stored
  have HREST : Hid (∀ (o : Obj) v' w3, w3.ownsRow 0 115 2 v' (n + 1) (ds L ++ [.int .i64 0, .int .i64 0]) → ((w.alloc o).drew).grownBy w3 (Value.slice ao n cap).ownBlock → (v'.ownBlock = (Value.slice ao n cap).ownBlock ∨ v'.ownBlock = some (w.heap.size + 1)) →
      w3.heap[b]? = some (.cells #[.int .i64 lim, .slice ao n cap, .map (some bm)] 84 (0, 0)) ∧ (v' ≠ .slice none 0 0 → ∃ g' cap', v' = .slice (some ⟨g', 0, none⟩) (n + 1) cap' ∧
      Calls Tryz.prog 62 #[.pointer (some ⟨b, 0, none⟩), .int .i64 (n : Int), .agg #[.int .i64 i, .int .i64 a]] (w3.setCell ⟨b, 1, none⟩ v') fun e w' => e = .returned (.tuple #[]) ∧ ∃ go', Tm w' b bm go' lim (setS S (i, a)) ∧ (∀ x ∈ go'.toList, x ∈ (Value.slice ao n cap).ownBlock.toList ∨ w.heap.size ≤ x) ∧ Fr (fp b bm (Value.slice ao n cap).ownBlock) w w')) := fun o v' w3 ho3 hg3 hloc => by
    have hsz : (w.alloc o).drew.heap.size = w.heap.size + 1 := World.size_alloc w o
    have hfa : Fr (fp b bm (Value.slice ao n cap).ownBlock) w (w.alloc o).drew := by
      exact (Fr.alloc (fp b bm (Value.slice ao n cap).ownBlock) w o).drew
    have hfa' : Fr [] w (w.alloc o).drew := by
      exact (Fr.alloc [] w o).drew
    have hf3 : Fr (fp b bm (Value.slice ao n cap).ownBlock) w w3 := hfa.grown hg3 (fun k hk => .inl (by simp [fp, hk]))
    have hb3 : w3.heap[b]? = some (.cells #[.int .i64 lim, .slice ao n cap, .map (some bm)] 84 (0, 0)) := by
      rw [hg3.block b (by omega) (fun e => hne.1 e.symm)]
      exact (hfa'.block b hbl (by simp)).trans hr
    have hmp3 : MapF w3 bm f n := hmp.kept ((hg3.block bm (by omega) (fun e => hne.2.1 e.symm)).trans (hfa'.block bm hml (by simp)))
    refine ⟨hb3, fun hv' => ?_⟩
    have hds : ds L ++ [.int .i64 0, .int .i64 0] = ds (L ++ [(0, 0)]) := by rw [ds_append]; rfl
    rw [hds] at ho3
    rcases ho3.2 with ⟨e, _⟩ | ⟨g', cap', cur, rfl, _, hgg, hnc, hcm, hcs, ht⟩
    · exact absurd e hv'
    · refine ⟨g', cap', rfl, ?_⟩
      have hlen : (L ++ [((0 : Int), (0 : Int))]).length = n + 1 := by rw [List.length_append, hn]; rfl
      have hgb : g' ≠ b := fun e => by rw [e, hb3] at hgg; cases hgg
      have hgm : g' ≠ bm := fun e => by
        obtain ⟨D, ⟨es, clock, hmm, _⟩, _⟩ := hmp3
        rw [e, hmm] at hgg; cases hgg
      have hf4 : Fr [b] w3 (w3.setCell ⟨b, 1, none⟩ (.slice (some ⟨g', 0, none⟩) (n + 1) cap')) := (Fr.refl [b] w3).set (by simp)
      have hbl3 : b < w3.heap.size := (Array.getElem?_eq_some_iff.1 hb3).1
      have hm4 : Mm (w3.setCell ⟨b, 1, none⟩ (.slice (some ⟨g', 0, none⟩) (n + 1) cap')) b bm g' cap' lim (L ++ [(0, 0)]) f n := by
        refine ⟨?_, ?_, hmp3.kept (hf4.block bm hmp3.lt (by simpa using hne.2.2.symm)), fun x hx => ?_, by omega⟩
        · rw [hlen]; exact heap_setCell_same w3 b 1 _ 84 _ hb3
        · refine RowD.kept (w := w3) ⟨cur, hgg, by rw [hlen]; exact hnc, hcm, hcs, by rw [hlen]; exact ht⟩ (hf4.block g' (Array.getElem?_eq_some_iff.1 hgg).1 (by simpa using hgb))
        · rcases List.mem_append.1 hx with hx | hx
          · exact hdm x hx
          · rw [List.mem_singleton.1 hx]; exact ⟨⟨by decide, by decide⟩, ⟨by decide, by decide⟩⟩
      have hHo : Hole (L ++ [((0 : Int), (0 : Int))]).length (at' (L ++ [(0, 0)])) f n (i, a) := by
        rw [hlen, hn]
        exact (hH.hole_end (i, a) hf).congr (at_snoc L)
      have := settle_any b bm g' cap' n lim (L ++ [(0, 0)]) f n (i, a) _ hm4 hHo ⟨hi, ha⟩ (.inr (by omega))
      rw [show (f (i, a).1).isSome = false by rw [show (i, a).1 = i from rfl, hf]; rfl, if_neg (by simp), hlen] at this
      refine this.mono ?_
      rintro e w' ⟨rfl, M, h, hs⟩
      refine ⟨rfl, some g', Tm.mk' (L := M) (f := h) (by rw [hs.len]; exact hs.mm) (by rw [hs.len]; exact hs.heap) ?_ h1 h2 (by rw [hs.len]; omega), fun x hx => ?_, ?_⟩
      · rw [hs.len, hn]
        have hm' := hs.mem
        rw [hn] at hm'
        exact hR.came hH hf (fun x => (hm' x).trans (Mem.congr (upd_congr (at_snoc L) _ _) x))
      · simp at hx
        subst hx
        rcases hloc with h | h
        · have hgo : (Value.slice ao n cap).ownBlock = some x := h.symm
          left; rw [hgo]; simp
        · right
          have hg' : x = w.heap.size + 1 := Option.some.inj h
          omega
      · refine (hf3.trans' (hf4.mono (G := fp b bm (Value.slice ao n cap).ownBlock) (by simp [fp])) (fun x hx => .inl hx)).trans' hs.fr (fun x hx => ?_)
        simp at hx
        rcases hx with rfl | rfl
        · rcases hloc with h | h
          · have hgo : (Value.slice ao n cap).ownBlock = some x := h.symm
            left; simp [fp, hgo]
          · right
            have hg' : x = w.heap.size + 1 := Option.some.inj h
            omega
        · left; simp [fp]
  have hq : decide (lim ≤ (n : Int)) = false := by simp; omega
  have hn6 : n < 65536 := by omega
  have hBS : 0 ≤ w.heap.size := Nat.zero_le _
  have HB1 : Hid (w.frozen? ⟨b, 1, none⟩ = false) := frozen_of_row _ _ _ _ _ hr
  clear hr ho hmp hdm hH hR hf hbl hml hne hrl hi0 hn
  go_enter Tryz.func42, Tryz.ntmps42
  go_wp2
  go_region
  go_wp2_with (at_builtin; refine wpList_append_own_at _ rfl _ _ 82 rfl 0 115 i0 (.agg #[.int .i64 0, .int .i64 0]) 2 16 Tryz.underlying82 HI.out hz0 hz1 hz2 rfl (by decide) _ _ _ rfl (HO.out.alloc _).drew ⟨w.heap.size, 0, none⟩ 1 1 [.int .i64 0, .int .i64 0] rfl rfl ?c1 ?c2 ?c3 ?c4 ?c5 ?_)
  case c1 =>
    intro j u hj
    have hb := heap_alloc_new w (.cells #[.int .i64 0, .int .i64 0] 115)
    have key : ∀ j, (w.alloc (.cells #[.int .i64 0, .int .i64 0] 115)).drew.cell? ⟨w.heap.size, j, none⟩ = (#[Value.int .i64 0, Value.int .i64 0] : Array Value)[j]? := fun j => cell_of_row _ _ _ _ _ _ hb
    match j, hj with
    | 0, hj => cases hj; exact key 0
    | 1, hj => cases hj; exact key 1
  case c2 => intro u hu; simp at hu; rw [hu]; rfl
  case c3 => unfold maxLen; omega
  case c4 => omega
  case c5 => exact Nat.zero_le _
  intro v' w3 ho3 hg3 hnil hloc
  obtain ⟨hb3, hcalls⟩ := HREST.out _ v' w3 ho3 hg3 hloc
  have hv' : v' ≠ .slice none 0 0 := hnil
  obtain ⟨g', cap', rfl, hc⟩ := hcalls hv'
  have HC := hid hc
  have k3 : w3.cell? ⟨b, 1, none⟩ = some (.slice ao n cap) := by rw [cell_of_row _ _ _ _ _ _ hb3]; rfl
  have f3 : w3.frozen? ⟨b, 1, none⟩ = false := frozen_of_row _ _ _ _ _ hb3
  clear ho3 hg3 hnil hloc hb3 hcalls hv' hc HREST HO k0 k1 k2 hlk HB1
  go_wp2_with fail
  refine HC.out.mono ?_
  rintro _ w5 ⟨rfl, go', hT, g1, g2⟩
  go_wp2_with fail
  go_ret
  exact ⟨go', rfl, hT, g1, g2⟩

theorem set_full (b bm : Nat) (ao : Option Addr) (cap n : Nat) (lim : Int) (f : Int → Option Nat) (i a : Int) (w : World)
    (hr : w.heap[b]? = some (.cells #[.int .i64 lim, .slice ao n cap, .map (some bm)] 84 (0, 0))) (hmp : MapF w bm f n) (hi : In64 i) (hf : f i = none) (hroom : ¬ (n : Int) < lim) :
    Calls Tryz.prog 42 #[.pointer (some ⟨b, 0, none⟩), .int .i64 i, .int .i64 a] w fun e w' => e = .returned (.int .i64 4) ∧ Below w.heap.size w w' := by
  have k0 : w.cell? ⟨b, 0, none⟩ = some (.int .i64 lim) := by rw [cell_of_row _ _ _ _ _ _ hr]; rfl
  have k1 : w.cell? ⟨b, 1, none⟩ = some (.slice ao n cap) := by rw [cell_of_row _ _ _ _ _ _ hr]; rfl
  have k2 : w.cell? ⟨b, 2, none⟩ = some (.map (some bm)) := by rw [cell_of_row _ _ _ _ _ _ hr]; rfl
  have hlk := hmp.look hi
  rw [hf] at hlk
  simp only [Option.getD_none, Option.isSome_none, Int.ofNat_zero] at hlk
  have hq : decide (lim ≤ (n : Int)) = true := by simp; omega
  clear hr hmp hf
  go_enter Tryz.func42, Tryz.ntmps42
  go_wp2
  go_region
  go_wp2
  go_ret
  exact ⟨rfl, below_drew (Below.refl _ _)⟩

/-- Set's answer, and what is held behind it. -/
def setE (S : List Dl) (lim i : Int) : Int := if hasS S i = true ∨ (S.length : Int) < lim then 0 else 4
def setR (S : List Dl) (lim : Int) (d : Dl) : List Dl := if hasS S d.1 = true ∨ (S.length : Int) < lim then setS S d else S

theorem set_any (b bm : Nat) (go : Option Nat) (lim : Int) (S : List Dl) (i a : Int) (w : World) (hT : Tm w b bm go lim S) (hi : In64 i) (ha : In64 a) :
    Calls Tryz.prog 42 #[.pointer (some ⟨b, 0, none⟩), .int .i64 i, .int .i64 a] w fun e w' => ∃ go', e = .returned (.int .i64 (setE S lim i)) ∧ Tm w' b bm go' lim (setR S lim (i, a)) ∧ (∀ x ∈ go'.toList, x ∈ go.toList ∨ w.heap.size ≤ x) ∧ Fr (fp b bm go) w w' := by
  have h1 := hT.lo
  have h2 := hT.hi
  have h3 := hT.fits
  obtain ⟨v, L, f, hr, ho, hg, hm, hd, hH, hR⟩ := hT.ex
  have hlen := hR.len hH.inj
  obtain ⟨ao, cap, rfl⟩ : ∃ ao cap, v = .slice ao L.length cap := by
    rcases ho.2 with ⟨rfl, hn⟩ | ⟨g, cap, cur, rfl, _⟩
    · exact ⟨none, 0, by rw [hn]⟩
    · exact ⟨_, _, rfl⟩
  unfold setE setR
  cases hf : f i with
  | some k =>
    obtain ⟨hk1, hk2, hk3⟩ := hR.held hH hf
    have hhas := hasS_true hk3
    rw [hk2] at hhas
    rw [if_pos (.inl hhas), if_pos (.inl hhas)]
    rcases hT.cases with ⟨_, hS, _⟩ | ⟨g, cap', L', f', hgo, hm', hH', hR', hl'⟩
    · rw [hS] at hk3; cases hk3
    · have hf' : ∃ k', f' i = some k' := by
        obtain ⟨j, hj, ej⟩ := (hR'.mem _).2 hk3
        exact ⟨j, by rw [← hk2, ← ej]; exact hH'.place j hj⟩
      obtain ⟨k', hf'⟩ := hf'
      subst hgo
      refine (set_held b bm g cap' lim S L' f' i a k' w hm' hH' hR' h1 h2 (by omega) hi ha hf').mono ?_
      rintro e w' ⟨he, hT', hfr⟩
      exact ⟨some g, he, hT', fun x hx => .inl hx, hfr⟩
  | none =>
    have hfr := hR.free hH hf
    have hhas := hasS_false hfr
    by_cases hroom : (L.length : Int) < lim
    · rw [if_pos (.inr (by omega)), if_pos (.inr (by omega))]
      have := set_new b bm ao cap L.length lim S L f i a w hr ho rfl hm hd hH hR h1 h2 hi ha hf hroom
      rw [hg] at this
      exact this
    · have hno : ¬ (hasS S i = true ∨ (S.length : Int) < lim) := by rw [hhas]; simp; omega
      rw [if_neg hno, if_neg hno]
      refine (set_full b bm ao cap L.length lim f i a w hr hm hi hf hroom).mono ?_
      rintro e w' ⟨he, hb⟩
      exact ⟨go, he, hT.below hb, fun x hx => .inl hx, Fr.of_below hb _⟩
end Go.Proofs.YtkkfioebpppffaaGreatDoor.Tm
