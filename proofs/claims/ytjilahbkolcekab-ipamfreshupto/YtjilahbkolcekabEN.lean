/-
  ipam: List: the walk.
-/
import Derived.Test.YtjilahbkolcekabEL
namespace Go.Proofs.Ytjilahbkolcekab
open Go.ChangeShapes Go.WideShapes Go.ChangeAt Go.RowKit Go.Maps Tri
open Go.Shelf Go.Lib
set_option maxHeartbeats 4000000
set_option maxRecDepth 100000

theorem own_of_sort {w : World} {B g n cap m : Nat} {L : List Pod} {d : Array Pod} {os : Array Obj} (h : OwnD w B (.slice (some ⟨g, 0, none⟩) n cap) L) (hd : d.size = L.length) : OwnD (sortWorldK pdA 2 w g 0 m d os) B (.slice (some ⟨g, 0, none⟩) n cap) d.toList := by
  rcases h.2 with ⟨h0, _⟩ | ⟨g', cap', cur, h0, hbb, hg, h1, h2, h3, h4⟩
  · cases h0
  · simp only [Value.slice.injEq, Option.some.injEq, Addr.mk.injEq, and_true] at h0
    obtain ⟨rfl, rfl, rfl⟩ := h0
    have hl : d.toList.length = L.length := by simpa using hd
    have hlt := (Array.getElem?_eq_some_iff.1 hg).1
    have hb : (sortWorldK pdA 2 w g 0 m d os).heap[g]? = some (.cells (Sort.putCells id 0 (Sort.flatK pdA 2 d) cur) 80 (0, 0)) := by
      show ((w.heap.modify g _) ++ os)[g]? = _
      rw [Array.getElem?_append_left (by simpa using hlt), Array.getElem?_modify, if_pos rfl, hg]
      rfl
    unfold OwnD
    rw [hl]
    refine ⟨by rw [pd_len, hl], .inr ⟨g, cap, _, rfl, hbb, hb, h1, h2, by simpa [Sort.putCells] using h3, ?_⟩⟩
    apply List.ext_getElem?
    intro t
    rw [List.getElem?_take]
    by_cases ht : t < L.length * 2
    · rw [if_pos ht, pd_get d.toList t (by omega)]
      have ht2 : t < cur.size := by omega
      have e1 : t < (Sort.flatK pdA 2 d).size := by rw [Sort.size_flatK]; omega
      simp only [Sort.putCells, Array.getElem?_toList, Array.getElem?_mapIdx, Array.getElem?_eq_getElem ht2, Option.map_some, Nat.zero_le, Nat.zero_add, Nat.sub_zero, true_and, e1, if_true, id]
      rw [Sort.get_flatK _ _ _ _ (by omega)]
    · rw [if_neg ht, List.getElem?_eq_none (by rw [pd_len, hl]; omega)]

theorem srt_of_sorted {L : List Pod} {d : Array Pod} {S : List Pod} (hS : (S.map Pod.ad).Nodup) (hL : L.Perm S) (hp : Sort.PermIn 0 L.toArray.size L.toArray d) (hs : Sort.SortedIn (ltOf fun x y : Pod => cmpA x.ad y.ad) 0 L.toArray.size d) : Srt d.toList S := by
  obtain ⟨h1, -, h2⟩ := hp
  have e1 : d.extract 0 L.toArray.size = d := by rw [← h1]; simp
  have e2 : (L.toArray.extract 0 L.toArray.size).toList = L := by simp
  rw [e1, e2] at h2
  have h3 : d.toList.Perm S := h2.trans hL
  have hn : (d.toList.map Pod.ad).Nodup := ((h3.map Pod.ad).nodup_iff).2 hS
  refine ⟨h3, ?_⟩
  rw [List.pairwise_iff_getElem]
  intro i j hi hj hij
  have hsz : d.size = L.toArray.size := h1
  have h5 := hs i j (Nat.zero_le _) hij (by rw [← hsz]; simpa using hj)
  have hi' : i < d.size := by simpa using hi
  have hj' : j < d.size := by simpa using hj
  rw [ltA] at h5
  simp only [getElem!_pos, hi', hj', decide_eq_false_iff_not, Array.getElem_toList] at h5 ⊢
  have h6 : d[i].ad ≠ d[j].ad := fun e => by
    have := (List.pairwise_iff_getElem.1 hn) i j (by simpa using hi') (by simpa using hj') hij
    apply this
    simpa using e
  omega

theorem wpList_make_run {P : Program} (w : World) {ops : Array Oper} {rest : List Oper} {o : Oper} {a : Act} {Q : Exit → Act → World → Prop} (hgd : o.guard = none) (t : TypeId) (x y : Operand) (ho : o.op = .makeSlice t x y) (vx vy : Value) (hx : a.eval x = vx) (hy : a.eval y = vy) {v : Value} {w' : World}
    (hr : (Instr.makeSlice t vx vy).run P w = .ok v w') (h : wpList P ops Q rest (a.put o.dst v) w') : wpList P ops Q (o :: rest) a w :=
  wpList_plain hgd fun _ hK => by
    unfold Oper.wp
    simp [execOp, ho, hx, hy, hr, Result.andThen]
    exact hK _ _ h

theorem Met.len {s : Ist} {D : DataW Unit} {left : Lit → Bool} {L : List Pod} (h : Met s D left L) : L.length ≤ s.S.length := by
  have := nod_le h.nd (B := s.S.map Pod.ad) fun x hx => by
    obtain ⟨p, hp, rfl⟩ := List.mem_map.1 hx
    exact List.mem_map_of_mem (h.mem p hp).1
  simpa using this

theorem invK32 : ∀ key kl, keyOf Try.prog 23 key = some kl → ∃ x, key = Value.int .u32 x := fun key kl hkey => by
  obtain ⟨x, rfl, _⟩ := Maps.keyOf_int_inv uAd hkey
  exact ⟨x, rfl⟩
theorem invPod : ∀ v y, podR v = some y → ∃ c : ByteArray × Int, v = (fun c : ByteArray × Int => Value.agg #[.string c.1, .int .u32 c.2]) c := fun v y hv => by
  obtain ⟨c, rfl, _⟩ := podR_shape hv
  exact ⟨c, rfl⟩

theorem own_some {w : World} {B : Nat} {v : Value} {L : List Pod} {p : Pod} (h : OwnD w B v (L ++ [p])) : ∃ g n cap, v = .slice (some ⟨g, 0, none⟩) n cap ∧ n = (L ++ [p]).length := by
  rcases h.2 with ⟨_, h0⟩ | ⟨g, cap, cur, rfl, -⟩
  · rw [List.length_append] at h0; simp at h0
  · exact ⟨g, _, cap, rfl, rfl⟩

theorem ranges_ne {w : World} {r b n cnt B : Nat} {D : DataW Unit} {left : Lit → Bool} {v : Value} {L : List Pod} (h : w.ranges Try.prog 23 podR b r n D left cnt) (ho : OwnD w B v L) : v.ownBlock ≠ some r ∧ v.ownBlock ≠ some b := by
  obtain ⟨es, clock, since, seen, c0, h1, -, -, -, h2, -⟩ := h
  refine ⟨fun e => ?_, fun e => ?_⟩
  · obtain ⟨cs, h3⟩ := ho.kind e
    rw [h2] at h3
    cases h3
  · obtain ⟨cs, h3⟩ := ho.kind e
    rw [h1] at h3
    cases h3

theorem list_any (w : World) (pb bn ba : Nat) (s : Ist) (h : IpAt w pb bn ba s) :
    Calls Try.prog 20 #[.pointer (some ⟨pb, 0, none⟩)] w fun e w' => ∃ v L, e = .returned v ∧ OwnD w' w.heap.size v L ∧ Srt L s.S ∧ Below w.heap.size w w' := by
  obtain ⟨-, -, -, -, c4, -⟩ := h.cells
  obtain ⟨i0, hi0, hz0, hz1, hz2⟩ := infoPd_at
  have HLE : Hid (s.S.length ≤ 1024) := h.ok.le
  have HI := hid h
  have HLN := hid (h.ma.len)
  obtain ⟨c, HC⟩ : ∃ c, Hid (c = s.S.length) := ⟨_, rfl⟩
  rw [← HC.out] at HLN
  have hc : c ≤ 1024 := by rw [HC.out]; exact HLE.out
  obtain ⟨w1, hmk, ho1, hg1⟩ := run_make_own (P := Try.prog) w w.heap.size 49 80 i0 _ 2 uPs hi0 hz0 hz1 .i64 .i64 c (by rw [hz2]; omega) (by unfold maxLen; omega) (Nat.le_refl _)
  have HMK := hid hmk
  have hb1 : Below w.heap.size w w1 := ⟨hg1.os, hg1.tape, hg1.output, hg1.size, fun k hk => hg1.block k hk (by simp)⟩
  have HB1 := hid hb1
  have HI1 := hid (h.below hb1)
  obtain ⟨-, -, -, -, c41, -⟩ := HI1.out.cells
  obtain ⟨D, hD1, hD2, hD3⟩ := HI1.out.ma
  have HD3 := hid hD3
  have HD2 := hid hD2
  have HO1 := hid ho1
  have HBA : Hid (ba < w.heap.size) := h.lt.2.2
  clear h hi0 hmk ho1 hg1 hb1 hD3 hD2
  go_enter Try.func20, Try.ntmps20
  go_upto_region 2 with (first | (at_len; refine wpList_len_run _ rfl _ _ rfl _ rfl (HLN.out _) ?_) | (refine wpList_make_run _ rfl _ _ _ rfl _ _ rfl rfl HMK.out ?_))
  go_wp2_with (first | (at_range; refine wpList_range_own _ rfl _ _ rfl 23 80 lawA uA podR ba _ D rfl hD1 ?_; intro w2 hrg0 hg0 hs0) | fail)
  go_frame
  obtain ⟨r, HRR⟩ : ∃ r, Hid (r = w1.heap.size) := ⟨_, rfl⟩
  have HR1 : Hid (w.heap.size + 1 ≤ r) := by
    have := (World.ownsRow.lt HO1.out w.heap.size rfl).2
    unfold Hid; rw [HRR.out]; omega
  rw [← HRR.out] at hrg0 ⊢
  have HRG0 := hid hrg0
  have HB2 : Hid (Below w.heap.size w w2) := HB1.out.trans ⟨hg0.os, hg0.tape, hg0.output, by omega, fun k hk => hg0.block k (by have := HB1.out.size; omega) (by simp)⟩
  have HO2 : Hid (OwnD w2 w.heap.size (.slice (some ⟨w.heap.size, 0, none⟩) 0 c) []) := World.ownsRow.kept (row := none) HO1.out hg0 (.inr (by simp [Value.ownBlock]))
  clear hrg0 hg0 hs0 hD1
  go_loopw [3] (fun l wr => ∃ (left : Lit → Bool) (cnt : Nat) (L : List Pod) (g n cap : Nat), l = .slice (some ⟨g, 0, none⟩) n cap ∧ Hid (n = L.length) ∧ Hid (wr.ranges Try.prog 23 podR ba r s.S.length D left cnt) ∧ Hid (OwnD wr w.heap.size (.slice (some ⟨g, 0, none⟩) n cap) L) ∧ Hid (Below w.heap.size w wr) ∧ Hid (Met s D left L)) (fun _ wr => wr.rangeLeft ba r)
  case atStart => exact ⟨_, _, [], _, _, _, rfl, rfl, HRG0, HO2, HB2, Met.start HI.out.ok HD3.out⟩
  case round =>
    obtain ⟨left, cnt, L, g, n, cap, rfl, HN, HRG, HO, HB, HM⟩ := hrel
    go_wp2_with (first | (at_next; refine wpList_next_ranges _ rfl _ rfl 23 lawA podR (Value.int .u32) (fun c : ByteArray × Int => .agg #[.string c.1, .int .u32 c.2]) invK32 invPod ba r _ D left cnt rfl HRG.out ?_ ?_) | fail)
    · intro hc0 hl0
      have HP := hid (HM.out.end HI.out.ok hl0)
      have hlt := World.ownsRow.lt HO.out g rfl
      have HGB : Hid (w.heap.size ≤ g) := hlt.1
      have eg : ∀ args w, (callFunc 43 args).run Try.prog w = .ok (.enter 43 args) w := enters_of Try.func43 (by kernel_rfl) rfl
      have hlen : L.length ≤ 1024 := Nat.le_trans HM.out.len HLE.out
      have hcon := AnyQ.slices_SortFunc Try.sortP 2 Try.isAgg80 Try.sizeOf80 pdA (fun _ => rfl) (fun x v hv => by simp [pdA] at hv; rcases hv with rfl | rfl <;> rfl) (fun x y => cmpA x.ad y.ad) swoA 43 #[] g 0 cap L.toArray wr eg (cmpLays_any g 0 L.toArray.size wr) (holds_of_owns HO.out) hlt.2 (by simp; omega)
      change Calls Try.prog 42 _ _ _ at hcon
      have hn : L.toArray.size = n := by simp [HN.out]
      rw [hn] at hcon
      have HCN := hid hcon
      have HNN := hid hn
      clear hcon eg hlt hlen hn hc0 hl0 HRG
      go_wp2_with fail
      refine HCN.out.mono ?_
      rintro e w3 ⟨rfl, d', m, os, hp, hsd, rfl⟩
      have HPD := hid (And.intro hp hsd)
      clear hp hsd HCN
      go_wp2_with fail
      go_ret
      obtain ⟨hp, hsd⟩ := HPD.out
      rw [← HNN.out] at hp hsd
      exact ⟨_, d'.toList, rfl, own_of_sort HO.out (by have := hp.1; simpa using this), srt_of_sorted HI.out.ok.an HP.out hp hsd, sortWorld_below HB.out HGB.out HB.out.size⟩
    · intro x cn ca kl yd yp w3 cnt1 hkey hlx hy hat hrg1 hlt hg1 hs1 hen
      have hen2 : (Instr.entry (.pointer (some ⟨r, 0, none⟩))).run Try.prog w3 = .ok (.tuple #[.int .u32 x, .agg #[.string cn, .int .u32 ca]]) w3 := hen
      obtain ⟨p, hp, e1, e2, e3⟩ := HM.out.pod HD3.out (c := (cn, ca)) (y := (yd, yp)) hkey hlx hy hat
      simp only at e1 e2
      have HNE := hid (ranges_ne HRG.out HO.out)
      have HO3 : OwnD w3 w.heap.size (.slice (some ⟨g, 0, none⟩) n cap) L := HO.out.keeps (S := fun k => k = r) (Keeps.grown hg1 fun k e => by cases e; rfl) fun k e1 e2 => HNE.out.1 (by rw [e1, e2])
      have hb3 : Below w.heap.size w w3 := HB.out.trans ((Keeps.grown (S := fun k => k = r) hg1 fun k e => by cases e; rfl).below HB.out.size fun k e => by have := HR1.out; omega)
      obtain ⟨w4, HW4⟩ : ∃ w4, Hid (w4 = (w3.alloc (.cells #[.string cn, .int .u32 ca] 80)).alloc (.cells #[.string cn, .int .u32 ca] 80)) := ⟨_, rfl⟩
      have hb34 : Below w3.heap.size w3 w4 := by rw [HW4.out]; exact ((Below.refl _ _).alloc (Nat.le_refl _) _).alloc (by simp) _
      have r4 : w4.heap[w3.heap.size + 1]? = some (.cells #[.string cn, .int .u32 ca] 80 (0, 0)) := by
        have := heap_alloc_new (w3.alloc (.cells #[.string cn, .int .u32 ca] 80)) (.cells #[.string cn, .int .u32 ca] 80)
        rw [World.size_alloc] at this
        rw [HW4.out]; exact this
      have hlen : L.length ≤ 1024 := Nat.le_trans HM.out.len HLE.out
      obtain ⟨v', w5, hap, ho5, hg5, -⟩ := append_pod w4 49 w.heap.size (.slice (some ⟨g, 0, none⟩) n cap) L p (w3.heap.size + 1) (HO3.below hb34) (by rw [cell_of_row _ _ _ _ _ _ r4, ← e1]; rfl) (by rw [cell_of_row _ _ _ _ _ _ r4, ← e2]; rfl) (Nat.le_trans hb3.size hb34.size) (by omega)
      obtain ⟨g', n', cap', rfl, hn'⟩ := own_some ho5
      have hrg4 : w4.ranges Try.prog 23 podR ba r s.S.length D (fun z => left z && !z.sameKey kl) cnt1 := by rw [HW4.out]; exact (hrg1.alloc _).alloc _
      have hrg5 := hrg4.kept hg5 (Ne.symm HNE.out.2) (Ne.symm HNE.out.1)
      have HRG5 := hid hrg5
      have HO5 := hid ho5
      have HN5 := hid hn'
      have HB5 : Hid (Below w.heap.size w w5) := (hb3.trans (hb34.mono hb3.size)).trans ((Keeps.grown (S := fun k => k = g) hg5 fun k e => by simp [Value.ownBlock] at e; exact e.symm).below (Nat.le_trans hb3.size hb34.size) fun k e => by have := (World.ownsRow.lt HO.out g rfl).1; omega)
      have HM5 : Hid (Met s D (fun z => left z && !z.sameKey kl) (L ++ [p])) := by
        have := HM.out.step HI.out.ok hp (by rw [← e3]; exact hlx)
        rw [← e3] at this
        exact this
      have HAP := hid hap
      have HLT := hid hlt
      clear hkey hlx hy hat hrg1 hg1 hs1 hen hp e1 e2 e3 HO3 hb3 hb34 r4 hlen hap ho5 hg5 hn' hrg4 hrg5 hlt
      go_wp2_with (first | (at_builtin; rw [← HW4.out]; refine wpList_append_run _ rfl _ _ 49 49 rfl _ _ rfl rfl HAP.out ?_) | fail)
      go_roundw
      case rel => exact ⟨_, _, _, _, _, _, rfl, HN5, HRG5, HO5, HB5, HM5⟩
      case measure =>
        have h1 := HRG5.out.left_eq
        have h2 := HRG.out.left_eq
        have h3 := HLT.out
        simp only [h1, h2]
        exact h3
end Go.Proofs.Ytjilahbkolcekab
