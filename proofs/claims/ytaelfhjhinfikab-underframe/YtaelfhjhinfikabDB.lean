/-
  A list of packets: append, deletion, a packet or a byte written, make.
-/
import Derived.Test.YtaelfhjhinfikabDA
namespace Go.Proofs.Ytaelfhjhinfikab
open Go.ChangeShapes Go.WideShapes Go.ChangeAt Go.RowKit Me
set_option maxHeartbeats 1000000
set_option maxRecDepth 100000

theorem uS : Try.prog.underlying 33 = some (.slice 41) := by kernel_rfl
theorem ueS : Try.prog.underlying 33 = some (.slice (Try.prog.elem 33)) := by kernel_rfl
theorem szeS (u : World) : (sizeOf (Try.prog.elem 33)).run Try.prog u = .ok 2 u := by kernel_rfl
theorem infoS : (Try.prog.info? 41).map (fun i => (i.zero, i.size, i.bytes)) = some (some (.agg #[.int .u32 0, .slice none 0 0]), 2, 32) := by kernel_rfl

theorem Me.Keeps.mem {S : Nat → Prop} {w w' : World} {k : Nat} {o : Obj} (h : Keeps S w w') (hk : w.heap[k]? = some o) (hn : ¬ S k) : w'.heap[k]? = some o := (h.block k (Array.getElem?_eq_some_iff.1 hk).1 hn).trans hk

/-- A packet is laid behind the list. -/
theorem append_en (w : World) (ty : TypeId) (v : Value) (E : List En) (e : En) (b : Nat) (h : Fl w v E) (hc0 : w.cell? ⟨b, 0, none⟩ = some (.int .u32 (e.ad : Int))) (hc1 : w.cell? ⟨b, 1, none⟩ = some e.u)
    (ho : OwnB w 0 e.u e.bs) (hok : e.ad < 4294967296 ∧ e.bs.length ≤ 65535 ∧ ∀ x ∈ e.bs, x < 256) (hne : ∀ x ∈ E, ∀ k, x.u.ownBlock = some k → e.u.ownBlock ≠ some k) (hbig : E.length + 1 ≤ 4398046511104) :
    ∃ v' w', (Builtin.append_ #[33, 33] ty #[v, .slice (some ⟨b, 0, none⟩) 1 1]).run Try.prog w = .ok v' w' ∧ Fl w' v' (E ++ [e]) ∧ Keeps (fun k => v.ownBlock = some k) w w' ∧ NwB v v' w.heap.size := by
  obtain ⟨i0, hi0, hz0, hz1, hz2⟩ := info_parts infoS
  obtain ⟨v', w', hr, hrow, hg, hnw, -, -⟩ := append_gen (P := Try.prog) w 0 33 ty 41 i0 _ 2 32 uS hi0 hz0 hz1 hz2 rfl (by decide) (by decide) v E.length (ec E) h.row b 1 1 (ec [e]) (by rw [ec_len]; rfl) (by
    intro j u hj
    match j, hj with
    | 0, hj => simp [ec] at hj; rw [← hj]; exact hc0
    | 1, hj => simp [ec] at hj; rw [← hj]; exact hc1
    | j + 2, hj => simp [ec] at hj) (ec_one (by intro x hx; simp at hx; rw [hx]; exact ho.one)) (by decide) (by omega) (Nat.zero_le _)
  have hk : Keeps (fun k => v.ownBlock = some k) w w' := Keeps.grown hg fun k e => e
  refine ⟨v', w', hr, ⟨?_, ?_, ?_, ?_⟩, hk, hnw⟩
  · rw [List.length_append, ec_append]; exact hrow
  · intro x hx
    rcases List.mem_append.1 hx with hx | hx
    · exact (h.own x hx).keeps hk fun k h1 h2 => h.ne h2 x hx h1
    · simp at hx; subst hx
      exact ho.keeps hk fun k h1 h2 => row_ne h.row ho (by decide) h2 h1
  · intro x hx
    rcases List.mem_append.1 hx with hx | hx
    · exact h.ok x hx
    · simp at hx; subst hx; exact hok
  · rw [List.pairwise_append]
    refine ⟨h.dis, List.pairwise_singleton _ _, fun a ha b hb k hk => ?_⟩
    simp at hb; subst hb
    exact hne a ha k hk

theorem row_setRow {w : World} {g : Nat} {cs : Array Value} : Keeps (fun k => k = g) w (w.setRow g cs) :=
  ⟨rfl, rfl, rfl, by simp [World.setRow], fun k _ hn => setRow_other w g k cs hn⟩

theorem set_same {α : Type} {L : List α} {i : Nat} {a : α} (h : L[i]? = some a) : L.set i a = L := by
  apply List.ext_getElem?
  intro j
  by_cases e : i = j
  · subst e
    have := (List.getElem?_eq_some_iff.1 h).1
    rw [List.getElem?_set_self this, h]
  · rw [List.getElem?_set_ne e]
theorem en_erase (L : List En) (i : Nat) : L.eraseIdx i = L.take i ++ L.drop (i + 1) := List.eraseIdx_eq_take_drop_succ ..

/-- append(l[:i], l[i+1:]...) and clear of the place that is left. -/
theorem delete_run (w : World) (g n cap i : Nat) (E : List En) (A : Addr) (h : Fl w (.slice (some ⟨g, 0, none⟩) n cap) E) (hi : i < n) (hA : i + 1 < n → A = ⟨g, (i + 1) * 2, none⟩) :
    ∃ w1 w2, (∀ ty, (Builtin.append_ #[33, 33] ty #[.slice (some ⟨g, 0, none⟩) i cap, .slice (some A) (n - (i + 1)) (cap - (i + 1))]).run Try.prog w = .ok (.slice (some ⟨g, 0, none⟩) (i + (n - (i + 1))) cap) w1) ∧
      (∀ ty c, (Builtin.clear_ #[33] ty #[.slice (some ⟨g, (n - 1) * 2, none⟩) 1 c]).run Try.prog w1 = .ok (.tuple #[]) w2) ∧
      Fl w2 (.slice (some ⟨g, 0, none⟩) (n - 1) cap) (E.eraseIdx i) ∧ Keeps (fun k => k = g) w w2 := by
  obtain ⟨i0, hi0, hz0, hz1, hz2⟩ := info_parts infoS
  rcases h.row.2 with ⟨h0, _⟩ | ⟨g', cap', cur, h0, hbb, hg, h1, h2, h3, h4⟩
  · cases h0
  · simp only [Value.slice.injEq, Option.some.injEq, Addr.mk.injEq, and_true] at h0
    obtain ⟨rfl, rfl, rfl⟩ := h0
    have hcl : cur.toList.length = cap * 2 := by rw [Array.length_toList]; exact h3
    have hnl : (ec (E.drop (i + 1))).length = (E.length - (i + 1)) * 2 := by rw [ec_len, List.length_drop]
    have hone : ∀ u ∈ ec (E.drop (i + 1)), u.oneCell' = true := ec_one fun e he => (h.own e (List.mem_of_mem_drop he)).one
    have hsrc : ∀ j u, (ec (E.drop (i + 1)))[j]? = some u → w.cell? (A.add j) = some u := fun j u hj => by
      have hjl := (List.getElem?_eq_some_iff.1 hj).1
      rw [hA (by omega), Addr.add_lit, cell_of_row _ _ _ _ _ _ hg]
      rw [ec_drop, List.getElem?_drop, ← h4, List.getElem?_take, if_pos (by omega)] at hj
      simpa using hj
    have hr := fun ty => run_append_room (P := Try.prog) w 33 ty 41 i0 uS hi0 g i cap cur hg A (E.length - (i + 1)) (cap - (i + 1)) (ec (E.drop (i + 1))) (by rw [hz1]; exact hnl) hsrc hone (by omega) (by rw [hz1, hnl, h3]; omega)
    rw [hz1] at hr
    obtain ⟨c1, hc1⟩ : ∃ c1, c1 = (cur.toList.take (i * 2) ++ ec (E.drop (i + 1)) ++ cur.toList.drop (i * 2 + (ec (E.drop (i + 1))).length)).toArray := ⟨_, rfl⟩
    rw [← hc1] at hr
    have hc1s : c1.size = cap * 2 := by
      rw [hc1]; simp only [List.size_toArray, List.length_append, List.length_take, List.length_drop, hcl, hnl]; omega
    have hg1 : (w.setRow g c1).heap[g]? = some (.cells c1 41 (0, 0)) := setRow_heap w g _ _ _ _ hg
    have hz : ∀ u ∈ [Value.int .u32 0, .slice none 0 0], u.oneCell' = true := by intro u hu; simp at hu; rcases hu with rfl | rfl <;> rfl
    have hst := run_storeCells_at Try.prog g ((E.length - 1) * 2) 41 [.int .u32 0, .slice none 0 0] 0 c1 (w.setRow g c1) hg1 (by rw [hc1s]; simp; omega) hz
    simp only [Nat.add_zero] at hst
    have hzc : (Builtin.zeroCells (.agg #[.int .u32 0, .slice none 0 0] : Value).cells 1).toList = [.int .u32 0, .slice none 0 0] := by kernel_rfl
    obtain ⟨c2, hc2⟩ : ∃ c2, c2 = (c1.toList.take ((E.length - 1) * 2) ++ [Value.int .u32 0, .slice none 0 0] ++ c1.toList.drop ((E.length - 1) * 2 + 2)).toArray := ⟨_, rfl⟩
    refine ⟨w.setRow g c1, (w.setRow g c1).setRow g c2, hr, fun ty c => ?_, ?_, (row_setRow (cs := c1)).trans row_setRow⟩
    · simp [Builtin.clear_, run_underlying uS, hzc, hst, hc2]
    · have hel : E.length - 1 = (E.eraseIdx i).length := by rw [List.length_eraseIdx_of_lt hi]
      have hkk : Keeps (fun k => k = g) w ((w.setRow g c1).setRow g c2) := (row_setRow (cs := c1)).trans row_setRow
      have hfl : ∀ e ∈ E.eraseIdx i, e ∈ E := fun e he => List.mem_of_mem_eraseIdx he
      refine ⟨?_, fun e he => (h.own e (hfl e he)).keeps hkk fun k h5 h6 => h.ne (k := g) rfl e (hfl e he) (by rw [h5, h6]), fun e he => h.ok e (hfl e he), h.dis.sublist (List.eraseIdx_sublist ..)⟩
      rw [hel]
      refine ⟨by rw [ec_len], .inr ⟨g, cap, c2, rfl, hbb, setRow_heap _ g _ _ _ _ hg1, by omega, h2, ?_, ?_⟩⟩
      · rw [hc2]; simp only [List.size_toArray, List.length_append, List.length_take, List.length_drop, Array.length_toList, hc1s, List.length_cons, List.length_nil]; omega
      · rw [hc2, ← hel]
        simp only [List.append_assoc]
        rw [List.take_append_of_le_length (by simp only [List.length_take, Array.length_toList, hc1s]; omega), List.take_take, Nat.min_self, hc1]
        have e1 : (cur.toList.take (i * 2)) = (ec E).take (i * 2) := by rw [← h4, List.take_take]; congr 1; omega
        simp only []
        rw [en_erase, ec_append, ec_take, e1]
        rw [List.take_append_of_le_length (by simp only [List.length_append, List.length_take, ec_len, hnl]; omega)]
        rw [List.take_of_length_le (by simp only [List.length_append, List.length_take, ec_len, hnl]; omega)]

/-- A byte of a packet is written. -/
theorem Fl.byte {w : World} {v : Value} {E : List En} (h : Fl w v E) {i g n cap at_ x : Nat} {e : En} (hi : E[i]? = some e) (hu : e.u = .slice (some ⟨g, 0, none⟩) n cap) (hx : x < 256) :
    Fl (w.setCell ⟨g, at_, none⟩ (.int .u8 (x : Int))) v (E.set i ⟨e.ad, e.bs.set at_ x, e.u⟩) ∧ Keeps (fun k => k = g) w (w.setCell ⟨g, at_, none⟩ (.int .u8 (x : Int))) := by
  have hk : Keeps (fun k => k = g) w (w.setCell ⟨g, at_, none⟩ (.int .u8 (x : Int))) := Keeps.set (S := fun k => k = g) (Keeps.refl _ _) ⟨g, at_, none⟩ rfl _
  have hg : e.u.ownBlock = some g := by rw [hu]; rfl
  have hm := h.mem hi
  have hil := (List.getElem?_eq_some_iff.1 hi).1
  refine ⟨⟨?_, ?_, ?_, ?_⟩, hk⟩
  · rw [List.length_set, ec_set]
    have e1 : ((ec E).set (i * 2) (.int .u32 (e.ad : Int))).set (i * 2 + 1) e.u = ec E := by
      obtain ⟨a1, a2⟩ := ec_at _ _ _ hi
      rw [set_same a1, set_same a2]
    simp only
    rw [e1]
    exact row_keeps h.row hk fun k h1 h2 => h.ne h1 e hm (by rw [hg, h2])
  · intro y hy
    rcases List.mem_or_eq_of_mem_set hy with hy1 | rfl
    · obtain ⟨j, hj⟩ := List.mem_iff_getElem?.1 hy
      by_cases hij : i = j
      · subst hij
        rw [List.getElem?_set_self hil] at hj
        cases hj
        have := h.own e hm
        simp only
        rw [hu] at this ⊢
        exact this.put at_ x
      · rw [List.getElem?_set_ne hij] at hj
        exact (h.own y hy1).keeps hk fun k h1 h2 => h.apart hi hj hij (by rw [hg, ← h2]) h1
    · have := h.own e hm
      simp only
      rw [hu] at this ⊢
      exact this.put at_ x
  · intro y hy
    rcases List.mem_or_eq_of_mem_set hy with hy1 | rfl
    · exact h.ok y hy1
    · obtain ⟨o1, o2, o3⟩ := h.ok e hm
      refine ⟨o1, by simpa using o2, fun z hz => ?_⟩
      rcases List.mem_or_eq_of_mem_set hz with hz | rfl
      · exact o3 z hz
      · exact hx
  · rw [List.pairwise_iff_getElem]
    intro a b ha hb hab k hk1
    rw [List.length_set] at ha hb
    have hd := List.pairwise_iff_getElem.1 h.dis a b ha hb hab k
    have hee : ∀ (j : Nat) (hj : j < E.length), ((E.set i ⟨e.ad, e.bs.set at_ x, e.u⟩)[j]'(by rw [List.length_set]; exact hj)).u = E[j].u := fun j hj => by
      by_cases hij : i = j
      · subst hij
        rw [List.getElem_set_self]
        have : E[i] = e := (List.getElem?_eq_some_iff.1 hi).2
        rw [this]
      · rw [List.getElem_set_ne hij]
    rw [hee a ha] at hk1
    rw [hee b hb]
    exact hd hk1

/-- A packet is written. -/
theorem Fl.put {w : World} {g n cap : Nat} {E : List En} (h : Fl w (.slice (some ⟨g, 0, none⟩) n cap) E) {i : Nat} (e : En) (ho : OwnB w 0 e.u e.bs) (hok : e.ad < 4294967296 ∧ e.bs.length ≤ 65535 ∧ ∀ x ∈ e.bs, x < 256)
    (hne : ∀ x ∈ E, ∀ k, x.u.ownBlock = some k → e.u.ownBlock ≠ some k) :
    Fl ((w.setCell ⟨g, i * 2, none⟩ (.int .u32 (e.ad : Int))).setCell ⟨g, i * 2 + 1, none⟩ e.u) (.slice (some ⟨g, 0, none⟩) n cap) (E.set i e) ∧ Keeps (fun k => k = g) w ((w.setCell ⟨g, i * 2, none⟩ (.int .u32 (e.ad : Int))).setCell ⟨g, i * 2 + 1, none⟩ e.u) := by
  have hk : Keeps (fun k => k = g) w ((w.setCell ⟨g, i * 2, none⟩ (.int .u32 (e.ad : Int))).setCell ⟨g, i * 2 + 1, none⟩ e.u) := Keeps.set (S := fun k => k = g) (Keeps.set (S := fun k => k = g) (Keeps.refl _ _) ⟨g, i * 2, none⟩ rfl _) ⟨g, i * 2 + 1, none⟩ rfl _
  have hn : n = E.length := by
    obtain ⟨a, c, hv, -⟩ := row_len h.row
    simp at hv
    exact hv.2.1
  subst hn
  refine ⟨⟨?_, ?_, ?_, ?_⟩, hk⟩
  · rw [List.length_set, ec_set]
    exact row_put (row_put h.row _ _) _ _
  · intro y hy
    rcases List.mem_or_eq_of_mem_set hy with hy1 | rfl
    · exact (h.own y hy1).keeps hk fun k h1 h2 => h.ne (k := g) rfl y hy1 (by rw [h1, h2])
    · exact ho.keeps hk fun k h1 h2 => row_ne h.row ho (by decide) (k := g) rfl (by rw [h1, h2])
  · intro y hy
    rcases List.mem_or_eq_of_mem_set hy with hy1 | rfl
    · exact h.ok y hy1
    · exact hok
  · rw [List.pairwise_iff_getElem]
    intro a b ha hb hab k hk1
    rw [List.length_set] at ha hb
    by_cases h1 : i = a
    · subst h1
      rw [List.getElem_set_self] at hk1
      rw [List.getElem_set_ne (by omega)]
      exact fun e2 => hne _ (List.getElem_mem hb) k e2 hk1
    · rw [List.getElem_set_ne h1] at hk1
      by_cases h2 : i = b
      · subst h2
        rw [List.getElem_set_self]
        exact hne _ (List.getElem_mem ha) k hk1
      · rw [List.getElem_set_ne h2]
        exact List.pairwise_iff_getElem.1 h.dis a b ha hb hab k hk1

theorem made_sents (n : Nat) : madeCells #[.int .u32 0, .slice none 0 0] (n * 2) = (ec (List.replicate n zE)).toArray := by
  unfold madeCells
  apply Array.ext
  · simp [ec_len]
  · intro i h1 h2
    have hlt : i < n * 2 := by simpa [ec_len] using h2
    have hj : (List.replicate n zE)[i / 2]? = some zE := by rw [List.getElem?_replicate, if_pos (by omega)]
    obtain ⟨a1, a2⟩ := ec_at _ _ _ hj
    simp only [List.getElem_toArray]
    have hi : i % 2 = 0 ∨ i % 2 = 1 := by omega
    rcases hi with hi | hi
    · rw [show i / 2 * 2 = i by omega, List.getElem?_eq_getElem (by simpa using h2)] at a1
      rw [Option.some.inj a1]
      simp [hi, zE]
    · rw [show i / 2 * 2 + 1 = i by omega, List.getElem?_eq_getElem (by simpa using h2)] at a2
      rw [Option.some.inj a2]
      simp [hi, zE]

theorem make_sents (k : Nat) (hk : k ≤ 4294967296) (u : World) : (Instr.makeSlice 33 (.int .i64 (k : Int)) (.int .i64 (k : Int))).run Try.prog u = .ok (.slice (some ⟨u.heap.size, 0, none⟩) k k) (u.alloc (.cells (ec (List.replicate k zE)).toArray 41)) := by
  obtain ⟨i0, hi0, hz0, hz1, hz2⟩ := info_parts infoS
  have := run_make (P := Try.prog) u 33 41 i0 _ uS hi0 hz0 .i64 .i64 (k : Int) (k : Int) (by omega) (by omega) (by rw [hz2]; simp; omega) (by omega)
  rw [hz1] at this
  rw [← made_sents]
  simpa [Value.cells] using this
theorem Fl.made (k : Nat) (hk : k ≤ 4294967296) (u : World) : Fl (u.alloc (.cells (ec (List.replicate k zE)).toArray 41)) (.slice (some ⟨u.heap.size, 0, none⟩) k k) (List.replicate k zE) := by
  refine ⟨?_, ?_, ?_, ?_⟩
  · refine ⟨by rw [ec_len], .inr ⟨u.heap.size, k, (ec (List.replicate k zE)).toArray, by simp, Nat.zero_le _, heap_alloc_new u _, by simp, by unfold maxLen; omega, by simp [ec_len], ?_⟩⟩
    rw [List.length_replicate]
    simp [ec_len, List.take_of_length_le]
  · intro e he
    rw [List.eq_of_mem_replicate he]
    exact ownB_nil _ _
  · intro e he
    rw [List.eq_of_mem_replicate he]
    exact ⟨by decide, by decide, fun x hx => by cases hx⟩
  · rw [List.pairwise_iff_getElem]
    intro a b ha hb _ k hk1
    rw [List.getElem_replicate] at hk1
    cases hk1

theorem made_zeros (k : Nat) : madeCells #[.int .u8 0] k = (bs (List.replicate k 0)).toArray := by
  unfold madeCells bs
  apply Array.ext
  · simp
  · intro i h1 h2
    simp [Nat.mod_one]
theorem make_bytes (k : Nat) (hk : k ≤ 1099511627776) (u : World) : (Instr.makeSlice 39 (.int .i64 (k : Int)) (.int .i64 (k : Int))).run Try.prog u = .ok (.slice (some ⟨u.heap.size, 0, none⟩) k k) (u.alloc (.cells (bs (List.replicate k 0)).toArray 5)) := by
  obtain ⟨i0, hi0, hz0, hz1, hz2⟩ := info_parts infoB
  have := run_make (P := Try.prog) u 39 5 i0 (.int .u8 0) uB hi0 hz0 .i64 .i64 (k : Int) (k : Int) (by omega) (by omega) (by rw [hz2]; simp; omega) (by omega)
  rw [hz1] at this
  rw [← made_zeros]
  simpa [Value.cells] using this
theorem run_copyK {P : Program} (w : World) (dT sT ty elem : TypeId) (k g o dLen dCap : Nat) (a : Addr) (sLen sCap : Nat) (cur : Array Value) (t : TypeId) (cs : List Value)
    (hu : P.underlying dT = some (.slice elem)) (hs : ∀ u, (sizeOf elem).run P u = .ok k u)
    (hg : w.heap[g]? = some (.cells cur t (0, 0))) (hn : cs.length = Nat.min sLen dLen * k)
    (hsrc : ∀ j v, cs[j]? = some v → w.cell? (a.add j) = some v) (hfit : o + cs.length ≤ cur.size) (h1 : ∀ v ∈ cs, v.oneCell' = true) :
    (Builtin.copy_ #[dT, sT] ty #[.slice (some ⟨g, o, none⟩) dLen dCap, .slice (some a) sLen sCap]).run P w =
      .ok (goInt (Nat.min sLen dLen)) (w.setRow g (cur.toList.take o ++ cs ++ cur.toList.drop (o + cs.length)).toArray) := by
  have hf := run_firstCells_some (P := P) w k (Nat.min sLen dLen) a sLen sCap cs hn hsrc
  have hst := run_storeCells_at P g o t cs 0 cur w hg (by simpa using hfit) h1
  simp only [Nat.add_zero] at hst
  simp [Builtin.copy_, run_underlying hu, Builtin.lenOf, hs, hf, hst]
theorem run_copy0 {P : Program} (w : World) (dT sT ty elem : TypeId) (k : Nat) (d : Option Addr) (dLen dCap sCap : Nat)
    (hu : P.underlying dT = some (.slice elem)) (hs : ∀ u, (sizeOf elem).run P u = .ok k u) :
    (Builtin.copy_ #[dT, sT] ty #[.slice d dLen dCap, .slice none 0 sCap]).run P w = .ok (goInt 0) w := by
  have hf := run_firstCells_none (P := P) w k 0 0 sCap
  cases d <;> simp [Builtin.copy_, run_underlying hu, Builtin.lenOf, hs, hf, storeCells]

/-- make and copy: bytes of one's own. -/
theorem copy_new (w : World) (K : Nat → Prop) (pa : Option Addr) (n pc : Nat) (L : List Nat) (hL : SeesB K w (.slice pa n pc) L) (hn : n ≤ 65535) :
    ∃ w1 w2, (Instr.makeSlice 39 (.int .i64 (n : Int)) (.int .i64 (n : Int))).run Try.prog w = .ok (.slice (some ⟨w.heap.size, 0, none⟩) n n) w1 ∧
      (∀ ty, (Builtin.copy_ #[39, 39] ty #[.slice (some ⟨w.heap.size, 0, none⟩) n n, .slice pa n pc]).run Try.prog w1 = .ok (.int .i64 (n : Int)) w2) ∧
      Below w.heap.size w w1 ∧ OwnB w2 w.heap.size (.slice (some ⟨w.heap.size, 0, none⟩) n n) L ∧ Below w.heap.size w w2 ∧ Keeps (fun k => k = w.heap.size) w1 w2 := by
  have hs : ∀ u : World, (sizeOf 5).run Try.prog u = .ok 1 u := fun u => by kernel_rfl
  have hb1 : Below w.heap.size w (w.alloc (.cells (bs (List.replicate n 0)).toArray 5)) := (Below.refl _ _).alloc (Nat.le_refl _) _
  have hL1 := hL.below hb1
  have hg := heap_alloc_new w (.cells (bs (List.replicate n 0)).toArray 5)
  obtain ⟨ao, cap, hv, h1, h2, h3⟩ := hL1
  simp only [Value.slice.injEq] at hv
  obtain ⟨rfl, rfl, rfl⟩ := hv
  cases pa with
  | none =>
    have hL : L = [] := by
      cases L with
      | nil => rfl
      | cons y L => obtain ⟨_, _, hc, _⟩ := h3 0 (by simp); cases hc
    subst hL
    refine ⟨_, _, make_bytes _ (by omega) w, fun ty => run_copy0 (P := Try.prog) _ _ _ ty 5 1 _ _ _ pc uB hs, hb1, ⟨rfl, .inr ⟨w.heap.size, 0, _, rfl, Nat.le_refl _, hg, Nat.le_refl _, by decide, rfl, rfl⟩⟩, hb1, Keeps.refl _ _⟩
  | some ad =>
    have hmin : Nat.min L.length L.length = L.length := Nat.min_self _
    have hr := fun ty => run_copyK (P := Try.prog) (w.alloc (.cells (bs (List.replicate L.length 0)).toArray 5)) 39 39 ty 5 1 w.heap.size 0 L.length L.length ad L.length pc (bs (List.replicate L.length 0)).toArray 5 (bs L) uB hs hg (by simp [bs]) (by
      intro j v hj
      have hjl : j < L.length := by have := (List.getElem?_eq_some_iff.1 hj).1; simpa [bs] using this
      obtain ⟨g', off', hc, hg, hcell, _⟩ := h3 j hjl
      simp only [Option.some.injEq] at hc; subst hc
      rw [Addr.add_mid, hcell]
      simp [bs, hjl] at hj
      rw [hj]) (by simp [bs]) (fun v hv => by obtain ⟨y, _, rfl⟩ := List.mem_map.1 hv; rfl)
    rw [hmin] at hr
    refine ⟨_, _, make_bytes _ (by omega) w, hr, hb1, ?_, row_setRow.below' hb1 (fun k e => by omega) (Nat.le_refl _), row_setRow⟩
    refine ⟨by simp [bs], .inr ⟨w.heap.size, L.length, _, rfl, Nat.le_refl _, setRow_heap _ _ _ _ _ _ hg, Nat.le_refl _, by unfold maxLen; omega, by simp [bs], ?_⟩⟩
    simp [bs, List.take_of_length_le]
end Go.Proofs.Ytaelfhjhinfikab
