/-
  ipam: Del. Lists of pods; the reference at rest: at, holder.
-/
import Derived.Test.YtjilahbkolcekabEE
namespace Go.Proofs.Ytjilahbkolcekab
open Go.ChangeShapes Go.WideShapes Go.ChangeAt Go.RowKit Go.Maps Tri
set_option maxHeartbeats 2000000
set_option maxRecDepth 100000

/-- What Del answers, and what it leaves. -/
def Ist.delR (s : Ist) (n : ByteArray) : Nat × Int × Ist :=
  match s.byN n with
  | none => (0, 3, s)
  | some p => (p.ad, 0, s.del n)

theorem filter_len {n : ByteArray} : ∀ {L : List Pod}, (L.map Pod.nm).Nodup → ∀ {p}, p ∈ L → p.nm = n → (L.filter fun q => !decide (q.nm = n)).length = L.length - 1
  | [], _, p, hp, _ => by cases hp
  | q :: L, h, p, hp, e => by
    rw [List.map_cons, List.nodup_cons] at h
    by_cases hq : q.nm = n
    · have : (L.filter fun q => !decide (q.nm = n)) = L := List.filter_eq_self.2 fun r hr => by
        have : r.nm ≠ n := fun e2 => h.1 (by rw [hq, ← e2]; exact List.mem_map_of_mem hr)
        simpa using this
      rw [List.filter_cons_of_neg (by simp [hq]), this, List.length_cons]; omega
    · have hp2 : p ∈ L := by
        rcases List.mem_cons.1 hp with h1 | h1
        · exact absurd (h1 ▸ e) hq
        · exact h1
      rw [List.filter_cons_of_pos (by simp [hq]), List.length_cons, filter_len h.2 hp2 e, List.length_cons]
      have := List.length_pos_of_mem hp2
      omega

theorem IpAt.del {w w2 w3 : World} {pb bn ba : Nat} {s : Ist} {n : ByteArray} {p : Pod} (h : IpAt w pb bn ba s) (hn : s.byN n = some p)
    (h2 : MapN w2 bn (fun y => if y = n then none else (s.byN y).map Pod.ad) (s.S.length - 1)) (t2 : w.mapTurned w2 bn)
    (h3 : MapA w3 ba (fun y => if y = p.ad then none else s.byA y) (s.S.length - 1)) (t3 : w2.mapTurned w3 ba) : IpAt w3 pb bn ba (s.del n) ∧ Keeps (fpI pb bn ba) w w3 := by
  have k2 := turned_keeps t2
  have k3 := turned_keeps t3
  have hlt := h.lt
  have s2 := k2.size
  obtain ⟨hp1, hp2⟩ := byN_some hn
  have hl : (s.del n).S.length = s.S.length - 1 := filter_len h.ok.nn hp1 hp2
  refine ⟨⟨?_, ?_, ?_, h.ne, h.ok.del n⟩, ?_⟩
  · rw [k3.block pb (by omega) h.n2, k2.block pb (by omega) h.n1, h.row]
    rfl
  · have h4 := h2.kept (k3.block bn (by omega) h.ne)
    refine h4.congr hl.symm fun y => ?_
    show _ = ((s.del n).byN y).map Pod.ad
    rw [byN_del]
    split <;> rfl
  · refine h3.congr hl.symm fun y => ?_
    show _ = (s.del n).byA y
    rw [h.ok.byA_del hn]
  · exact (k2.mono fun k _ e => .inr (.inl e)).trans (k3.mono fun k _ e => .inr (.inr e))

theorem del_any (w : World) (pb bn ba : Nat) (s : Ist) (n : ByteArray) (h : IpAt w pb bn ba s) (hn : n.size ≤ maxLen) :
    Calls Try.prog 19 #[.pointer (some ⟨pb, 0, none⟩), .string n] w fun e w' => e = .returned (.tuple #[.int .u32 ((s.delR n).1 : Int), .int .i64 (s.delR n).2.1]) ∧ IpAt w' pb bn ba (s.delR n).2.2 ∧ Keeps (fpI pb bn ba) w w' := by
  obtain ⟨-, -, -, c3, -, -⟩ := h.cells
  have HI := hid h
  have HF := hid (find_any w pb bn ba s n h hn)
  obtain ⟨A, HA⟩ : ∃ A, Hid (A = s.delR n) := ⟨_, rfl⟩
  rw [← HA.out]
  cases hf : s.byN n with
  | none =>
    have HE : Hid (A = (0, 3, s)) := by unfold Hid; rw [HA.out]; unfold Ist.delR; rw [hf]
    have hE : s.fnA n = 0 ∧ s.fnE n = 3 := by unfold Ist.fnA Ist.fnE; rw [hf]; exact ⟨rfl, rfl⟩
    rw [hE.1, hE.2] at HF
    clear h HA hE
    go_enter Try.func19, Try.ntmps19
    go_wp2_with fail
    refine HF.out.mono ?_
    rintro _ _ ⟨rfl, ew⟩
    obtain rfl := ew.symm
    clear ew HF
    go_wp2_with fail
    go_ret2
    rw [HE.out]
    exact ⟨rfl, HI.out, Keeps.refl _ _⟩
  | some p =>
    have HE : Hid (A = (p.ad, 0, s.del n)) := by unfold Hid; rw [HA.out]; unfold Ist.delR; rw [hf]
    have hE : s.fnA n = p.ad ∧ s.fnE n = 0 := by unfold Ist.fnA Ist.fnE; rw [hf]; exact ⟨rfl, rfl⟩
    rw [hE.1, hE.2] at HF
    have HFF := hid hf
    obtain ⟨q, HQ⟩ : ∃ q, Hid (q = p.ad) := ⟨_, rfl⟩
    rw [← HQ.out] at HF
    have hpm := byN_some hf
    have HQL : Hid (q < 4294967296) := by
      have h1 := h.ok.ar p hpm.1
      have h2 := h.ok.be
      unfold Hid; rw [HQ.out]; omega
    obtain ⟨w2, hu2, hm2, ht2⟩ := h.mn.drop (x := n) hn (by rw [hf]; rfl) 0
    have HMA2 := hid (h.ma.kept ((turned_keeps ht2).block ba h.lt.2.2 (Ne.symm h.ne)))
    obtain ⟨w3, hu3, hm3, ht3⟩ := HMA2.out.drop (x := q) HQL.out (by rw [HQ.out, h.ok.byA_mem hpm.1]; rfl) 0
    have R2 : w2.heap[pb]? = some (.cells (icells s.b (s.b + s.z - 1) (s.b + s.l) bn ba) 75 (0, 0)) := ((turned_keeps ht2).block pb h.lt.1 h.n1).trans h.row
    have d4 : w2.cell? ⟨pb, 4, none⟩ = some (.map (some ba)) := by rw [cell_of_row _ _ _ _ _ _ R2]; rfl
    have HU2 := hid hu2
    have HU3 := hid hu3
    have HFIN := hid (h.del hf hm2 ht2 (by rw [HQ.out] at hm3; exact hm3) ht3)
    clear h HA hE hf hpm hu2 hm2 ht2 hu3 hm3 ht3 R2
    go_enter Try.func19, Try.ntmps19
    go_wp2_with fail
    refine HF.out.mono ?_
    rintro _ _ ⟨rfl, ew⟩
    obtain rfl := ew.symm
    clear ew HF
    go_wp2_with (first | (refine wpList_delete_run _ rfl _ _ _ _ rfl _ _ rfl rfl HU2.out ?_) | (refine wpList_delete_run _ rfl _ _ _ _ rfl _ _ rfl rfl HU3.out ?_))
    go_ret2
    rw [HE.out, ← HQ.out]
    exact ⟨rfl, HFIN.out.1, HFIN.out.2⟩

/-! ### lists of pods -/
def pd (L : List Pod) : List Value := L.flatMap fun p => [.string p.nm, .int .u32 (p.ad : Int)]
theorem pd_len (L : List Pod) : (pd L).length = L.length * 2 := by
  induction L with
  | nil => rfl
  | cons p L ih => unfold pd at *; rw [List.flatMap_cons, List.length_append, ih, List.length_cons]; simp; omega
theorem pd_append (A C : List Pod) : pd (A ++ C) = pd A ++ pd C := by simp [pd]
theorem pd_cons (p : Pod) (L : List Pod) : pd (p :: L) = .string p.nm :: .int .u32 (p.ad : Int) :: pd L := by simp [pd]
theorem pd_one (L : List Pod) : ∀ u ∈ pd L, u.oneCell' = true := by
  intro u hu
  obtain ⟨r, _, h⟩ := List.mem_flatMap.1 hu
  simp at h
  rcases h with rfl | rfl <;> rfl
theorem pd_at : ∀ (L : List Pod) (i : Nat) (r : Pod), L[i]? = some r → (pd L)[i * 2]? = some (.string r.nm) ∧ (pd L)[i * 2 + 1]? = some (.int .u32 (r.ad : Int))
  | r :: rs, 0, s, h => by
    simp at h; subst h
    exact ⟨rfl, rfl⟩
  | r :: rs, i + 1, s, h => by
    have := pd_at rs i s (by simpa using h)
    rw [pd_cons, show (i + 1) * 2 = i * 2 + 1 + 1 by omega]
    simpa using this
theorem pd_take (L : List Pod) (i : Nat) : pd (L.take i) = (pd L).take (i * 2) := by
  induction L generalizing i with
  | nil => simp [pd]
  | cons p L ih =>
    cases i with
    | zero => simp [pd]
    | succ i => rw [List.take_succ_cons, pd_cons, pd_cons, ih, show (i + 1) * 2 = i * 2 + 1 + 1 by omega]; simp
theorem pd_drop (L : List Pod) (i : Nat) : pd (L.drop i) = (pd L).drop (i * 2) := by
  induction L generalizing i with
  | nil => simp [pd]
  | cons p L ih =>
    cases i with
    | zero => simp
    | succ i => rw [List.drop_succ_cons, pd_cons, ih, show (i + 1) * 2 = i * 2 + 1 + 1 by omega]; simp

/-- v is an own list of pods, in a block not below B. -/
def OwnD (w : World) (B : Nat) (v : Value) (L : List Pod) : Prop := w.ownsRow B 80 2 v L.length (pd L)

theorem OwnD.nil (w : World) (B : Nat) : OwnD w B (.slice none 0 0) [] := ⟨rfl, .inl ⟨rfl, rfl⟩⟩
theorem OwnD.shape {w : World} {B : Nat} {v : Value} {L : List Pod} (h : OwnD w B v L) : ∃ a n cap, v = .slice a n cap ∧ Hid (n = L.length) ∧ n ≤ cap ∧ cap ≤ maxLen ∧ (a = none → n = 0) := by
  rcases h.2 with ⟨rfl, h0⟩ | ⟨g, cap, cur, rfl, -, -, h1, h2, -⟩
  · exact ⟨none, 0, 0, rfl, hid h0.symm, by omega, by decide, fun _ => rfl⟩
  · exact ⟨_, _, cap, rfl, rfl, h1, h2, fun e => by cases e⟩
theorem OwnD.below {w w' : World} {B : Nat} {v : Value} {L : List Pod} (h : OwnD w B v L) (hb : Below w.heap.size w w') : OwnD w' B v L :=
  World.ownsRow.kept (row := none) h ⟨hb.os, hb.tape, hb.output, hb.size, fun k hk _ => hb.block k hk⟩ (by cases hv : v.ownBlock <;> simp)
theorem OwnD.keeps {S : Nat → Prop} {w w' : World} {B : Nat} {v : Value} {L : List Pod} (h : OwnD w B v L) (hb : Keeps S w w') (hn : ∀ k, v.ownBlock = some k → ¬ S k) : OwnD w' B v L := by
  refine ⟨h.1, ?_⟩
  rcases h.2 with hn | ⟨g, cap, cur, rfl, hbb, hg, rest⟩
  · exact .inl hn
  · exact .inr ⟨g, cap, cur, rfl, hbb, (hb.block g (Array.getElem?_eq_some_iff.1 hg).1 (hn g rfl)).trans hg, rest⟩
theorem OwnD.low {w : World} {B B' : Nat} {v : Value} {L : List Pod} (h : OwnD w B v L) (hb : B' ≤ B) : OwnD w B' v L := by
  refine ⟨h.1, ?_⟩
  rcases h.2 with hn | ⟨g, cap, cur, rfl, hbb, rest⟩
  · exact .inl hn
  · exact .inr ⟨g, cap, cur, rfl, Nat.le_trans hb hbb, rest⟩
theorem OwnD.lt {w : World} {B : Nat} {v : Value} {L : List Pod} (h : OwnD w B v L) {g : Nat} (hg : v.ownBlock = some g) : B ≤ g ∧ g < w.heap.size := World.ownsRow.lt h g hg
theorem OwnD.kind {w : World} {B : Nat} {v : Value} {L : List Pod} (h : OwnD w B v L) {g : Nat} (hg : v.ownBlock = some g) : ∃ cs, w.heap[g]? = some (.cells cs 80 (0, 0)) := by
  rcases h.2 with ⟨rfl, _⟩ | ⟨g', cap', cur', rfl, _, hgg, _⟩
  · cases hg
  · simp [Value.ownBlock] at hg
    subst hg
    exact ⟨_, hgg⟩
theorem OwnD.at {w : World} {B n cap : Nat} {a : Option Addr} {L : List Pod} (h : OwnD w B (.slice a n cap) L) {i : Nat} {p : Pod} (hi : L[i]? = some p) :
    ∃ g, a = some ⟨g, 0, none⟩ ∧ g < w.heap.size ∧ ∀ u : World, u.heap[g]? = w.heap[g]? → u.cell? ⟨g, i * 2, none⟩ = some (.string p.nm) ∧ u.cell? ⟨g, i * 2 + 1, none⟩ = some (.int .u32 (p.ad : Int)) ∧ u.frozen? ⟨g, i * 2, none⟩ = false ∧ u.frozen? ⟨g, i * 2 + 1, none⟩ = false := by
  have hil := (List.getElem?_eq_some_iff.1 hi).1
  rcases h.2 with ⟨h0, h1⟩ | ⟨g, cap', cur, h0, hb, hg, h1, h2, h3, h4⟩
  · omega
  · simp only [Value.slice.injEq] at h0
    obtain ⟨rfl, rfl, rfl⟩ := h0
    refine ⟨g, rfl, (Array.getElem?_eq_some_iff.1 hg).1, fun u hu => ?_⟩
    rw [hg] at hu
    obtain ⟨e1, e2⟩ := pd_at _ i _ hi
    rw [← h4, List.getElem?_take, if_pos (by omega)] at e1 e2
    refine ⟨?_, ?_, frozen_of_row _ _ _ _ _ hu, frozen_of_row _ _ _ _ _ hu⟩
    · rw [cell_of_row _ _ _ _ _ _ hu]; simpa using e1
    · rw [cell_of_row _ _ _ _ _ _ hu]; simpa using e2

/-! ### the reference at rest -/
def rcells (b z l : Nat) (vp : Value) : Array Value := #[.int .i64 (b : Int), .int .i64 (z : Int), vp, .int .i64 (l : Int)]
structure RfAt (w : World) (rb : Nat) (vp : Value) (s : Ist) : Prop where
  row : w.heap[rb]? = some (.cells (rcells s.b s.z s.l vp) 89 (0, 0))
  own : OwnD w 0 vp s.S
  ok : s.Ok

/-- Its blocks. -/
def fpR (rb : Nat) (vp : Value) (k : Nat) : Prop := k = rb ∨ vp.ownBlock = some k

section
variable {w w' : World} {rb : Nat} {vp : Value} {s : Ist}
theorem RfAt.ne (h : RfAt w rb vp s) : vp.ownBlock ≠ some rb := fun e => by
  obtain ⟨cs, h1⟩ := h.own.kind e
  have := h.row
  rw [h1] at this
  simp at this
theorem RfAt.lt (h : RfAt w rb vp s) {k : Nat} (hk : fpR rb vp k) : k < w.heap.size := by
  rcases hk with rfl | hk
  · exact (Array.getElem?_eq_some_iff.1 h.row).1
  · exact (h.own.lt hk).2
theorem RfAt.keeps {S : Nat → Prop} (h : RfAt w rb vp s) (hk : Keeps S w w') (hn : ∀ k, fpR rb vp k → ¬ S k) : RfAt w' rb vp s :=
  ⟨(hk.block rb (h.lt (.inl rfl)) (hn _ (.inl rfl))).trans h.row, h.own.keeps hk fun k e => hn k (.inr e), h.ok⟩
theorem RfAt.below (h : RfAt w rb vp s) (hb : Below w.heap.size w w') : RfAt w' rb vp s := h.keeps (S := fun _ => False) (Keeps.of hb) fun _ _ e => e
theorem RfAt.cells (h : RfAt w rb vp s) : w.cell? ⟨rb, 0, none⟩ = some (.int .i64 (s.b : Int)) ∧ w.cell? ⟨rb, 1, none⟩ = some (.int .i64 (s.z : Int)) ∧ w.cell? ⟨rb, 2, none⟩ = some vp ∧ w.cell? ⟨rb, 3, none⟩ = some (.int .i64 (s.l : Int)) ∧ w.frozen? ⟨rb, 2, none⟩ = false ∧ w.frozen? ⟨rb, 3, none⟩ = false := by
  have hr := h.row
  refine ⟨?_, ?_, ?_, ?_, frozen_of_row _ _ _ _ _ hr, frozen_of_row _ _ _ _ _ hr⟩ <;> (rw [cell_of_row _ _ _ _ _ _ hr]; rfl)
end

/-- The place of a name, of an address. -/
def AtN (s : Ist) (n : ByteArray) (v : Int) : Prop := (s.byN n = none ∧ v = -1) ∨ ∃ (j : Nat) (p : Pod), s.byN n = some p ∧ s.S[j]? = some p ∧ v = (j : Int)
def AtA (s : Ist) (a : Nat) (v : Int) : Prop := (s.byA a = none ∧ v = -1) ∨ ∃ (j : Nat) (p : Pod), s.byA a = some p ∧ s.S[j]? = some p ∧ v = (j : Int)

theorem str_ne {a b : ByteArray} (h : a ≠ b) : (a.toList == b.toList) = false := by
  rw [ByteArray.toList_eq, ByteArray.toList_eq]
  cases hq : (a.data.toList == b.data.toList) with
  | false => rfl
  | true =>
    rw [beq_iff_eq] at hq
    have : a.data = b.data := Array.toList_inj.1 hq
    exact absurd (by cases a; cases b; simp at this; rw [this]) h

theorem at_any (w : World) (rb : Nat) (vp : Value) (s : Ist) (n : ByteArray) (h : RfAt w rb vp s) :
    Calls Try.prog 48 #[.pointer (some ⟨rb, 0, none⟩), .string n] w fun e w' => (∃ v, e = .returned (.int .i64 v) ∧ AtN s n v) ∧ w' = w := by
  obtain ⟨-, -, c2, -, -, -⟩ := h.cells
  obtain ⟨av, nv, cv, rfl, HN, hnc, hcap, hnil⟩ := h.own.shape
  have HO := hid h.own
  have HOK := hid h.ok
  have HLE : Hid (nv ≤ 1024) := by have := h.ok.le; have := HN.out; unfold Hid; omega
  have hle := HLE.out
  clear h hnil hcap
  go_enter Try.func48, Try.ntmps48
  go_upto_region 2 with fail
  go_loopw [5] (fun i wr => ∃ j : Nat, i = .int .i64 (j : Int) ∧ j ≤ nv ∧ Hid (∀ k p, k < j → s.S[k]? = some p → p.nm ≠ n) ∧ wr = w) (fun i _ => nv - (intOf i).toNat)
  case atStart => exact ⟨0, rfl, Nat.zero_le _, fun k p hk => absurd hk (by omega), rfl⟩
  case round =>
    obtain ⟨j, rfl, hj, HA, rfl⟩ := hrel
    by_cases hlt : j < nv
    · have hlt' : (j : Int) < (nv : Int) := int_lt hlt
      obtain ⟨p, HX⟩ : ∃ p, Hid (s.S[j]? = some p) := ⟨_, hid (List.getElem?_eq_getElem (by have := HN.out; omega))⟩
      obtain ⟨g, rfl, hg, hcl⟩ := HO.out.at HX.out
      obtain ⟨d0, d1, -, -⟩ := hcl wr rfl
      clear hcl hg d1
      by_cases he : p.nm = n
      · have q : (p.nm.toList == n.toList) = true := by rw [he]; simp
        have HE : Hid (AtN s n (j : Int)) := .inr ⟨j, p, by rw [← he]; exact HOK.out.byN_mem (List.mem_of_getElem? HX.out), HX.out, rfl⟩
        clear he
        go_wp2_with fail
        go_ret
        exact ⟨⟨_, rfl, HE.out⟩, rfl⟩
      · have q : (p.nm.toList == n.toList) = false := str_ne he
        have HA2 : Hid (∀ k p, k < j + 1 → s.S[k]? = some p → p.nm ≠ n) := fun k p2 hk hp => by
          rcases Nat.lt_or_ge k j with h1 | h1
          · exact HA.out k p2 h1 hp
          · have : k = j := by omega
            subst this
            rw [HX.out] at hp
            cases hp
            exact he
        clear he
        go_wp2_with fail
        go_roundw
        case rel => exact ⟨j + 1, by go_num, hlt, HA2, trivial⟩
        case measure => simp [intOf]; omega
    · have hlt' : ¬ (j : Int) < (nv : Int) := int_nlt hlt
      have HE : Hid (AtN s n (-1)) := by
        refine .inl ⟨List.find?_eq_none.2 fun p hp => ?_, rfl⟩
        obtain ⟨k, hk, e⟩ := List.mem_iff_getElem.1 hp
        have := HA.out k p (by have := HN.out; omega) (by rw [List.getElem?_eq_getElem hk, e])
        simpa using this
      go_wp2_with fail
      go_ret
      exact ⟨⟨_, rfl, HE.out⟩, rfl⟩

theorem holder_any (w : World) (rb : Nat) (vp : Value) (s : Ist) (a : Nat) (h : RfAt w rb vp s) :
    Calls Try.prog 49 #[.pointer (some ⟨rb, 0, none⟩), .int .i64 (a : Int)] w fun e w' => (∃ v, e = .returned (.int .i64 v) ∧ AtA s a v) ∧ w' = w := by
  obtain ⟨-, -, c2, -, -, -⟩ := h.cells
  obtain ⟨av, nv, cv, rfl, HN, hnc, hcap, hnil⟩ := h.own.shape
  have HO := hid h.own
  have HOK := hid h.ok
  have HLE : Hid (nv ≤ 1024) := by have := h.ok.le; have := HN.out; unfold Hid; omega
  have hle := HLE.out
  have HAD : Hid (∀ p ∈ s.S, p.ad < 4294967296) := fun p hp => by have := h.ok.ar p hp; have := h.ok.be; omega
  clear h hnil hcap
  go_enter Try.func49, Try.ntmps49
  go_upto_region 2 with fail
  go_loopw [5] (fun i wr => ∃ j : Nat, i = .int .i64 (j : Int) ∧ j ≤ nv ∧ Hid (∀ k p, k < j → s.S[k]? = some p → p.ad ≠ a) ∧ wr = w) (fun i _ => nv - (intOf i).toNat)
  case atStart => exact ⟨0, rfl, Nat.zero_le _, fun k p hk => absurd hk (by omega), rfl⟩
  case round =>
    obtain ⟨j, rfl, hj, HA, rfl⟩ := hrel
    by_cases hlt : j < nv
    · have hlt' : (j : Int) < (nv : Int) := int_lt hlt
      obtain ⟨p, HX⟩ : ∃ p, Hid (s.S[j]? = some p) := ⟨_, hid (List.getElem?_eq_getElem (by have := HN.out; omega))⟩
      obtain ⟨g, rfl, hg, hcl⟩ := HO.out.at HX.out
      obtain ⟨d0, d1, -, -⟩ := hcl wr rfl
      obtain ⟨m, HM⟩ : ∃ m, Hid (m = p.ad) := ⟨_, rfl⟩
      rw [← HM.out] at d1
      have hm : m < 4294967296 := by rw [HM.out]; exact HAD.out p (List.mem_of_getElem? HX.out)
      clear hcl hg d0
      by_cases he : m = a
      · have q : ((m : Int) == (a : Int)) = true := by simp [he]
        have q2 : (m : Int) = (a : Int) := by omega
        have HE : Hid (AtA s a (j : Int)) := .inr ⟨j, p, by rw [← he, HM.out]; exact HOK.out.byA_mem (List.mem_of_getElem? HX.out), HX.out, rfl⟩
        clear he
        go_wp2_with fail
        go_ret
        exact ⟨⟨_, rfl, HE.out⟩, rfl⟩
      · have q : ((m : Int) == (a : Int)) = false := by simp; omega
        have q2 : ¬ (m : Int) = (a : Int) := by omega
        have HA2 : Hid (∀ k p, k < j + 1 → s.S[k]? = some p → p.ad ≠ a) := fun k p2 hk hp => by
          rcases Nat.lt_or_ge k j with h1 | h1
          · exact HA.out k p2 h1 hp
          · have : k = j := by omega
            subst this
            rw [HX.out] at hp
            cases hp
            rw [← HM.out]
            exact he
        clear he
        go_wp2_with fail
        go_roundw
        case rel => exact ⟨j + 1, by go_num, hlt, HA2, trivial⟩
        case measure => simp [intOf]; omega
    · have hlt' : ¬ (j : Int) < (nv : Int) := int_nlt hlt
      have HE : Hid (AtA s a (-1)) := by
        refine .inl ⟨List.find?_eq_none.2 fun p hp => ?_, rfl⟩
        obtain ⟨k, hk, e⟩ := List.mem_iff_getElem.1 hp
        have := HA.out k p (by have := HN.out; omega) (by rw [List.getElem?_eq_getElem hk, e])
        simpa using this
      go_wp2_with fail
      go_ret
      exact ⟨⟨_, rfl, HE.out⟩, rfl⟩
end Go.Proofs.Ytjilahbkolcekab
