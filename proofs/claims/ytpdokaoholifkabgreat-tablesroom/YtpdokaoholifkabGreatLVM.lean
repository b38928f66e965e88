/-
  tables, the law: TablesRoom.
-/
import Derived.Test.YtpdokaoholifkabGreatLS
namespace Go.Proofs.YtpdokaoholifkabGreat.Rt
open Go.Proofs.YtpdokaoholifkabGreat Go.ChangeShapes Go.WideShapes Go.ChangeAt Go.RowKit Go.Maps Tri N
set_option maxHeartbeats 8000000
set_option maxRecDepth 100000

def rtO (i : Nat) : Vt := ⟨i, 32, i, false⟩
def mcO (i : Nat) : Mc := ⟨1, 2, 3, 4, i / 256, i % 256⟩
def nbO (i : Nat) : Nb := ⟨i, mcO i⟩
def fdO (i : Nat) : Fd := ⟨mcO i, i⟩
def mcZ : Mc := ⟨0, 0, 0, 0, 0, 0⟩
def op1 (i : Nat) : Opv := ⟨1, rtO i, ⟨0, mcZ⟩, ⟨mcZ, 0⟩⟩
def op3 (i : Nat) : Opv := ⟨3, ⟨0, 0, 0, false⟩, nbO i, ⟨mcZ, 0⟩⟩
def op5 (i : Nat) : Opv := ⟨5, ⟨0, 0, 0, false⟩, ⟨0, mcZ⟩, fdO i⟩
theorem mcZ_ok : mcZ.Ok := by unfold Mc.Ok; decide
theorem mcO_ok {i : Nat} (h : i < 65536) : (mcO i).Ok := fun x hx => by
  simp only [mcO, Mc.L, List.mem_cons, List.not_mem_nil, or_false] at hx
  omega
theorem op1_ok {i : Nat} (h : i < 300) : (op1 i).Ok := ⟨by simp [op1], by simp [op1, rtO]; omega, by simp [op1, rtO], by simp [op1, rtO]; omega, by simp [op1], mcZ_ok, mcZ_ok, by simp [op1]⟩
theorem op3_ok {i : Nat} (h : i < 300) : (op3 i).Ok := ⟨by simp [op3], by simp [op3], by simp [op3], by simp [op3], by simp [op3, nbO]; omega, mcO_ok (by omega), mcZ_ok, by simp [op3]⟩
theorem op5_ok {i : Nat} (h : i < 300) : (op5 i).Ok := ⟨by simp [op5], by simp [op5], by simp [op5], by simp [op5], by simp [op5], mcZ_ok, mcO_ok (by omega), by simp [op5, fdO]; omega⟩

/-- The first j of a row, as many as find room. -/
def rowO {α : Type} (c j : Nat) (g : Nat → α) : List α := (List.range (min j c)).map g
theorem rowO_len {α : Type} (c j : Nat) (g : Nat → α) : (rowO c j g).length = min j c := by simp [rowO]
theorem rowO_full {α : Type} {c j : Nat} (g : Nat → α) (h : c ≤ j) : rowO c (j + 1) g = rowO c j g := by
  unfold rowO
  rw [show min (j + 1) c = min j c by omega]
theorem rowO_no {α κ : Type} [DecidableEq κ] {key : α → κ} (c j : Nat) (g : Nat → α) (k : κ) (hg : ∀ i, i < j → i < c → key (g i) ≠ k) : ∀ e ∈ rowO c j g, key e ≠ k := fun e he => by
  obtain ⟨i, hi, rfl⟩ := List.mem_map.1 he
  have := List.mem_range.1 hi
  exact hg i (by omega) (by omega)
theorem rowO_put {α κ : Type} [DecidableEq κ] {key : α → κ} {c j : Nat} (g : Nat → α) (hg : ∀ i, i < j → i < c → key (g i) ≠ key (g j)) (h : j < c) : putK key (rowO c j g) (g j) = rowO c (j + 1) g := by
  have h1 : ix key (rowO c j g) (key (g j)) = none := ix_of_none (rowO_no c j g _ hg)
  unfold putK
  rw [h1]
  unfold rowO
  rw [show min (j + 1) c = j + 1 by omega, show min j c = j by omega, List.range_succ, List.map_append]
  rfl
theorem rooE1 {s : Ks} {o : Opv} (k : o.kind = 1) (hv : valB o.r.x o.r.n = true) (hl : o.r.loc = false) (hn : lk Tri.Vt.key s.R o.r.key = none) : oneE s o = if s.cr ≤ s.R.length then 4 else 0 := by
  unfold oneE
  rw [if_pos k, hv, hl, hn]
  simp
theorem rooE2 {s : Ks} {o : Opv} (k : o.kind = 2) (hv : valB o.r.x o.r.n = true) : oneE s o = 0 := by
  unfold oneE
  rw [if_neg (by omega), if_pos k, hv]
  simp
theorem rooE3 {s : Ks} {o : Opv} (k : o.kind = 3) (hn : lk Nb.ip s.N o.n.ip = none) : oneE s o = if s.cn ≤ s.N.length then 4 else 0 := by
  unfold oneE
  rw [if_neg (by omega), if_neg (by omega), if_pos k, hn]
  simp
theorem rooE5 {s : Ks} {o : Opv} (k : o.kind = 5) (hn : lk Fd.mac s.F o.f.mac = none) : oneE s o = if s.cf ≤ s.F.length then 4 else 0 := by
  unfold oneE
  rw [if_neg (by omega), if_neg (by omega), if_neg (by omega), if_neg (by omega), if_pos k, hn]
  simp
theorem rooS0 {s : Ks} {o : Opv} (h : oneE s o ≠ 0) : oneS s o = s := by unfold oneS; rw [if_pos h]
theorem rooS1 {s : Ks} {o : Opv} (k : o.kind = 1) (h : oneE s o = 0) : oneS s o = { s with R := putK Tri.Vt.key s.R o.r } := by unfold oneS; rw [if_neg (fun hh => hh h), if_pos k]
theorem rooS2 {s : Ks} {o : Opv} (k : o.kind = 2) (h : oneE s o = 0) : oneS s o = { s with R := delK Tri.Vt.key s.R o.r.key } := by unfold oneS; rw [if_neg (fun hh => hh h), if_neg (by omega), if_pos k]
theorem rooS3 {s : Ks} {o : Opv} (k : o.kind = 3) (h : oneE s o = 0) : oneS s o = { s with N := putK Nb.ip s.N o.n } := by unfold oneS; rw [if_neg (fun hh => hh h), if_neg (by omega), if_neg (by omega), if_pos k]
theorem rooS5 {s : Ks} {o : Opv} (k : o.kind = 5) (h : oneE s o = 0) : oneS s o = { s with F := putK Fd.mac s.F o.f } := by unfold oneS; rw [if_neg (fun hh => hh h), if_neg (by omega), if_neg (by omega), if_neg (by omega), if_neg (by omega), if_pos k]
theorem le_min (j r : Nat) : (if r ≤ min j r then (4 : Int) else 0) = if j < r then 0 else 4 := by
  by_cases h : j < r
  · rw [if_pos h, if_neg (by omega)]
  · rw [if_neg h, if_pos (by omega)]
def roomS (r n f a b c : Nat) : Ks := ⟨rowO r a rtO, rowO n b nbO, rowO f c fdO, r, n, f⟩
theorem val32 (i : Nat) : valB i 32 = true := by
  unfold valB
  simp [Nat.mod_one]
theorem room1 (r n f j b c : Nat) : oneE (roomS r n f j b c) (op1 j) = (if j < r then 0 else 4) ∧ oneS (roomS r n f j b c) (op1 j) = roomS r n f (j + 1) b c := by
  have hg : ∀ i, i < j → i < r → Tri.Vt.key (rtO i) ≠ Tri.Vt.key (rtO j) := fun i hi _ e => by
    have : i = j := congrArg Prod.fst e
    omega
  have hn : lk Tri.Vt.key (rowO r j rtO) (Tri.Vt.key (rtO j)) = none := lk_isNone (rowO_no r j rtO _ hg)
  have hE : oneE (roomS r n f j b c) (op1 j) = (if j < r then 0 else 4) := by
    refine (rooE1 (s := roomS r n f j b c) (o := op1 j) rfl (val32 j) rfl hn).trans ?_
    show (if r ≤ (rowO r j rtO).length then (4 : Int) else 0) = _
    rw [rowO_len]
    exact le_min j r
  refine ⟨hE, ?_⟩
  by_cases h : j < r
  · rw [if_pos h] at hE
    rw [rooS1 (s := roomS r n f j b c) (o := op1 j) rfl hE]
    show (⟨putK Tri.Vt.key (rowO r j rtO) (rtO j), rowO n b nbO, rowO f c fdO, r, n, f⟩ : Ks) = _
    rw [rowO_put rtO hg h]
    rfl
  · rw [if_neg h] at hE
    rw [rooS0 (by rw [hE]; decide)]
    unfold roomS
    rw [rowO_full rtO (by omega)]
theorem room3 (r n f a j c : Nat) : oneE (roomS r n f a j c) (op3 j) = (if j < n then 0 else 4) ∧ oneS (roomS r n f a j c) (op3 j) = roomS r n f a (j + 1) c := by
  have hg : ∀ i, i < j → i < n → Nb.ip (nbO i) ≠ Nb.ip (nbO j) := fun i hi _ e => by
    have : i = j := e
    omega
  have hn : lk Nb.ip (rowO n j nbO) (Nb.ip (nbO j)) = none := lk_isNone (rowO_no n j nbO _ hg)
  have hE : oneE (roomS r n f a j c) (op3 j) = (if j < n then 0 else 4) := by
    refine (rooE3 (s := roomS r n f a j c) (o := op3 j) rfl hn).trans ?_
    show (if n ≤ (rowO n j nbO).length then (4 : Int) else 0) = _
    rw [rowO_len]
    exact le_min j n
  refine ⟨hE, ?_⟩
  by_cases h : j < n
  · rw [if_pos h] at hE
    rw [rooS3 (s := roomS r n f a j c) (o := op3 j) rfl hE]
    show (⟨rowO r a rtO, putK Nb.ip (rowO n j nbO) (nbO j), rowO f c fdO, r, n, f⟩ : Ks) = _
    rw [rowO_put nbO hg h]
    rfl
  · rw [if_neg h] at hE
    rw [rooS0 (by rw [hE]; decide)]
    unfold roomS
    rw [rowO_full nbO (by omega)]
theorem mcO_inj {i j : Nat} (e : mcO i = mcO j) : i = j := by
  have h1 : i / 256 = j / 256 := congrArg Mc.b4 e
  have h2 : i % 256 = j % 256 := congrArg Mc.b5 e
  omega
theorem room5 (r n f a b j : Nat) : oneE (roomS r n f a b j) (op5 j) = (if j < f then 0 else 4) ∧ oneS (roomS r n f a b j) (op5 j) = roomS r n f a b (j + 1) := by
  have hg : ∀ i, i < j → i < f → Fd.mac (fdO i) ≠ Fd.mac (fdO j) := fun i hi _ e => by
    have : i = j := mcO_inj e
    omega
  have hn : lk Fd.mac (rowO f j fdO) (Fd.mac (fdO j)) = none := lk_isNone (rowO_no f j fdO _ hg)
  have hE : oneE (roomS r n f a b j) (op5 j) = (if j < f then 0 else 4) := by
    refine (rooE5 (s := roomS r n f a b j) (o := op5 j) rfl hn).trans ?_
    show (if f ≤ (rowO f j fdO).length then (4 : Int) else 0) = _
    rw [rowO_len]
    exact le_min j f
  refine ⟨hE, ?_⟩
  by_cases h : j < f
  · rw [if_pos h] at hE
    rw [rooS5 (s := roomS r n f a b j) (o := op5 j) rfl hE]
    show (⟨rowO r a rtO, rowO n b nbO, putK Fd.mac (rowO f j fdO) (fdO j), r, n, f⟩ : Ks) = _
    rw [rowO_put fdO hg h]
    rfl
  · rw [if_neg h] at hE
    rw [rooS0 (by rw [hE]; decide)]
    unfold roomS
    rw [rowO_full fdO (by omega)]

theorem room_yes (w : World) {n e : Int} {d : Bool} (h : (d = true ∧ n = 1 ∧ e = 0) ∨ (d = false ∧ n = 0 ∧ e = 4)) : Calls Tryz.prog 16 #[.int .i64 n, .int .i64 e, .bool d] w fun r w' => r = .returned (.bool true) ∧ w' = w := by
  rcases h with ⟨rfl, rfl, rfl⟩ | ⟨rfl, rfl, rfl⟩
  · go_enter Tryz.func16, Tryz.ntmps16
    go_wp2_with fail
    go_ret
    exact ⟨rfl, rfl⟩
  · go_enter Tryz.func16, Tryz.ntmps16
    go_wp2_with fail
    go_ret
    exact ⟨rfl, rfl⟩
/-- What one op answers, in numbers. -/
def Ans (b : Prop) (n e : Int) : Prop := (b ∧ n = 1 ∧ e = 0) ∨ (¬ b ∧ n = 0 ∧ e = 4)
theorem Ans.mk' {b : Prop} [Decidable b] {E : Int} (h : E = if b then 0 else 4) : Ans b (((if E = 0 then 1 else 0 : Nat)) : Int) E := by
  by_cases hb : b
  · rw [if_pos hb] at h
    subst h
    exact .inl ⟨hb, rfl, rfl⟩
  · rw [if_neg hb] at h
    subst h
    exact .inr ⟨hb, rfl, rfl⟩
theorem Ans.room {j c : Nat} {n e : Int} (h : Ans (j < c) n e) : (decide (j < c) = true ∧ n = 1 ∧ e = 0) ∨ (decide (j < c) = false ∧ n = 0 ∧ e = 4) := by
  rcases h with ⟨h1, h2⟩ | ⟨h1, h2⟩
  · exact .inl ⟨decide_eq_true h1, h2⟩
  · exact .inr ⟨decide_eq_false h1, h2⟩
theorem wU32 {n : Int} (h0 : 0 ≤ n) (h1 : n < 4294967296) : IntKind.u32.wrap n = n := by simp [IntKind.wrap, IntKind.bits, IntKind.signed]; omega
theorem wU8 {n : Int} (h0 : 0 ≤ n) (h1 : n < 256) : IntKind.u8.wrap n = n := by simp [IntKind.wrap, IntKind.bits, IntKind.signed]; omega
theorem wI64 {n : Int} (h0 : 0 ≤ n) (h1 : n < 256) : IntKind.i64.wrap n = n := by simp [IntKind.wrap, IntKind.bits, IntKind.signed]; omega
def opd (k : Int) (i : Nat) : Opv := ⟨k, ⟨i, 32, 0, false⟩, ⟨0, mcZ⟩, ⟨mcZ, 0⟩⟩
theorem opd_ok {k : Int} {i : Nat} (hk : 0 ≤ k ∧ k ≤ 6) (h : i < 1000) : (opd k i).Ok := ⟨by simp only [opd]; omega, by simp only [opd]; omega, by simp [opd], by simp [opd], by simp [opd], mcZ_ok, mcZ_ok, by simp [opd]⟩
theorem room_end {r n f : Nat} (hok : (roomS r n f 300 300 300).Ok) (hr : 1 ≤ r ∧ r ≤ 256) (hn : n ≤ 256) (hf : f ≤ 256) : doN (roomS r n f 300 300 300) [opd 2 0, opd 1 900, opd 1 901] = 2 ∧ doE (roomS r n f 300 300 300) [opd 2 0, opd 1 900, opd 1 901] = 4 ∧ (doS (roomS r n f 300 300 300) [opd 2 0, opd 1 900, opd 1 901]).R.length = r ∧ (doS (roomS r n f 300 300 300) [opd 2 0, opd 1 900, opd 1 901]).N.length = n ∧ (doS (roomS r n f 300 300 300) [opd 2 0, opd 1 900, opd 1 901]).F.length = f := by
  have hR : Nod Tri.Vt.key (rowO r 300 rtO) := hok.rn
  have hlen : (rowO r 300 rtO).length = r := by rw [rowO_len]; omega
  have hmem : ∀ e ∈ rowO r 300 rtO, e.x < 256 := fun e he => by
    obtain ⟨i, hi, rfl⟩ := List.mem_map.1 he
    have := List.mem_range.1 hi
    show i < 256
    omega
  have h0 : lk Tri.Vt.key (rowO r 300 rtO) (opd 2 0).r.key = some (rtO 0) := lk_mem hR (e := rtO 0) (List.mem_map.2 ⟨0, List.mem_range.2 (by omega), rfl⟩)
  obtain ⟨R1, hR1⟩ : ∃ R1, R1 = delK Tri.Vt.key (rowO r 300 rtO) (opd 2 0).r.key := ⟨_, rfl⟩
  have hl1 : R1.length = r - 1 := by rw [hR1, len_del, h0, hlen]; rfl
  have hn1 : Nod Tri.Vt.key R1 := by rw [hR1]; exact hR.del _
  have hm1 : ∀ e ∈ R1, e.x < 256 := fun e he => hmem e (by rw [hR1] at he; exact ((mem_del hR).1 he).1)
  have h9 : lk Tri.Vt.key R1 (opd 1 900).r.key = none := lk_isNone fun e he h => by
    have h1 : e.x = 900 := congrArg Prod.fst h
    have := hm1 e he
    omega
  obtain ⟨R2, hR2⟩ : ∃ R2, R2 = putK Tri.Vt.key R1 (opd 1 900).r := ⟨_, rfl⟩
  have hl2 : R2.length = r := by rw [hR2, len_put, h9, hl1]; simp; omega
  have h91 : lk Tri.Vt.key R2 (opd 1 901).r.key = none := lk_isNone fun e he h => by
    have h1 : e.x = 901 := congrArg Prod.fst h
    rw [hR2] at he
    rcases (mem_put hn1).1 he with rfl | ⟨h2, _⟩
    · exact absurd h1 (by decide)
    · have := hm1 e h2
      omega
  have e1 : oneE (roomS r n f 300 300 300) (opd 2 0) = 0 := rooE2 (o := opd 2 0) rfl (val32 0)
  have s1 : oneS (roomS r n f 300 300 300) (opd 2 0) = ⟨R1, rowO n 300 nbO, rowO f 300 fdO, r, n, f⟩ := by
    rw [rooS2 (o := opd 2 0) rfl e1, hR1]
    rfl
  have e2 : oneE ⟨R1, rowO n 300 nbO, rowO f 300 fdO, r, n, f⟩ (opd 1 900) = 0 := by
    refine (rooE1 (s := ⟨R1, rowO n 300 nbO, rowO f 300 fdO, r, n, f⟩) (o := opd 1 900) rfl (val32 900) rfl h9).trans ?_
    show (if r ≤ R1.length then (4 : Int) else 0) = 0
    rw [hl1, if_neg (by omega)]
  have s2 : oneS ⟨R1, rowO n 300 nbO, rowO f 300 fdO, r, n, f⟩ (opd 1 900) = ⟨R2, rowO n 300 nbO, rowO f 300 fdO, r, n, f⟩ := by
    rw [rooS1 (o := opd 1 900) rfl e2, hR2]
  have e3 : oneE ⟨R2, rowO n 300 nbO, rowO f 300 fdO, r, n, f⟩ (opd 1 901) = 4 := by
    refine (rooE1 (s := ⟨R2, rowO n 300 nbO, rowO f 300 fdO, r, n, f⟩) (o := opd 1 901) rfl (val32 901) rfl h91).trans ?_
    show (if r ≤ R2.length then (4 : Int) else 0) = 4
    rw [hl2, if_pos (Nat.le_refl _)]
  have hD : doS (roomS r n f 300 300 300) [opd 2 0, opd 1 900, opd 1 901] = ⟨R2, rowO n 300 nbO, rowO f 300 fdO, r, n, f⟩ := by
    simp [doS, e1, s1, e2, s2, e3]
  refine ⟨by simp [doN, e1, s1, e2, s2, e3], by simp [doE, e1, s1, e2, s2, e3], ?_, ?_, ?_⟩
  · rw [hD]; exact hl2
  · rw [hD]; show (rowO n 300 nbO).length = n; rw [rowO_len]; omega
  · rw [hD]; show (rowO f 300 fdO).length = f; rw [rowO_len]; omega
theorem sees_three {w : World} {g : Nat} {o1 o2 o3 : Opv} {cs : Array Value} (h : w.heap[g]? = some (.cells cs 57)) (hc : cs = o1.cells ++ o2.cells ++ o3.cells) : SeesOp (fun c => c = g) w (some ⟨g, 0, none⟩) 3 [o1, o2, o3] := by
  refine ⟨rfl, .inr ⟨g, 0, rfl, rfl, (Array.getElem?_eq_some_iff.1 h).1, fun j o ho i v hv => ?_⟩⟩
  have hl : i < o.cells.toList.length := (List.getElem?_eq_some_iff.1 hv).1
  have h19 : o.cells.toList.length = 19 := rfl
  rw [h19] at hl
  have s1 : o1.cells.size = 19 := rfl
  have s2 : o2.cells.size = 19 := rfl
  rw [cell_of_row _ _ _ _ _ _ h, hc, Array.getElem?_append, Array.getElem?_append, Array.size_append, s1, s2, ← hv]
  match j, ho with
  | 0, ho => obtain rfl := Option.some.inj ho; rw [if_pos (by omega), if_pos (by omega), show 0 + 0 * 19 + i = i by omega, Array.getElem?_toList]
  | 1, ho => obtain rfl := Option.some.inj ho; rw [if_pos (by omega), if_neg (by omega), show 0 + 1 * 19 + i - 19 = i by omega, Array.getElem?_toList]
  | 2, ho => obtain rfl := Option.some.inj ho; rw [if_neg (by omega), show 0 + 2 * 19 + i - (19 + 19) = i by omega, Array.getElem?_toList]
  | j + 3, ho => cases ho

end Go.Proofs.YtpdokaoholifkabGreat.Rt
