import Derived.Test.YtkkfioebpppffaaGreatDoorEA
import Derived.Test.YtkkfioebpppffaaGreatDoorED
import Derived.Laws.CopyOwn
import Derived.Test.YtkkfioebpppffaaGreatDoorEE
namespace Go.Proofs.YtkkfioebpppffaaGreatDoor.N.Im
open M

/-- A control message. -/
structure Ct where
  t : Nat
  c : Nat
  r : Nat
  B : List Nat

structure Ct.Ok (m : Ct) : Prop where
  t : m.t < 256
  c : m.c < 256
  r : m.r < 4294967296

/-- What lies behind the sum's field. -/
def tail (m : Ct) : List Nat := m.r / 65536 / 256 :: m.r / 65536 % 256 :: m.r % 65536 / 256 :: m.r % 65536 % 256 :: m.B

/-- A message with that in its sum's place. -/
def msg (m : Ct) (s : Nat) : List Nat := m.t :: m.c :: s / 256 :: s % 256 :: tail m

/-- A message with its sum. -/
def laid (m : Ct) : List Nat := msg m (csum (msg m 0))

theorem msg_len (m : Ct) (s : Nat) : (msg m s).length = 8 + m.B.length := by simp [msg, tail]; omega
theorem laid_len (m : Ct) : (laid m).length = 8 + m.B.length := msg_len _ _

theorem tot_msg (m : Ct) (s : Nat) : tot false (msg m s) = tot false (msg m 0) + s := by
  simp only [msg, tot]; simp; omega

theorem csum_laid (m : Ct) : csum (laid m) = 0 := by
  unfold laid
  generalize hT : csum (msg m 0) = s
  unfold csum at hT ⊢
  rw [tot_msg]
  generalize tot false (msg m 0) = T at *
  subst hT
  unfold fold
  by_cases h0 : T = 0
  · subst h0; simp
  · rw [if_neg h0, if_neg (by omega)]
    omega

theorem msg_bytes {m : Ct} (h : m.Ok) (hb : ∀ x ∈ m.B, x < 256) {s : Nat} (hs : s < 65536) : ∀ x ∈ msg m s, x < 256 := by
  obtain ⟨h1, h2, h3⟩ := h
  intro x hx
  simp only [msg, tail, List.mem_cons] at hx
  rcases hx with rfl | rfl | rfl | rfl | rfl | rfl | rfl | rfl | hx
  · exact h1
  · exact h2
  · omega
  · omega
  · omega
  · omega
  · omega
  · omega
  · exact hb x hx

theorem laid_bytes {m : Ct} (h : m.Ok) (hb : ∀ x ∈ m.B, x < 256) : ∀ x ∈ laid m, x < 256 := msg_bytes h hb (csum_lt _)

/-- The error of reading. -/
def prE (L : List Nat) : Int := if L.length < 8 then 30 else if 65515 < L.length then 37 else if csum L = 0 then 0 else 33

def at0 (L : List Nat) (i : Nat) : Nat := L.getD i 0

def rest4 (L : List Nat) : Nat := (at0 L 4 * 256 + at0 L 5) * 65536 + (at0 L 6 * 256 + at0 L 7)

def none0 : Ct := ⟨0, 0, 0, []⟩

/-- What is read. -/
def prC (L : List Nat) : Ct := if prE L = 0 then ⟨at0 L 0, at0 L 1, rest4 L, L.drop 8⟩ else none0

theorem at0_lt {L : List Nat} (h : ∀ x ∈ L, x < 256) (i : Nat) : at0 L i < 256 := by
  unfold at0
  rw [List.getD_eq_getElem?_getD]
  cases e : L[i]? with
  | none => simp
  | some x => exact h x (List.mem_of_getElem? e)

theorem rest4_lt {L : List Nat} (h : ∀ x ∈ L, x < 256) : rest4 L < 4294967296 := by
  have h4 := at0_lt h 4
  have h5 := at0_lt h 5
  have h6 := at0_lt h 6
  have h7 := at0_lt h 7
  unfold rest4; omega

theorem none_ok : none0.Ok := ⟨by decide, by decide, by decide⟩

theorem prC_ok {L : List Nat} (h : ∀ x ∈ L, x < 256) : (prC L).Ok := by
  unfold prC
  split
  · exact ⟨at0_lt h 0, at0_lt h 1, rest4_lt h⟩
  · exact none_ok

theorem prC_bytes {L : List Nat} (h : ∀ x ∈ L, x < 256) : ∀ x ∈ (prC L).B, x < 256 := by
  unfold prC
  split
  · intro x hx; exact h x (List.mem_of_mem_drop hx)
  · intro x hx; cases hx

theorem prC_len (L : List Nat) : (prC L).B.length ≤ 65507 := by
  unfold prC
  split
  · rename_i h
    unfold prE at h
    split at h
    · cases h
    · split at h
      · cases h
      · show (L.drop 8).length ≤ 65507
        rw [List.length_drop]; omega
  · simp [none0]

theorem prE_cases (L : List Nat) : prE L = 0 ∨ prE L = 30 ∨ prE L = 37 ∨ prE L = 33 := by
  unfold prE
  split
  · simp
  · split
    · simp
    · split <;> simp

/-- What was laid is read back. -/
theorem prE_laid (m : Ct) (hl : m.B.length ≤ 65507) : prE (laid m) = 0 := by
  unfold prE
  rw [laid_len, if_neg (by omega), if_neg (by omega), if_pos (csum_laid m)]

theorem prC_laid (m : Ct) (h : m.Ok) (hl : m.B.length ≤ 65507) : prC (laid m) = m := by
  obtain ⟨h1, h2, h3⟩ := h
  unfold prC
  rw [if_pos (prE_laid m hl)]
  obtain ⟨t, c, r, B⟩ := m
  simp only at h3
  simp only [laid, msg, tail, at0, rest4, List.getD_cons_zero, List.getD_cons_succ, List.drop_succ_cons, List.drop_zero]
  congr 1
  omega

/-- What is built. -/
def bdE (m : Ct) : Int := if 65507 < m.B.length then 37 else 0
def bdL (m : Ct) : List Nat := if 65507 < m.B.length then [] else laid m

theorem tot_set (L : List Nat) : ∀ (o : Bool) (i y : Nat), i < L.length → ∃ wt, (wt = 1 ∨ wt = 256) ∧ tot o (L.set i y) + wt * L.getD i 0 = tot o L + wt * y := by
  induction L with
  | nil => intro o i y h; simp at h
  | cons x L ih =>
    intro o i y h
    cases i with
    | zero =>
      cases o
      · exact ⟨256, .inr rfl, by simp only [List.set_cons_zero, tot, List.getD_cons_zero]; simp; omega⟩
      · exact ⟨1, .inl rfl, by simp only [List.set_cons_zero, tot, List.getD_cons_zero]; simp; omega⟩
    | succ i =>
      obtain ⟨wt, h1, h2⟩ := ih (!o) i y (by simpa using h)
      refine ⟨wt, h1, ?_⟩
      simp only [List.set_cons_succ, tot, List.getD_cons_succ]
      omega

theorem csum_zero {L : List Nat} (h : csum L = 0) : tot false L ≠ 0 ∧ tot false L % 65535 = 0 := by
  unfold csum fold at h
  split at h
  · omega
  · omega

/-- One bit. -/
def IsBit (m : Nat) : Prop := m = 1 ∨ m = 2 ∨ m = 4 ∨ m = 8 ∨ m = 16 ∨ m = 32 ∨ m = 64 ∨ m = 128

theorem csum_flip {L : List Nat} {i x y m : Nat} (hi : i < L.length) (hx : L.getD i 0 = x) (hm : IsBit m) (hxy : y = x + m ∨ x = y + m) (h0 : csum L = 0) : csum (L.set i y) ≠ 0 := by
  intro h1
  obtain ⟨a1, a2⟩ := csum_zero h0
  obtain ⟨b1, b2⟩ := csum_zero h1
  obtain ⟨wt, hw, e⟩ := tot_set L false i y hi
  rw [hx] at e
  generalize tot false (L.set i y) = T' at *
  generalize tot false L = T at *
  unfold IsBit at hm
  rcases hw with rfl | rfl <;> rcases hm with rfl | rfl | rfl | rfl | rfl | rfl | rfl | rfl <;> omega

/-- What was read is a message. -/
theorem msg_read {L : List Nat} (hb : ∀ x ∈ L, x < 256) (h : prE L = 0) : L = msg (prC L) (at0 L 2 * 256 + at0 L 3) ∧ at0 L 2 * 256 + at0 L 3 < 65536 := by
  have h2 := at0_lt hb 2
  have h3 := at0_lt hb 3
  refine ⟨?_, by omega⟩
  unfold prC
  rw [if_pos h]
  have hl : 8 ≤ L.length := by
    unfold prE at h
    split at h
    · cases h
    · omega
  match L, hl with
  | a :: b :: c :: d :: e :: f :: g :: k :: B, _ =>
    have q : ∀ x ∈ [a, b, c, d, e, f, g, k], x < 256 := fun x hx => hb x (by simp only [List.mem_cons, List.not_mem_nil, or_false] at hx ⊢; rcases hx with h | h | h | h | h | h | h | h <;> simp [h])
    simp only [List.mem_cons, List.not_mem_nil, or_false, forall_eq_or_imp, forall_eq] at q
    obtain ⟨qa, qb, qc, qd, qe, qf, qg, qk⟩ := q
    simp only [msg, tail, at0, rest4, List.getD_cons_zero, List.getD_cons_succ, List.drop_succ_cons, List.drop_zero]
    congr 1; congr 1
    congr 1
    · omega
    · congr 1
      · omega
      · congr 1
        · omega
        · congr 1
          · omega
          · congr 1
            · omega
            · congr 1
              omega

/-- The sum of what was read, laid anew. -/
theorem sum_read {L : List Nat} (hb : ∀ x ∈ L, x < 256) (h : prE L = 0) :
    at0 L 2 * 256 + at0 L 3 = csum (msg (prC L) 0) ∨ (at0 L 2 * 256 + at0 L 3 = 65535 ∧ csum (msg (prC L) 0) = 0) := by
  obtain ⟨e, hs⟩ := msg_read hb h
  have h0 : csum L = 0 := by
    unfold prE at h
    split at h
    · cases h
    · split at h
      · cases h
      · split at h
        · assumption
        · cases h
  obtain ⟨a1, a2⟩ := csum_zero h0
  rw [e, tot_msg] at a1 a2
  generalize at0 L 2 * 256 + at0 L 3 = s at *
  unfold csum fold
  generalize tot false (msg (prC L) 0) = T at *
  split <;> omega
end Go.Proofs.YtkkfioebpppffaaGreatDoor.N.Im

namespace Go.Proofs.YtkkfioebpppffaaGreatDoor.N
open Go.ChangeShapes Go.WideShapes Go.ChangeAt Go.RowKit
set_option maxHeartbeats 1000000
set_option maxRecDepth 100000

theorem or_u32k (k x y : Nat) (hx : 2 ^ k * x + y < 4294967296) (hy : y < 2 ^ k) : bits .or .u32 ((2 ^ k * x : Nat) : Int) (y : Int) = ((2 ^ k * x + y : Nat) : Int) := by
  rw [u32_or_nat (2 ^ k * x) y (by omega) (by omega)]
  congr 1
  exact (Nat.two_pow_add_eq_or_of_lt (i := k) (b := y) hy x).symm

theorem or4 (a b c d : Nat) (ha : a < 256) (hb : b < 256) (hc : c < 256) (hd : d < 256) :
    bits .or .u32 (bits .or .u32 (bits .or .u32 ((a * 16777216 : Nat) : Int) ((b * 65536 : Nat) : Int)) ((c * 256 : Nat) : Int)) (d : Int) = (((a * 256 + b) * 65536 + (c * 256 + d) : Nat) : Int) := by
  have h1 := or_u32k 24 a (b * 65536) (by omega) (by omega)
  rw [show 2 ^ 24 * a = a * 16777216 by omega] at h1
  rw [h1]
  have h2 := or_u32k 16 (a * 256 + b) (c * 256) (by omega) (by omega)
  rw [show 2 ^ 16 * (a * 256 + b) = a * 16777216 + b * 65536 by omega] at h2
  rw [h2]
  have h3 := or_u32k 8 (a * 65536 + b * 256 + c) d (by omega) (by omega)
  rw [show 2 ^ 8 * (a * 65536 + b * 256 + c) = a * 16777216 + b * 65536 + c * 256 by omega] at h3
  rw [h3]
  exact congrArg Nat.cast (show a * 16777216 + b * 65536 + c * 256 + d = (a * 256 + b) * 65536 + (c * 256 + d) by omega)

theorem iread32_any (v : Value) (L : List Nat) (w : World) (hv : SeesB w v L) (hl : 4 ≤ L.length) :
    Calls Tryz.prog 105 #[v] w fun e w' => e = .returned (.int .u32 (((byt L 0 * 256 + byt L 1) * 65536 + (byt L 2 * 256 + byt L 3) : Nat) : Int)) ∧ Below w.heap.size w w' := by
  obtain ⟨ao, n, cap, rfl, HN, hn1, hn2⟩ := hv.shape
  have h2 : 4 ≤ n := by have := HN.out; omega
  obtain ⟨g, off, rfl, hg, hc0⟩ := hv.atB 0 (by omega)
  obtain ⟨g', off', he, hg', hc1⟩ := hv.atB 1 (by omega)
  simp at he
  obtain ⟨rfl, rfl⟩ := he
  obtain ⟨g', off', he, hg', hc2⟩ := hv.atB 2 (by omega)
  simp at he
  obtain ⟨rfl, rfl⟩ := he
  obtain ⟨g', off', he, hg', hc3⟩ := hv.atB 3 (by omega)
  simp at he
  obtain ⟨rfl, rfl⟩ := he
  have ha := byt_lt hv.bytes 0
  have hb := byt_lt hv.bytes 1
  have hc := byt_lt hv.bytes 2
  have hd := byt_lt hv.bytes 3
  have HR := hid (or4 _ _ _ _ ha hb hc hd)
  generalize (byt L 0 * 256 + byt L 1) * 65536 + (byt L 2 * 256 + byt L 3) = r at *
  generalize byt L 0 = p at *
  generalize byt L 1 = q at *
  generalize byt L 2 = s at *
  generalize byt L 3 = t at *
  clear hv
  rw [Nat.add_zero] at hc0
  have b0 : (0 : Int) < (n : Int) := by omega
  have b1 : (1 : Int) < (n : Int) := by omega
  have b2 : (2 : Int) < (n : Int) := by omega
  have b3 : (3 : Int) < (n : Int) := by omega
  go_enter Tryz.func105, Tryz.ntmps105
  go_wp2_with fail
  go_quiet (fail)
  go_wp2_with fail
  go_ret
  exact ⟨ret_int (by rw [← HR.out]; simp), below_drewN (Below.refl _ _) _⟩
end Go.Proofs.YtkkfioebpppffaaGreatDoor.N

namespace Go.Proofs.YtkkfioebpppffaaGreatDoor.N
open Go.ChangeShapes Go.WideShapes Go.ChangeAt Go.RowKit
set_option maxHeartbeats 2000000
set_option maxRecDepth 100000

def ctCells (m : Im.Ct) (vb : Value) : Array Value := #[.int .u8 (m.t : Int), .int .u8 (m.c : Int), .int .u32 (m.r : Int), vb]

theorem ct_at {u : World} {n : Nat} {m : Im.Ct} {vb : Value} {t : TypeId} (hb : u.heap[n]? = some (.cells (ctCells m vb) t)) :
    u.cell? ⟨n, 0, none⟩ = some (.int .u8 (m.t : Int)) ∧ u.cell? ⟨n, 1, none⟩ = some (.int .u8 (m.c : Int)) ∧ u.cell? ⟨n, 2, none⟩ = some (.int .u32 (m.r : Int)) ∧ u.cell? ⟨n, 3, none⟩ = some vb := by
  refine ⟨?_, ?_, ?_, ?_⟩ <;> (rw [cell_of_row u _ _ _ _ _ hb]; rfl)

theorem splice8 (a b c d e f g h : Nat) (R B : List Nat) (hl : B.length = R.length) : splice (a :: b :: c :: d :: e :: f :: g :: h :: R) 8 B = a :: b :: c :: d :: e :: f :: g :: h :: B := by
  unfold splice
  simp [hl]
  omega

theorem But.boxed {g n : Nat} {w w' : World} (h : But g w w') (hn : n < w.heap.size) (hne : n ≠ g) {o : Obj} (ho : w.heap[n]? = some o) : w'.heap[n]? = some o := (h.block n hn hne).trans ho

theorem But.alloc {g : Nat} {w w' : World} (h : But g w w') (o : Obj) : But g w (w'.alloc o) := by
  have hb := (Below.refl w'.heap.size w').alloc (Nat.le_refl _) o
  exact ⟨hb.os.trans h.os, hb.tape.trans h.tape, hb.output.trans h.output, Nat.le_trans h.size hb.size, fun i hi hn => (hb.block i (Nat.lt_of_lt_of_le hi h.size)).trans (h.block i hi hn)⟩

end Go.Proofs.YtkkfioebpppffaaGreatDoor.N

namespace Go.Proofs.YtkkfioebpppffaaGreatDoor.N
open Go.ChangeShapes Go.WideShapes Go.ChangeAt Go.RowKit
set_option maxHeartbeats 2000000
set_option maxRecDepth 100000

end Go.Proofs.YtkkfioebpppffaaGreatDoor.N

namespace Go.Proofs.YtkkfioebpppffaaGreatDoor.N
open Go.ChangeShapes Go.WideShapes Go.ChangeAt Go.RowKit
set_option maxHeartbeats 2000000
set_option maxRecDepth 100000

theorem size_ct : (Tryz.prog.info? 154).map (·.size) = some 4 := by kernel_rfl

theorem load_cell {w : World} {b : Nat} {pa : Array Value} {T : TypeId} {fs : Array Field} (h : w.there b 0 pa.size) (hu : Tryz.prog.underlying T = some (.struct fs)) (hi : (Tryz.prog.info? T).map (·.size) = some pa.size) :
    (loadVar T ⟨b, 0, none⟩).run Tryz.prog (w.setCells b 0 pa.toList) = .ok (.agg pa) (w.setCells b 0 pa.toList) :=
  run_loadVar_mid _ b 0 T pa.toList (.struct fs) (World.rangeAt_setCells_same w b 0 pa.toList (by rw [Array.length_toList]; exact h)) hu rfl (by rw [Array.length_toList]; exact hi)

theorem ct_load {u : World} {n : Nat} {C : Array Value} (hC : C.size = 4) (hb : u.heap[n]? = some (.cells C 154 (0, 0))) : (Instr.loadAt 154 (.pointer (some ⟨n, 0, none⟩))).run Tryz.prog u = .ok (.agg C) u := by
  refine run_loadAt_mid u n 0 154 C.toList (.struct _) (fun j v hv => ?_) Tryz.underlying154 rfl (by rw [Array.length_toList, hC]; exact size_ct)
  rw [Nat.zero_add, cell_of_row _ _ _ _ _ _ hb, ← hv, Array.getElem?_toList]

def zeroC : Array Value := #[.int .u8 0, .int .u8 0, .int .u32 0, .slice none 0 0]

theorem iparse_bad (v : Value) (L : List Nat) (w : World) (hv : SeesB w v L) (he : Im.prE L ≠ 0) :
    Calls Tryz.prog 94 #[v] w fun e w' => e = .returned (.tuple #[.agg zeroC, .int .i64 (Im.prE L)]) ∧ Below w.heap.size w w' := by
  obtain ⟨zz, hzz⟩ : ∃ zz : Array Value, zz = zeroC := ⟨_, rfl⟩
  obtain ⟨w1, hw1⟩ : ∃ w1, w1 = w.alloc (.cells zeroC 154) := ⟨_, rfl⟩
  have hb1 : Below w.heap.size w w1 := by rw [hw1]; exact (Below.refl _ _).alloc (Nat.le_refl _) _
  have hs1 : w1.heap.size = w.heap.size + 1 := by rw [hw1]; simp
  have HTH : Hid (∀ u, Below w1.heap.size w1 u → u.there w.heap.size 0 zz.size) := fun u hu => by
    rw [hzz]
    refine there_blk (C := zeroC) (t := 154) ?_ rfl
    rw [hu.block _ (by omega), hw1]
    exact heap_alloc_new w _
  have HW1 : Hid (w1 = w.alloc (.cells #[.int .u8 0, .int .u8 0, .int .u32 0, .slice none 0 0] 154)) := hw1
  have HB1 := hid hb1
  have HZ : Hid (zz = #[.int .u8 0, .int .u8 0, .int .u32 0, .slice none 0 0]) := hzz
  have HONE : Hid (zz.all (·.oneCell') = true) := by unfold Hid; rw [hzz]; simp [zeroC, Value.oneCell']
  have HINF : Hid ((Tryz.prog.info? 154).map (·.size) = some zz.size) := by unfold Hid; rw [hzz]; exact size_ct
  obtain ⟨ao, n, cap, rfl, HN, hn1, hn2⟩ := hv.shape
  unfold maxLen at hn2
  rw [← hzz]
  have HLV : Hid (∀ u, Below w1.heap.size w1 u → (loadVar 154 ⟨w.heap.size, 0, none⟩).run Tryz.prog (u.setCells w.heap.size 0 zz.toList) = .ok (.agg zz) (u.setCells w.heap.size 0 zz.toList)) := fun u hu => load_cell (HTH.out u hu) Tryz.underlying154 HINF.out
  have HBF : Hid (∀ u, Below w1.heap.size w1 u → Below w.heap.size w (u.setCells w.heap.size 0 zz.toList)) := fun u hu => below_setCells (Nat.le_refl _) _ _ _ (HB1.out.trans (hu.mono HB1.out.size))
  have HPE : Hid (Im.prE L = if n < 8 then 30 else if 65515 < n then 37 else if M.csum L = 0 then 0 else 33) := by unfold Hid; rw [HN.out]; rfl
  by_cases h8 : n < 8
  · have HE : Hid (Im.prE L = 30) := by unfold Hid; rw [HPE.out, if_pos h8]
    have h0 := Below.refl w1.heap.size w1
    have HTZ := hid (HTH.out _ h0)
    have HLV := hid (HLV.out _ h0)
    have HBF := hid (HBF.out _ h0)
    clear hw1 hb1 hs1 hv he hzz HPE h0
    go_enter Tryz.func94, Tryz.ntmps94
    go_upto_region 1 with fail
    rw [← HW1.out]
    go_wp2_with (first
      | (refine wpList_store_mid rfl 154 (.tmp 2) (.tmp 9) rfl w.heap.size 0 zz rfl (by rw [HZ.out]; rfl) HTZ.out HINF.out HONE.out ?_)
      | fail)
    generalize w1.setCells w.heap.size 0 zz.toList = wf at HLV HBF ⊢
    refine bodyPost_ret (v := .tuple #[.agg zz, .int .i64 30]) (by simp [results, Tryz.results94, asAddr, HLV.out]) rfl ?_
    exact ⟨by rw [HE.out], HBF.out⟩
  · by_cases hB : 65515 < n
    · have HE : Hid (Im.prE L = 37) := by unfold Hid; rw [HPE.out, if_neg h8, if_pos hB]
      have h0 := Below.refl w1.heap.size w1
      have HTZ := hid (HTH.out _ h0)
      have HLV := hid (HLV.out _ h0)
      have HBF := hid (HBF.out _ h0)
      clear hw1 hb1 hs1 hv he hzz HPE h0
      go_enter Tryz.func94, Tryz.ntmps94
      go_upto_region 1 with fail
      rw [← HW1.out]
      go_wp2_with (first
        | (refine wpList_store_mid rfl 154 (.tmp 2) (.tmp 14) rfl w.heap.size 0 zz rfl (by rw [HZ.out]; rfl) HTZ.out HINF.out HONE.out ?_)
        | fail)
      generalize w1.setCells w.heap.size 0 zz.toList = wf at HLV HBF ⊢
      refine bodyPost_ret (v := .tuple #[.agg zz, .int .i64 37]) (by simp [results, Tryz.results94, asAddr, HLV.out]) rfl ?_
      exact ⟨by rw [HE.out], HBF.out⟩
    · have hc : M.csum L ≠ 0 := fun h => he (by rw [HPE.out, if_neg h8, if_neg hB, if_pos h])
      have HE : Hid (Im.prE L = 33) := by unfold Hid; rw [HPE.out, if_neg h8, if_neg hB, if_neg hc]
      have hs := seesBB_one (w := w1) rfl _ _ (hv.below hb1) 31
      have HSM0 := sum_code _ _ _ hs (by simp; have := HN.out; omega)
      rw [show [L].flatten = L by simp] at HSM0
      have HSM : Hid (Calls Tryz.prog 85 #[.slice (some ⟨w1.heap.size, 0, none⟩) 1 1] (w1.alloc (.cells #[.slice ao n cap] 31)) fun e w' => e = .returned (.int .u16 ((M.csum L : Nat) : Int)) ∧ Below w1.heap.size w1 w') := by
        refine HSM0.mono ?_
        rintro e w' ⟨rfl, hb⟩
        have hbA : Below w1.heap.size w1 (w1.alloc (.cells #[.slice ao n cap] 31)) := (Below.refl w1.heap.size w1).alloc (Nat.le_refl _) _
        exact ⟨rfl, hbA.trans (hb.mono hbA.size)⟩
      generalize M.csum L = s at *
      have hq : ((s : Int) != 0) = true := by simp; omega
      clear hw1 hb1 hs1 hv he hzz HPE hs HSM0 hc
      go_enter Tryz.func94, Tryz.ntmps94
      go_upto_region 1 with fail
      rw [← HW1.out]
      go_wp2_with fail
      refine HSM.out.mono ?_
      rintro _ w2 ⟨rfl, hb2⟩
      have HTZ := hid (HTH.out _ hb2)
      have HLV := hid (HLV.out _ hb2)
      have HBF := hid (HBF.out _ hb2)
      go_wp2_with (first
        | (refine wpList_store_mid rfl 154 (.tmp 2) (.tmp 20) rfl w.heap.size 0 zz rfl (by rw [HZ.out]; rfl) HTZ.out HINF.out HONE.out ?_)
        | fail)
      generalize w2.setCells w.heap.size 0 zz.toList = wf at HLV HBF ⊢
      refine bodyPost_ret (v := .tuple #[.agg zz, .int .i64 33]) (by simp [results, Tryz.results94, asAddr, HLV.out]) rfl ?_
      exact ⟨by rw [HE.out], HBF.out⟩

theorem sees_setI {w : World} {ao : Option Addr} {n cap b : Nat} {L : List Nat} {vs : List Value} (h : SeesB w (.slice ao n cap) L) (hne : ∀ a, ao = some a → a.block ≠ b) : SeesB (w.setCells b 0 vs) (.slice ao n cap) L := by
  obtain ⟨ao', cap', hv, h1, h2, h3⟩ := h
  simp at hv
  obtain ⟨rfl, hn, rfl⟩ := hv
  refine ⟨ao, cap, by rw [hn], h1, h2, fun j hj => ?_⟩
  obtain ⟨g, off, ha, hg, hc, hb⟩ := h3 j hj
  have hg' := hne _ ha
  have e := World.cell?_setCells_out b vs 0 w ⟨g, off + j, none⟩ (fun hb _ => absurd hb hg')
  exact ⟨g, off, ha, World.block_lt_of_cell? _ ⟨g, off + j, none⟩ (e.trans hc), e.trans hc, hb⟩

theorem idx_at (n cap g off m : Nat) (i : Int) (hi : i = (m : Int)) (hm : m < n) (u : World) : (Instr.indexAt 31 (.slice (some ⟨g, off, none⟩) n cap) (.int .i64 i)).run Tryz.prog u = .ok (.pointer (some ⟨g, off + m, none⟩)) u := by
  subst hi
  have hu : Tryz.prog.underlying 31 = some (.slice 5) := by kernel_rfl
  have hsz : (sizeOf 5).run Tryz.prog u = .ok 1 u := by kernel_rfl
  simp [Instr.indexAt, run_underlying hu, asIntOf, go_sem, hsz, Result.andThen]
  omega

theorem load_u8 {u : World} {p : Addr} {x : Int} (h : u.cell? p = some (.int .u8 x)) : (Instr.loadAt 5 (.pointer (some p))).run Tryz.prog u = .ok (.int .u8 x) u := by
  simp [Instr.loadAt, go_sem, h]

theorem build_ct (a b c : Int) (p : Option Addr) (n cap : Nat) (u : World) : (Instr.build 154 #[(0, .int .u8 a), (1, .int .u8 b), (2, .int .u32 c), (3, .slice p n cap)]).run Tryz.prog u = .ok (.agg #[.int .u8 a, .int .u8 b, .int .u32 c, .slice p n cap]) u := by
  simp [Instr.build, run_underlying Tryz.underlying154, go_sem]

theorem rest_drop (L : List Nat) : Im.rest4 L = (byt (L.drop 4) 0 * 256 + byt (L.drop 4) 1) * 65536 + (byt (L.drop 4) 2 * 256 + byt (L.drop 4) 3) := by
  unfold Im.rest4 Im.at0 byt
  simp only [List.getD_eq_getElem?_getD, List.getElem?_drop]

theorem iparse_good (v : Value) (L : List Nat) (w : World) (hv : SeesB w v L) (he : Im.prE L = 0) :
    Calls Tryz.prog 94 #[v] w fun e w' => ∃ g k, e = .returned (.tuple #[.agg (ctCells (Im.prC L) (.slice (some ⟨g, 0, none⟩) k k)), .int .i64 0]) ∧ SeesB w' (.slice (some ⟨g, 0, none⟩) k k) (Im.prC L).B ∧ w.heap.size ≤ g ∧ Below w.heap.size w w' := by
  have hC : Im.prC L = ⟨byt L 0, byt L 1, Im.rest4 L, L.drop 8⟩ := by unfold Im.prC; rw [if_pos he]; rfl
  rw [hC, rest_drop]
  obtain ⟨w1, hw1⟩ : ∃ w1, w1 = w.alloc (.cells zeroC 154) := ⟨_, rfl⟩
  have hb1 : Below w.heap.size w w1 := by rw [hw1]; exact (Below.refl _ _).alloc (Nat.le_refl _) _
  have hs1 : w1.heap.size = w.heap.size + 1 := by rw [hw1]; simp
  obtain ⟨ao, n, cap, rfl, HN, hn1, hn2⟩ := hv.shape
  unfold maxLen at hn2
  have h8 : 8 ≤ n ∧ n ≤ 65515 ∧ M.csum L = 0 := by
    rw [HN.out]
    unfold Im.prE at he
    split at he
    · cases he
    · split at he
      · cases he
      · split at he
        · omega
        · cases he
  obtain ⟨h8, hB, hc⟩ := h8
  have hs := seesBB_one (w := w1) rfl _ _ (hv.below hb1) 31
  have HSM0 := sum_code _ _ _ hs (by simp; have := HN.out; omega)
  rw [show [L].flatten = L by simp, hc] at HSM0
  have HSM : Hid (Calls Tryz.prog 85 #[.slice (some ⟨w1.heap.size, 0, none⟩) 1 1] (w1.alloc (.cells #[.slice ao n cap] 31)) fun e w' => e = .returned (.int .u16 0) ∧ Below w1.heap.size w1 w') := by
    refine HSM0.mono ?_
    rintro e w' ⟨rfl, hb⟩
    have hbA : Below w1.heap.size w1 (w1.alloc (.cells #[.slice ao n cap] 31)) := (Below.refl w1.heap.size w1).alloc (Nat.le_refl _) _
    exact ⟨rfl, hbA.trans (hb.mono hbA.size)⟩
  obtain ⟨k, hk⟩ : ∃ k, k = n - 8 := ⟨_, rfl⟩
  have hmk : ∀ u : World, (Instr.makeSlice 31 (.int .i64 ((n : Int) - 8)) (.int .i64 ((n : Int) - 8))).run Tryz.prog u = .ok (.slice (some ⟨u.heap.size, 0, none⟩) k k) (u.alloc (.cells (madeCells #[.int .u8 0] k) 5)) := by
    rw [show (n : Int) - 8 = (k : Int) by omega]
    exact make_bytes k (by omega)
  obtain ⟨a8, HS8, hl8⟩ := hv.low 8 8 rfl (by omega)
  obtain ⟨a4, HS4, hl4⟩ := hv.low 4 4 rfl (by omega)
  rw [show n - 8 = k by omega] at hl8 HS8
  obtain ⟨g0, off, rfl, hg0, hc0⟩ := hv.atB 0 (by omega)
  obtain ⟨g1, off1, he1, _, hc1⟩ := hv.atB 1 (by omega)
  simp at he1
  obtain ⟨rfl, rfl⟩ := he1
  have HKL : Hid ((L.drop 8).length = k) := by unfold Hid; rw [List.length_drop]; have := HN.out; omega
  have HK := hid hk
  have HRL := hid (show 4 ≤ (L.drop 4).length by rw [List.length_drop]; have := HN.out; omega)
  have HSV := hid hv
  have HW1 : Hid (w1 = w.alloc (.cells #[.int .u8 0, .int .u8 0, .int .u32 0, .slice none 0 0] 154)) := hw1
  have HB1 := hid hb1
  have HTH : Hid (∀ u, Below w1.heap.size w1 u → u.there w.heap.size 0 4) := fun u hu => by
    refine there_blk (C := zeroC) (t := 154) ?_ rfl
    rw [hu.block _ (by omega), hw1]
    exact heap_alloc_new w _
  rw [Nat.add_zero] at hc0
  have b0 : (0 : Int) < (n : Int) := by omega
  have b1 : (1 : Int) < (n : Int) := by omega
  have HS1 := hid hs1
  generalize byt L 0 = x0 at *
  generalize byt L 1 = x1 at *
  clear hw1 hb1 hs1 hv hs HSM0 hc hC he hk
  go_enter Tryz.func94, Tryz.ntmps94
  go_upto_region 1 with fail
  rw [← HW1.out]
  go_wp2_with fail
  refine HSM.out.mono ?_
  rintro _ w2 ⟨rfl, hb2⟩
  have HBW : Hid (∀ u, Below w1.heap.size w1 u → Below w.heap.size w u) := fun u hu => HB1.out.trans (hu.mono HB1.out.size)
  have HB2 := hid hb2
  clear hb2
  go_wp2_with (first | (refine wpList_copy_splice rfl (.tmp 25) (.tmp 27) 31 31 rfl 5 Tryz.underlying31 size5 _ _ k k k (cap - 8) rfl rfl w2.heap.size 0 (madeCells #[.int .u8 0] k).toList 5 ?c1 (bs (L.drop 8)) ?c2 ?c3 ?c4 ?c5 w2.heap.size w2 ?c6 ?c7 ?_) | fail)
  case c1 => rw [Array.toArray_toList]; exact heap_alloc_new w2 _
  case c2 => show (bs _).length = min k k; rw [Nat.min_self, bs, List.length_map]; exact HKL.out
  case c3 => exact fun hp => (HS8.out.below (HBW.out _ (HB2.out.alloc HB2.out.size _))).src hp
  case c4 => rw [bs, List.length_map, HKL.out, Array.length_toList, size_madeCells]; omega
  case c5 => intro q hq; obtain ⟨y, _, rfl⟩ := List.mem_map.1 hq; rfl
  case c6 => exact (Below.refl _ _).alloc (Nat.le_refl _) _
  case c7 => exact Nat.le_refl _
  intro w3 HG hb3
  rw [splice_whole (by rw [bs, List.length_map, HKL.out, Array.length_toList, size_madeCells])] at HG
  have hb13 : Below w1.heap.size w1 w3 := HB2.out.trans (hb3.mono HB2.out.size)
  have hbw : Below w.heap.size w w3 := HBW.out _ hb13
  have HSB := hid (sees_blk (t := 5) HG.out HKL.out (by have := HK.out; omega) (fun x hx => HSV.out.bytes x (List.mem_of_mem_drop hx)))
  have d0 : w3.cell? ⟨g0, off, none⟩ = some (.int .u8 (x0 : Int)) := (hbw.cell (p := ⟨g0, _, none⟩) hg0).trans hc0
  have d1 : w3.cell? ⟨g0, off + 1, none⟩ = some (.int .u8 (x1 : Int)) := (hbw.cell (p := ⟨g0, _, none⟩) hg0).trans hc1
  obtain ⟨r, hr⟩ : ∃ r, r = (byt (L.drop 4) 0 * 256 + byt (L.drop 4) 1) * 65536 + (byt (L.drop 4) 2 * 256 + byt (L.drop 4) 3) := ⟨_, rfl⟩
  have HR := hid hr
  have HRD : Hid (∀ u, Below w3.heap.size w3 u → Calls Tryz.prog 105 #[.slice a4 (n - 4) (cap - 4)] u fun e w' => e = .returned (.int .u32 (r : Int)) ∧ Below u.heap.size u w') := fun u hu => by
    refine (iread32_any _ (L.drop 4) u (HS4.out.below (hbw.trans (hu.mono hbw.size))) HRL.out).mono ?_
    rintro e w' ⟨rfl, hb⟩
    rw [← HR.out]
    exact ⟨rfl, hb⟩
  have HB3 := hid hb3
  have HB13 := hid hb13
  clear hr hb3 hb13 hbw HG hc0 hc1 hmk hl8 HS8 HSM
  obtain ⟨zz, hzz⟩ : ∃ zz : Array Value, zz = #[.int .u8 (x0 : Int), .int .u8 (x1 : Int), .int .u32 (r : Int), .slice (some ⟨w2.heap.size, 0, none⟩) k k] := ⟨_, rfl⟩
  have HZ := hid hzz
  have HONE : Hid (zz.all (·.oneCell') = true) := by unfold Hid; rw [hzz]; simp [Value.oneCell']
  have HINF : Hid ((Tryz.prog.info? 154).map (·.size) = some zz.size) := by unfold Hid; rw [hzz]; exact size_ct
  have HTZ : Hid (∀ u, Below w3.heap.size w3 u → u.there w.heap.size 0 zz.size) := fun u hu => by
    rw [hzz]; exact HTH.out _ (HB13.out.trans (hu.mono HB13.out.size))
  have HEND : Hid (∀ u, Below w3.heap.size w3 u → (loadVar 154 ⟨w.heap.size, 0, none⟩).run Tryz.prog (u.setCells w.heap.size 0 zz.toList) = .ok (.agg zz) (u.setCells w.heap.size 0 zz.toList) ∧ Below w.heap.size w (u.setCells w.heap.size 0 zz.toList) ∧ SeesB (u.setCells w.heap.size 0 zz.toList) (.slice (some ⟨w2.heap.size, 0, none⟩) k k) (L.drop 8)) := fun u hu => by
    have hb := HB13.out.trans (hu.mono HB13.out.size)
    refine ⟨load_cell (HTZ.out u hu) Tryz.underlying154 HINF.out, below_setCells (Nat.le_refl _) _ _ _ (HBW.out _ hb), ?_⟩
    refine sees_setI (HSB.out.below hu) (fun a ha => ?_)
    cases ha
    have := HB2.out.size
    have := HS1.out
    show w2.heap.size ≠ w.heap.size
    omega
  clear hzz HTH
  go_upto_region 9 with fail
  refine wp_region_mono' 11 (fun i => 29 + i) (Vs [.slice (some ⟨g0, off, none⟩) n cap, .pointer (some ⟨g0, off, none⟩), .int .u8 (x0 : Int), .slice (some ⟨g0, off, none⟩) n cap, .pointer (some ⟨g0, off + 1, none⟩), .int .u8 (x1 : Int), .slice (some ⟨g0, off, none⟩) n cap, .slice a4 (n - 4) (cap - 4), .int .u32 (r : Int), .slice (some ⟨w2.heap.size, 0, none⟩) k k, .agg zz]) (by kernel_rfl) (by kernel_rfl) (Vs.keeps _) ?_ ?_
  · simp only [List.take_succ_cons, List.take_zero, stepsOk]
    refine ⟨?_, ?_, ?_, ?_, ?_, ?_, ?_, ?_, ?_, ?_, ?_, trivial⟩
    · intro a u vs hb hold hdep
      exact wp_still (ex_move (.tmp 0) _ rfl (hold 0 (fun j _ => low (by decide)))) rfl rfl hb
    · intro a u vs hb hold hdep
      exact wp_still (ex_index _ _ _ _ _ _ rfl (Vs.dep (hdep ⟨0, .data⟩ (by simp) rfl (by decide)) rfl) rfl (idx_at n cap g0 off 0 0 rfl (by omega) u)) rfl rfl hb
    · intro a u vs hb hold hdep
      refine wp_still (ex_load _ _ _ _ rfl (Vs.dep (hdep ⟨1, .data⟩ (by simp) rfl (by decide)) rfl) (load_u8 ((hb.cell (p := ⟨g0, _, none⟩) (World.block_lt_of_cell? w3 _ d0)).trans d0))) rfl rfl hb
    · intro a u vs hb hold hdep
      exact wp_still (ex_move (.tmp 0) _ rfl (hold 0 (fun j _ => low (by decide)))) rfl rfl hb
    · intro a u vs hb hold hdep
      exact wp_still (ex_index _ _ _ _ _ _ rfl (Vs.dep (hdep ⟨3, .data⟩ (by simp) rfl (by decide)) rfl) rfl (idx_at n cap g0 off 1 1 rfl (by omega) u)) rfl rfl hb
    · intro a u vs hb hold hdep
      refine wp_still (ex_load _ _ _ _ rfl (Vs.dep (hdep ⟨4, .data⟩ (by simp) rfl (by decide)) rfl) (load_u8 ((hb.cell (p := ⟨g0, _, none⟩) (World.block_lt_of_cell? w3 _ d1)).trans d1))) rfl rfl hb
    · intro a u vs hb hold hdep
      exact wp_still (ex_move (.tmp 0) _ rfl (hold 0 (fun j _ => low (by decide)))) rfl rfl hb
    · intro a u vs hb hold hdep
      exact wp_still (ex_cut _ _ _ _ _ _ rfl (Vs.dep (hdep ⟨6, .data⟩ (by simp) rfl (by decide)) rfl) rfl (hl4 u)) rfl rfl hb
    · intro a u vs hb hold hdep
      have e1 : a.eval (.tmp 36) = .slice a4 (n - 4) (cap - 4) := Vs.dep (hdep ⟨7, .data⟩ (by simp) rfl (by decide)) rfl
      refine wp_call 105 _ _ rfl (enters_of Tryz.func105 (by kernel_rfl) rfl) #[.slice a4 (n - 4) (cap - 4)] (by simp only [List.map_toArray, List.map_cons, List.map_nil, e1]) ?_
      refine (HRD.out u hb).mono ?_
      rintro _ u' ⟨rfl, hb'⟩
      exact ⟨_, rfl, _, rfl, rfl, hb.trans (hb'.mono hb.size), hb'⟩
    · intro a u vs hb hold hdep
      exact wp_still (ex_move (.tmp 4) _ rfl (hold 4 (fun j _ => low (by decide)))) rfl rfl hb
    · intro a u vs hb hold hdep
      have e2 : a.eval (.tmp 31) = .int .u8 (x0 : Int) := Vs.dep (hdep ⟨2, .data⟩ (by simp) rfl (by decide)) rfl
      have e5 : a.eval (.tmp 34) = .int .u8 (x1 : Int) := Vs.dep (hdep ⟨5, .data⟩ (by simp) rfl (by decide)) rfl
      have e8 : a.eval (.tmp 37) = .int .u32 (r : Int) := Vs.dep (hdep ⟨8, .data⟩ (by simp) rfl (by decide)) rfl
      have e9 : a.eval (.tmp 38) = .slice (some ⟨w2.heap.size, 0, none⟩) k k := Vs.dep (hdep ⟨9, .data⟩ (by simp) rfl (by decide)) rfl
      refine wp_still (ex_build _ _ #[(0, .int .u8 (x0 : Int)), (1, .int .u8 (x1 : Int)), (2, .int .u32 (r : Int)), (3, .slice (some ⟨w2.heap.size, 0, none⟩) k k)] (.agg zz) rfl (by simp only [List.map_toArray, List.map_cons, List.map_nil, e2, e5, e8, e9]) ?_) rfl rfl hb
      rw [HZ.out]
      exact build_ct _ _ _ _ _ _ u
  intro vs u hb hF
  have e0 : vs 0 = .slice (some ⟨g0, off, none⟩) n cap := (Option.some.inj (hF 0 (by decide))).symm
  have e1 : vs 1 = .pointer (some ⟨g0, off, none⟩) := (Option.some.inj (hF 1 (by decide))).symm
  have e2 : vs 2 = .int .u8 (x0 : Int) := (Option.some.inj (hF 2 (by decide))).symm
  have e3 : vs 3 = .slice (some ⟨g0, off, none⟩) n cap := (Option.some.inj (hF 3 (by decide))).symm
  have e4 : vs 4 = .pointer (some ⟨g0, off + 1, none⟩) := (Option.some.inj (hF 4 (by decide))).symm
  have e5 : vs 5 = .int .u8 (x1 : Int) := (Option.some.inj (hF 5 (by decide))).symm
  have e6 : vs 6 = .slice (some ⟨g0, off, none⟩) n cap := (Option.some.inj (hF 6 (by decide))).symm
  have e7 : vs 7 = .slice a4 (n - 4) (cap - 4) := (Option.some.inj (hF 7 (by decide))).symm
  have e8 : vs 8 = .int .u32 (r : Int) := (Option.some.inj (hF 8 (by decide))).symm
  have e9 : vs 9 = .slice (some ⟨w2.heap.size, 0, none⟩) k k := (Option.some.inj (hF 9 (by decide))).symm
  have e10 : vs 10 = .agg zz := (Option.some.inj (hF 10 (by decide))).symm
  simp only [List.drop_succ_cons, List.drop_zero, puts, List.range, List.range.loop, List.foldr, if_true, Act.put, e0, e1, e2, e3, e4, e5, e6, e7, e8, e9, e10, Nat.reduceAdd, List.setIfInBounds_toArray, List.set_cons_succ, List.set_cons_zero]
  clear e0 e1 e2 e3 e4 e5 e6 e7 e8 e9 e10 hF
  have HTU := hid (HTZ.out u hb)
  obtain ⟨q1, q2, q3⟩ := HEND.out u hb
  have HLV := hid q1
  have HBF := hid q2
  have HSF := hid q3
  clear q1 q2 q3
  go_wp2_with (first
    | (refine wpList_store_mid rfl 154 (.tmp 2) (.tmp 39) rfl w.heap.size 0 zz rfl rfl HTU.out HINF.out HONE.out ?_)
    | fail)
  generalize u.setCells w.heap.size 0 zz.toList = wf at HLV HBF HSF ⊢
  refine bodyPost_ret (v := .tuple #[.agg zz, .int .i64 0]) (by simp [results, Tryz.results94, asAddr, HLV.out]) rfl ?_
  exact ⟨w2.heap.size, k, by rw [HZ.out, HR.out]; rfl, HSF.out, by have := HB2.out.size; have := HS1.out; omega, HBF.out⟩
end Go.Proofs.YtkkfioebpppffaaGreatDoor.N

namespace Go.Proofs.YtkkfioebpppffaaGreatDoor.N
open Go.ChangeShapes Go.WideShapes Go.ChangeAt Go.RowKit
set_option maxHeartbeats 2000000
set_option maxRecDepth 100000

theorem iparse_any (v : Value) (L : List Nat) (w : World) (hv : SeesB w v L) :
    Calls Tryz.prog 94 #[v] w fun e w' => ∃ ao n cap, e = .returned (.tuple #[.agg (ctCells (Im.prC L) (.slice ao n cap)), .int .i64 (Im.prE L)]) ∧ SeesB w' (.slice ao n cap) (Im.prC L).B ∧ (∀ a, ao = some a → w.heap.size ≤ a.block) ∧ Below w.heap.size w w' := by
  by_cases he : Im.prE L = 0
  · refine (iparse_good v L w hv he).mono ?_
    rintro e w' ⟨g, k, rfl, hs, hg, hb⟩
    rw [he]
    exact ⟨_, _, _, rfl, hs, (fun a ha => by cases ha; exact hg), hb⟩
  · refine (iparse_bad v L w hv he).mono ?_
    rintro e w' ⟨rfl, hb⟩
    have hc : Im.prC L = Im.none0 := by unfold Im.prC; rw [if_neg he]
    rw [hc]
    exact ⟨none, 0, 0, rfl, sees_nil _, (fun a ha => by cases ha), hb⟩

end Go.Proofs.YtkkfioebpppffaaGreatDoor.N

namespace Go.Proofs.YtkkfioebpppffaaGreatDoor.N
open Go.ChangeShapes Go.WideShapes Go.ChangeAt Go.RowKit
set_option maxHeartbeats 2000000
set_option maxRecDepth 100000

/-- The table of kinds. -/
def rowsK : List Value := [.bool false, .int .u8 0, .bool false, .int .u8 0, .bool false, .int .u8 0, .bool true, .int .u8 16, .bool true, .int .u8 0, .bool true, .int .u8 0, .bool false, .int .u8 0, .bool false, .int .u8 0, .bool false, .int .u8 0, .bool false, .int .u8 0, .bool false, .int .u8 0, .bool true, .int .u8 2, .bool true, .int .u8 3]

/-- It lies in the world. -/
def TabK (w : World) : Prop := (∀ j (h : j < 26), w.cell? ⟨2, j, none⟩ = some rowsK[j]) ∧ 2 < w.heap.size

theorem TabK.below {w w' : World} (h : TabK w) (hb : Below w.heap.size w w') : TabK w' :=
  ⟨fun j hj => (hb.cell (p := ⟨2, j, none⟩) h.2).trans (h.1 j hj), Nat.lt_of_lt_of_le h.2 hb.size⟩

/-- Is a message of that type a fault? -/
def kF (t : Nat) : Bool := t == 3 || t == 4 || t == 5 || t == 11 || t == 12
/-- How many codes it has. -/
def kC (t : Nat) : Nat := if t = 3 then 16 else if t = 11 then 2 else if t = 12 then 3 else 0

theorem kC_lt (t : Nat) : kC t < 256 := by unfold kC; split <;> try split <;> try split
                                           all_goals omega

theorem rows_at (t : Nat) (ht : t < 13) : rowsK[t * 2]? = some (.bool (kF t)) ∧ rowsK[t * 2 + 1]? = some (.int .u8 ((kC t : Nat) : Int)) := by
  have h : t = 0 ∨ t = 1 ∨ t = 2 ∨ t = 3 ∨ t = 4 ∨ t = 5 ∨ t = 6 ∨ t = 7 ∨ t = 8 ∨ t = 9 ∨ t = 10 ∨ t = 11 ∨ t = 12 := by omega
  rcases h with rfl | rfl | rfl | rfl | rfl | rfl | rfl | rfl | rfl | rfl | rfl | rfl | rfl <;> exact ⟨rfl, rfl⟩

theorem TabK.at {w : World} (h : TabK w) (t : Nat) (ht : t < 13) : w.cell? ⟨2, t * 2, none⟩ = some (.bool (kF t)) ∧ w.cell? ⟨2, t * 2 + 1, none⟩ = some (.int .u8 ((kC t : Nat) : Int)) := by
  obtain ⟨h1, h2⟩ := rows_at t ht
  refine ⟨(h.1 (t * 2) (by omega)).trans ?_, (h.1 (t * 2 + 1) (by omega)).trans ?_⟩
  · rw [← h1]; exact (List.getElem?_eq_getElem _).symm
  · rw [← h2]; exact (List.getElem?_eq_getElem _).symm

theorem size_kd : (Tryz.prog.info? 172).map (·.size) = some 2 := by kernel_rfl

theorem kindOf_any (t : Nat) (w : World) (ht : t < 256) (hk : TabK w) :
    Calls Tryz.prog 95 #[.int .u8 (t : Int)] w fun e w' => e = .returned (.agg #[.bool (kF t), .int .u8 ((kC t : Nat) : Int)]) ∧ Below w.heap.size w w' := by
  obtain ⟨w1, hw1⟩ : ∃ w1, w1 = w.alloc (.cells #[.bool false, .int .u8 0] 172) := ⟨_, rfl⟩
  have hb1 : Below w.heap.size w w1 := by rw [hw1]; exact (Below.refl _ _).alloc (Nat.le_refl _) _
  obtain ⟨zz, hzz⟩ : ∃ zz : Array Value, zz = #[.bool (kF t), .int .u8 ((kC t : Nat) : Int)] := ⟨_, rfl⟩
  have HZ := hid hzz
  have HTU : Hid (w1.there w.heap.size 0 zz.size) := by
    unfold Hid; rw [hzz]
    exact there_blk (C := #[.bool false, .int .u8 0]) (t := 172) (by rw [hw1]; exact heap_alloc_new w _) rfl
  have HONE : Hid (zz.all (·.oneCell') = true) := by unfold Hid; rw [hzz]; simp [Value.oneCell']
  have HINF : Hid ((Tryz.prog.info? 172).map (·.size) = some zz.size) := by unfold Hid; rw [hzz]; exact size_kd
  have HLV := hid (load_cell HTU.out Tryz.underlying172 HINF.out)
  have HBF := hid (below_setCells (Nat.le_refl _) zz.toList 0 w1 hb1)
  have HW1 := hid hw1
  have hk1 := hk.below hb1
  rw [← hzz]
  by_cases h13 : t < 13
  · obtain ⟨c0, c1⟩ := hk1.at t h13
    have HLD : Hid ((Instr.loadAt 172 (.pointer (some ⟨2, t * 2, none⟩))).run Tryz.prog w1 = .ok (.agg zz) w1) := by
      refine run_loadAt_mid w1 2 (t * 2) 172 zz.toList (.struct _) (fun j v hv => ?_) Tryz.underlying172 rfl (by rw [Array.length_toList]; exact HINF.out)
      rw [hzz] at hv
      match j, hv with
      | 0, hv => simp at hv; rw [Nat.add_zero, c0, hv]
      | 1, hv => simp at hv; rw [c1, hv]
    have b1 : (t : Int) < 13 := by omega
    have b2 : ¬ (13 : Int) ≤ (t : Int) := by omega
    clear hw1 hb1 hzz hk hk1 c0 c1
    go_enter Tryz.func95, Tryz.ntmps95
    go_upto_region 1 with fail
    rw [← HW1.out]
    go_wp2_with (first
      | (refine wpList_ld 172 ⟨2, t * 2, none⟩ _ rfl rfl HLD.out rfl ?_)
      | (refine wpList_store_mid rfl 172 (.tmp 2) (.tmp 8) rfl w.heap.size 0 zz rfl rfl HTU.out HINF.out HONE.out ?_)
      | fail)
    generalize w1.setCells w.heap.size 0 zz.toList = wf at HLV HBF ⊢
    refine bodyPost_ret (v := .agg zz) (by simp [results, Tryz.results95, asAddr, HLV.out]) rfl ?_
    exact ⟨rfl, HBF.out⟩
  · have HZ2 : Hid (zz = #[.bool false, .int .u8 0]) := by
      unfold Hid; rw [hzz]
      have h1 : kF t = false := by unfold kF; simp; omega
      have h2 : kC t = 0 := by unfold kC; rw [if_neg (by omega), if_neg (by omega), if_neg (by omega)]
      rw [h1, h2]; rfl
    have b2 : (13 : Int) ≤ (t : Int) := by omega
    clear hw1 hb1 hzz hk hk1
    go_enter Tryz.func95, Tryz.ntmps95
    go_upto_region 1 with fail
    rw [← HW1.out]
    go_wp2_with (first
      | (refine wpList_store_mid rfl 172 (.tmp 2) (.tmp 5) rfl w.heap.size 0 zz rfl (by rw [HZ2.out]; rfl) HTU.out HINF.out HONE.out ?_)
      | fail)
    generalize w1.setCells w.heap.size 0 zz.toList = wf at HLV HBF ⊢
    refine bodyPost_ret (v := .agg zz) (by simp [results, Tryz.results95, asAddr, Act.put, HLV.out]) rfl ?_
    exact ⟨rfl, HBF.out⟩

theorem isFault_any (t : Nat) (w : World) (ht : t < 256) (hk : TabK w) :
    Calls Tryz.prog 78 #[.int .u8 (t : Int)] w fun e w' => e = .returned (.bool (kF t)) ∧ Below w.heap.size w w' := by
  have HK := hid (kindOf_any t w ht hk)
  have hfl : ∀ u : World, (Instr.field 172 (.agg #[.bool (kF t), .int .u8 ((kC t : Nat) : Int)]) 0).run Tryz.prog u = .ok (.bool (kF t)) u := fun u => by kernel_rfl
  generalize kF t = b at *
  generalize kC t = n at *
  clear hk
  go_enter Tryz.func78, Tryz.ntmps78
  go_wp2_with fail
  refine HK.out.mono ?_
  rintro _ w2 ⟨rfl, hb⟩
  go_wp2_with fail
  go_ret
  exact ⟨rfl, hb⟩

/-- The greatest argument. -/
def mxA (t c : Nat) : Int := if t = 3 ∧ c = 4 then 65535 else if t = 12 ∧ c = 0 then 255 else 0

/-- May such a fault be told? -/
def mayT (t c : Nat) (a : Int) : Bool := decide (c < kC t) && (decide (0 ≤ a) && decide (a ≤ mxA t c))

/-- Where the argument lies. -/
def rstN (t a : Nat) : Nat := if t = 12 then a * 16777216 else a

end Go.Proofs.YtkkfioebpppffaaGreatDoor.N
