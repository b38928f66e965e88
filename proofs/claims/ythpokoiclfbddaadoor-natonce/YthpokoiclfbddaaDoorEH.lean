import Derived.Test.YthpokoiclfbddaaDoorYFlK
namespace Go.Proofs.YthpokoiclfbddaaDoor.Fl
open Go.Proofs.YthpokoiclfbddaaDoor Go.ChangeShapes Go.WideShapes Go.ChangeAt Go.RowKit Go.Maps N
set_option maxHeartbeats 2000000
set_option maxRecDepth 100000

/-- A datagram, an echo, a segment. -/
inductive Ct where
  | dg (s d : Nat)
  | ec (n : Nat) (r : Bool)
  | sg (s d f : Nat)
deriving DecidableEq
def Ct.v : Ct → Value
  | .dg s d => .iface 148 (.agg #[.int .u16 (s : Int), .int .u16 (d : Int)])
  | .ec n r => .iface 156 (.agg #[.int .u16 (n : Int), .bool r])
  | .sg s d f => .iface 151 (.agg #[.int .u16 (s : Int), .int .u16 (d : Int), .int .u8 (f : Int)])
def Ct.Ok : Ct → Prop
  | .dg s d => s < 65536 ∧ d < 65536
  | .ec n _ => n < 65536
  | .sg s d f => s < 65536 ∧ d < 65536 ∧ f < 256
def Ct.src : Ct → Nat
  | .dg s _ => s
  | .ec n _ => n
  | .sg s _ _ => s
def Ct.dst : Ct → Nat
  | .dg _ d => d
  | .ec n _ => n
  | .sg _ d _ => d
def cv : Option Ct → Value
  | none => .nilIface
  | some c => c.v

def fld (B : List Nat) (i : Nat) : Nat := byt B i * 256 + byt B (i + 1)
def contC (p : Nat) (B : List Nat) : Option Ct :=
  if p = 1 then (if (byt B 0 = 8 ∨ byt B 0 = 0) ∧ byt B 1 = 0 then some (.ec (fld B 4) (decide (byt B 0 = 8))) else none)
  else if p = 17 then some (.dg (fld B 0) (fld B 2))
  else if p = 6 then some (.sg (fld B 0) (fld B 2) (byt B 13))
  else none
def least (p : Nat) : Nat := if p = 1 ∨ p = 17 then 8 else if p = 6 then 20 else 0
def rdE (h : Hd) (B : List Nat) : Int :=
  if refE h B.length ≠ 0 then refE h B.length else if 0 < h.off then 75 else if B.length < least h.proto then 30 else if (contC h.proto B).isNone then 210 else 0
def rdC (h : Hd) (B : List Nat) : Option Ct := if rdE h B = 0 then contC h.proto B else none
def tupC (h : Hd) (c : Ct) : Tu := ⟨h.src, h.dst, h.proto, c.src, c.dst⟩

theorem fld_lt {B : List Nat} (h : ∀ x ∈ B, x < 256) (i : Nat) : fld B i < 65536 := by
  have h1 := byt_lt h i
  have h2 := byt_lt h (i + 1)
  unfold fld; omega
theorem contC_ok {p : Nat} {B : List Nat} (h : ∀ x ∈ B, x < 256) {c : Ct} (hc : contC p B = some c) : c.Ok := by
  unfold contC at hc
  split at hc
  · split at hc
    · cases hc; exact fld_lt h 4
    · cases hc
  · split at hc
    · cases hc; exact ⟨fld_lt h 0, fld_lt h 2⟩
    · split at hc
      · cases hc; exact ⟨fld_lt h 0, fld_lt h 2, byt_lt h 13⟩
      · cases hc
theorem rdC_some {h : Hd} {B : List Nat} {c : Ct} (hc : rdC h B = some c) : rdE h B = 0 ∧ contC h.proto B = some c := by
  unfold rdC at hc
  split at hc
  · rename_i e; exact ⟨e, hc⟩
  · cases hc
theorem rdC_ok {h : Hd} {B : List Nat} (hb : ∀ x ∈ B, x < 256) {c : Ct} (hc : rdC h B = some c) : c.Ok := contC_ok hb (rdC_some hc).2
theorem rdE_zero {h : Hd} {B : List Nat} (e : rdE h B = 0) : ∃ c, contC h.proto B = some c := by
  unfold rdE at e
  split at e
  · contradiction
  · split at e
    · cases e
    · split at e
      · cases e
      · split at e
        · cases e
        · rename_i hn
          cases hc : contC h.proto B with
          | none => rw [hc] at hn; exact absurd rfl hn
          | some c => exact ⟨c, rfl⟩
theorem tupC_ok {h : Hd} {c : Ct} (hok : h.Ok) (hc : c.Ok) : (tupC h c).Ok := by
  refine ⟨hok.src, hok.dst, hok.proto, ?_, ?_⟩
  · cases c with
    | dg s d => exact hc.1
    | ec n r => exact hc
    | sg s d f => exact hc.1
  · cases c with
    | dg s d => exact hc.2
    | ec n r => exact hc
    | sg s d f => exact hc.2.1

/-- Two bytes. -/
theorem field_any (v : Value) (B : List Nat) (i : Nat) (w : World) (hv : SeesB w v B) (hi : i + 1 < B.length) (hi2 : i < 100) :
    Calls Tryd.prog 80 #[v, .int .i64 (i : Int)] w fun e w' => e = .returned (.int .u16 (fld B i : Int)) ∧ Below w.heap.size w w' := by
  have hby := hv.bytes
  obtain ⟨ao, n, cap, rfl, HN, hn1, hn2⟩ := hv.shape
  have hlt : i + 1 < n := by have := HN.out; omega
  obtain ⟨g, off, rfl, hg, hc0⟩ := hv.atB i (by omega)
  obtain ⟨g', off', he, hg', hc1⟩ := hv.atB (i + 1) hlt
  simp at he
  obtain ⟨rfl, rfl⟩ := he
  have hp := byt_lt hby i
  have hq := byt_lt hby (i + 1)
  have HR : Hid (bits .or .u16 ((byt B i * 256 : Nat) : Int) ((byt B (i + 1) : Nat) : Int) = ((fld B i : Nat) : Int)) := or_u16 _ _ hp hq
  generalize byt B i = p at *
  generalize byt B (i + 1) = q at *
  generalize fld B i = r at *
  unfold maxLen at hn2
  clear hv hby hi
  go_enter Tryd.func80, Tryd.ntmps80
  go_wp2_with fail
  go_region
  go_wp2_with fail
  go_ret
  exact ⟨ret_int (by rw [← HR.out]; simp), below_drew (Below.refl _ _)⟩

theorem flagsIn_any (v : Value) (B : List Nat) (w : World) (hv : SeesB w v B) (hl : B.length ≤ 140737488355328) :
    Calls Tryd.prog 81 #[v] w fun e w' => e = .returned (.int .u8 (byt B 13 : Int)) ∧ w' = w := by
  obtain ⟨ao, n, cap, rfl, HN, hn1, hn2⟩ := hv.shape
  have hl2 : n ≤ 140737488355328 := by have := HN.out; omega
  by_cases h13 : 13 < n
  · obtain ⟨g, off, rfl, hg, hc0⟩ := hv.atB 13 h13
    generalize byt B 13 = p at *
    unfold maxLen at hn2
    clear hv hl
    go_enter Tryd.func81, Tryd.ntmps81
    go_wp2_with fail
    go_ret
    exact ⟨rfl, rfl⟩
  · have hz : Hid (byt B 13 = 0) := by
      unfold Hid byt
      rw [List.getD_eq_getElem?_getD, List.getElem?_eq_none (by have := HN.out; omega)]
      rfl
    have h13' : (n : Int) ≤ 13 := by omega
    unfold maxLen at hn2
    clear hv hl h13
    go_enter Tryd.func81, Tryd.ntmps81
    go_wp2_with fail
    go_ret
    exact ⟨by rw [hz.out]; rfl, rfl⟩

theorem leastBody_any (p : Nat) (w : World) : Calls Tryd.prog 64 #[.int .u8 (p : Int)] w fun e w' => e = .returned (.int .i64 (least p : Int)) ∧ w' = w := by
  have HR : Hid ((p = 1 → least p = 8) ∧ (p = 17 → least p = 8) ∧ (p = 6 → least p = 20) ∧ (p ≠ 1 → p ≠ 17 → p ≠ 6 → least p = 0)) := by
    unfold Hid least
    refine ⟨fun h => if_pos (.inl h), fun h => if_pos (.inr h), fun h => ?_, fun h1 h2 h3 => ?_⟩
    · rw [if_neg (by omega), if_pos h]
    · rw [if_neg (by omega), if_neg h3]
  generalize least p = r at *
  by_cases h1 : p = 1
  · have e : Hid (r = 8) := HR.out.1 h1
    have q1 : ((p : Int) == 1) = true := by simp; omega
    clear h1 HR
    go_enter Tryd.func64, Tryd.ntmps64
    go_wp2_with fail
    go_ret
    exact ⟨by rw [e.out]; rfl, rfl⟩
  · have q1 : ((p : Int) == 1) = false := by simp; omega
    by_cases h2 : p = 17
    · have e : Hid (r = 8) := HR.out.2.1 h2
      have q2 : ((p : Int) == 17) = true := by simp; omega
      clear h1 h2 HR
      go_enter Tryd.func64, Tryd.ntmps64
      go_wp2_with fail
      go_ret
      exact ⟨by rw [e.out]; rfl, rfl⟩
    · have q2 : ((p : Int) == 17) = false := by simp; omega
      by_cases h3 : p = 6
      · have e : Hid (r = 20) := HR.out.2.2.1 h3
        have q3 : ((p : Int) == 6) = true := by simp; omega
        clear h1 h2 h3 HR
        go_enter Tryd.func64, Tryd.ntmps64
        go_wp2_with fail
        go_ret
        exact ⟨by rw [e.out]; rfl, rfl⟩
      · have e : Hid (r = 0) := HR.out.2.2.2 h1 h2 h3
        have q3 : ((p : Int) == 6) = false := by simp; omega
        clear h1 h2 h3 HR
        go_enter Tryd.func64, Tryd.ntmps64
        go_wp2_with fail
        go_ret
        exact ⟨by rw [e.out]; rfl, rfl⟩
end Go.Proofs.YthpokoiclfbddaaDoor.Fl

namespace Go.Proofs.YthpokoiclfbddaaDoor.Fl
open Go.Proofs.YthpokoiclfbddaaDoor Go.ChangeShapes Go.WideShapes Go.ChangeAt Go.RowKit Go.Maps N
set_option maxHeartbeats 4000000
set_option maxRecDepth 100000

def echoC (B : List Nat) : Option Ct := if (byt B 0 = 8 ∨ byt B 0 = 0) ∧ byt B 1 = 0 then some (.ec (fld B 4) (decide (byt B 0 = 8))) else none

theorem echoIn_any (v : Value) (B : List Nat) (w : World) (hv : SeesB w v B) (hl : 8 ≤ B.length) :
    Calls Tryd.prog 79 #[v] w fun e w' => e = .returned (.tuple #[cv (echoC B), .bool (echoC B).isSome]) ∧ Below w.heap.size w w' := by
  have HV := hid hv
  have HLB := hid hl
  obtain ⟨ao, n, cap, rfl, HN, hn1, hn2⟩ := hv.shape
  obtain ⟨g, off, rfl, hg, hc0⟩ := hv.atB 0 (by have := HN.out; omega)
  obtain ⟨g', off', he, hg', hc1⟩ := hv.atB 1 (by have := HN.out; omega)
  simp at he
  obtain ⟨rfl, rfl⟩ := he
  have HF : Hid (∀ u, Below w.heap.size w u → Calls Tryd.prog 80 #[.slice (some ⟨g, off, none⟩) n cap, .int .i64 4] u fun e w' => e = .returned (.int .u16 (fld B 4 : Int)) ∧ Below u.heap.size u w') := fun u hu => field_any _ B 4 u (HV.out.below hu) (by have := HLB.out; omega) (by omega)
  have hn8 : 8 ≤ n := by have := HN.out; omega
  have HE : Hid (echoC B = if (byt B 0 = 8 ∨ byt B 0 = 0) ∧ byt B 1 = 0 then some (.ec (fld B 4) (decide (byt B 0 = 8))) else none) := rfl
  generalize echoC B = R at *
  generalize byt B 0 = x at *
  generalize byt B 1 = y at *
  generalize fld B 4 = z at *
  rw [Nat.add_zero] at hc0
  unfold maxLen at hn2
  clear hv hl HN
  by_cases hy : y = 0
  · by_cases hx : x = 8 ∨ x = 0
    · have HR : Hid (R = some (.ec z (decide (x = 8)))) := by unfold Hid; rw [HE.out, if_pos ⟨hx, hy⟩]
      have q1 : ((y : Int) != 0) = false := by simp [hy]
      have q5 : ((x : Int) == 8) = decide (x = 8) := by
        by_cases e : x = 8
        · simp [e]
        · simp [e]; omega
      rcases hx with hx | hx
      case' inl =>
        have q2 : ((x : Int) != 8) = false := by simp [hx]
        have q3 : ((x : Int) != 0) = true := by simp; omega
      case' inr =>
        have q2 : ((x : Int) != 8) = true := by simp; omega
        have q3 : ((x : Int) != 0) = false := by simp [hx]
      all_goals (
        clear hx hy HE
        go_enter Tryd.func79, Tryd.ntmps79
        go_wp2_with fail
        go_region
        go_wp2_with fail
        refine (HF.out _ (below_drew (Below.refl _ _))).mono ?_
        rintro _ w1 ⟨rfl, hb1⟩
        go_wp2_with fail
        refine bodyPost_ret (results_tmp2 Tryd.results79 _ _ _) rfl ?_
        exact ⟨by rw [HR.out]; rfl, (below_drew (Below.refl _ _)).trans hb1⟩)
    · have HR : Hid (R = none) := by unfold Hid; rw [HE.out, if_neg (fun h => hx h.1)]
      have q2 : ((x : Int) != 8) = true := by simp; omega
      have q3 : ((x : Int) != 0) = true := by simp; omega
      clear hx hy HE
      go_enter Tryd.func79, Tryd.ntmps79
      go_wp2_with fail
      go_region
      go_wp2_with fail
      refine bodyPost_ret (results_tmp2 Tryd.results79 _ _ _) rfl ?_
      exact ⟨by rw [HR.out]; rfl, below_drew (Below.refl _ _)⟩
  · have HR : Hid (R = none) := by unfold Hid; rw [HE.out, if_neg (fun h => hy h.2)]
    have q1 : ((y : Int) != 0) = true := by simp; omega
    by_cases hx : x = 8
    case' pos =>
      have q2 : ((x : Int) != 8) = false := by simp [hx]
      have q3 : ((x : Int) != 0) = true := by simp; omega
    case' neg =>
      have q2 : ((x : Int) != 8) = true := by simp; omega
      by_cases hx0 : x = 0
      case' pos => have q3 : ((x : Int) != 0) = false := by simp [hx0]
      case' neg => have q3 : ((x : Int) != 0) = true := by simp; omega
    all_goals (
      try clear hx0
      clear hx hy HE
      go_enter Tryd.func79, Tryd.ntmps79
      go_wp2_with fail
      go_region
      go_wp2_with fail
      refine bodyPost_ret (results_tmp2 Tryd.results79 _ _ _) rfl ?_
      exact ⟨by rw [HR.out]; rfl, below_drew (Below.refl _ _)⟩)

theorem contentOf_any (p : Nat) (v : Value) (B : List Nat) (w : World) (hv : SeesB w v B) (hl : 8 ≤ B.length) (hlb : B.length ≤ 140737488355328) :
    Calls Tryd.prog 65 #[.int .u8 (p : Int), v] w fun e w' => e = .returned (.tuple #[cv (contC p B), .bool (contC p B).isSome]) ∧ Below w.heap.size w w' := by
  have HE : Hid (∀ u, Below w.heap.size w u → Calls Tryd.prog 79 #[v] u fun e w' => e = .returned (.tuple #[cv (echoC B), .bool (echoC B).isSome]) ∧ Below u.heap.size u w') := fun u hu => echoIn_any v B u (hv.below hu) hl
  have HF : Hid (∀ (i : Nat) u, i < 3 → Below w.heap.size w u → Calls Tryd.prog 80 #[v, .int .i64 (i : Int)] u fun e w' => e = .returned (.int .u16 (fld B i : Int)) ∧ Below u.heap.size u w') := fun i u hi hu => field_any v B i u (hv.below hu) (by omega) (by omega)
  have HG : Hid (∀ u, Below w.heap.size w u → Calls Tryd.prog 81 #[v] u fun e w' => e = .returned (.int .u8 (byt B 13 : Int)) ∧ w' = u) := fun u hu => flagsIn_any v B u (hv.below hu) hlb
  have HR : Hid ((p = 1 → contC p B = echoC B) ∧ (p = 17 → contC p B = some (.dg (fld B 0) (fld B 2))) ∧ (p = 6 → contC p B = some (.sg (fld B 0) (fld B 2) (byt B 13))) ∧ (p ≠ 1 → p ≠ 17 → p ≠ 6 → contC p B = none)) := by
    unfold Hid contC
    refine ⟨fun h => by rw [if_pos h]; rfl, fun h => ?_, fun h => ?_, fun h1 h2 h3 => ?_⟩
    · rw [if_neg (by omega), if_pos h]
    · rw [if_neg (by omega), if_neg (by omega), if_pos h]
    · rw [if_neg h1, if_neg h2, if_neg h3]
  generalize contC p B = R at *
  generalize echoC B = C at *
  generalize byt B 13 = f at *
  generalize fld B = F at *
  clear hl hlb hv
  by_cases h1 : p = 1
  · have e : Hid (R = C) := HR.out.1 h1
    have q1 : ((p : Int) == 1) = true := by simp; omega
    clear h1 HR
    go_enter Tryd.func65, Tryd.ntmps65
    go_wp2_with fail
    refine (HE.out _ (Below.refl _ _)).mono ?_
    rintro _ w1 ⟨rfl, hb1⟩
    go_wp2_with fail
    refine bodyPost_ret (results_tmp2 Tryd.results65 _ _ _) rfl ?_
    exact ⟨by rw [e.out]; rfl, hb1⟩
  · have q1 : ((p : Int) == 1) = false := by simp; omega
    by_cases h2 : p = 17
    · have e : Hid (R = some (.dg (F 0) (F 2))) := HR.out.2.1 h2
      have q2 : ((p : Int) == 17) = true := by simp; omega
      clear h1 h2 HR
      go_enter Tryd.func65, Tryd.ntmps65
      go_wp2_with fail
      refine (HF.out 0 _ (by omega) (Below.refl _ _)).mono ?_
      rintro _ w1 ⟨rfl, hb1⟩
      have HB1 := hid hb1
      clear hb1
      go_wp2_with fail
      refine (HF.out 2 _ (by omega) HB1.out).mono ?_
      rintro _ w2 ⟨rfl, hb2⟩
      have HB2 := hid hb2
      clear hb2
      go_wp2_with fail
      refine bodyPost_ret (results_tmp2 Tryd.results65 _ _ _) rfl ?_
      exact ⟨by rw [e.out]; rfl, HB1.out.trans (HB2.out.mono HB1.out.size)⟩
    · have q2 : ((p : Int) == 17) = false := by simp; omega
      by_cases h3 : p = 6
      · have e : Hid (R = some (.sg (F 0) (F 2) f)) := HR.out.2.2.1 h3
        have q3 : ((p : Int) == 6) = true := by simp; omega
        clear h1 h2 h3 HR
        go_enter Tryd.func65, Tryd.ntmps65
        go_wp2_with fail
        refine (HF.out 0 _ (by omega) (Below.refl _ _)).mono ?_
        rintro _ w1 ⟨rfl, hb1⟩
        have HB1 := hid hb1
        clear hb1
        go_wp2_with fail
        refine (HF.out 2 _ (by omega) HB1.out).mono ?_
        rintro _ w2 ⟨rfl, hb2⟩
        have HB2 := hid (HB1.out.trans (hb2.mono HB1.out.size))
        clear hb2
        go_wp2_with fail
        refine (HG.out _ HB2.out).mono ?_
        rintro _ w3 ⟨rfl, rfl⟩
        go_wp2_with fail
        refine bodyPost_ret (results_tmp2 Tryd.results65 _ _ _) rfl ?_
        exact ⟨by rw [e.out]; rfl, HB2.out⟩
      · have e : Hid (R = none) := HR.out.2.2.2 h1 h2 h3
        have q3 : ((p : Int) == 6) = false := by simp; omega
        clear h1 h2 h3 HR
        go_enter Tryd.func65, Tryd.ntmps65
        go_wp2_with fail
        refine bodyPost_ret (results_tmp2 Tryd.results65 _ _ _) rfl ?_
        exact ⟨by rw [e.out]; rfl, Below.refl _ _⟩
end Go.Proofs.YthpokoiclfbddaaDoor.Fl
