import Derived.Test.YtdoeebbcieiimaaF
import Derived.Deep.MidRow
namespace Go.Proofs.Ytdoeebbcieiimaa
open Go.ChangeShapes Go.WideShapes Go.ChangeAt Go.RowKit
set_option maxHeartbeats 400000
set_option maxRecDepth 100000

def pkCells (h : Hd) (vo vb : Value) : Array Value := #[.int .u8 (h.tos : Int), .int .u16 (h.id : Int), .bool h.df, .bool h.mf, .int .i64 h.off, .int .u8 (h.ttl : Int), .int .u8 (h.proto : Int), .int .u32 (h.src : Int), .int .u32 (h.dst : Int), vo, vb]

def refE (h : Hd) (nb : Nat) : Int := if M.area h.opts then (if M.pieceOk h.off nb h.mf then (if 20 + h.opts.length + nb ≤ 65535 then 0 else 37) else 36) else 34

theorem pk_at {u : World} {n : Nat} {h : Hd} {vo vb : Value} {t : TypeId} (hb : u.heap[n]? = some (.cells (pkCells h vo vb) t)) (i : Nat) (hi : i < 11) : u.cell? ⟨n, i, none⟩ = some ((pkCells h vo vb)[i]'hi) := by
  rw [cell_of_row u _ _ _ _ _ hb, Array.getElem?_eq_getElem hi]

theorem und29 : ∃ fs, Try.prog.underlying 29 = some (.struct fs) := ⟨_, Try.underlying29⟩
theorem und27 : ∃ fs, Try.prog.underlying 27 = some (.struct fs) := ⟨_, Try.underlying27⟩

theorem pk_load {u : World} {n : Nat} {h : Hd} {vo vb : Value} {t : TypeId} (hb : u.heap[n]? = some (.cells (pkCells h vo vb) t)) : (Instr.loadAt 29 (.pointer (some ⟨n, 0, none⟩))).run Try.prog u = .ok (.agg (pkCells h vo vb)) u := by
  obtain ⟨fs, hu⟩ := und29
  refine run_loadAt_mid u n 0 29 (pkCells h vo vb).toList (.struct fs) (fun j v hv => ?_) hu rfl (by rw [show (Try.prog.info? 29).map (·.size) = some 11 from by kernel_rfl]; rfl)
  have hj : j < 11 := (List.getElem?_eq_some_iff.1 hv).1
  rw [Nat.zero_add, pk_at hb j hj]
  rw [List.getElem?_eq_getElem hj] at hv
  exact hv

theorem pk_loadH {u : World} {n : Nat} {h : Hd} {vo vb : Value} {t : TypeId} (hb : u.heap[n]? = some (.cells (pkCells h vo vb) t)) : (Instr.loadAt 27 (.pointer (some ⟨n, 0, none⟩))).run Try.prog u = .ok (.agg (hdCells h vo)) u := by
  obtain ⟨fs, hu⟩ := und27
  refine run_loadAt_mid u n 0 27 (hdCells h vo).toList (.struct fs) (fun j v hv => ?_) hu rfl (by rw [show (Try.prog.info? 27).map (·.size) = some 10 from by kernel_rfl]; rfl)
  have hj : j < 10 := (List.getElem?_eq_some_iff.1 hv).1
  rw [Nat.zero_add, pk_at hb j (by omega)]
  have e : ∀ j (hj : j < 10), (hdCells h vo).toList[j]? = some ((pkCells h vo vb)[j]'(Nat.lt_of_lt_of_le hj (show 10 ≤ 11 by decide))) := by
    intro j hj
    match j, hj with
    | 0, _ => rfl
    | 1, _ => rfl
    | 2, _ => rfl
    | 3, _ => rfl
    | 4, _ => rfl
    | 5, _ => rfl
    | 6, _ => rfl
    | 7, _ => rfl
    | 8, _ => rfl
    | 9, _ => rfl
  rw [e j hj] at hv
  exact hv

/-- The step that reads a struct whole, guarded or not. -/
theorem wpList_ld {ops : Array Oper} {Q : Exit → Act → World → Prop} {a : Act} {w : World} {rest : List Oper} {o : Oper} {v : Value} (T : TypeId) (p : Addr) (x : Operand) (ho : o.op = .load T x) (hx : a.eval x = .pointer (some p))
    (hr : (Instr.loadAt T (.pointer (some p))).run Try.prog w = .ok v w) (hw : Region.wanted o (yielded ops a.tmps) = true) (h : wpList Try.prog ops Q rest (a.put o.dst v) w) : wpList Try.prog ops Q (o :: rest) a w := by
  refine wpList_step fun K hK => ?_
  rw [if_pos hw]
  unfold Oper.wp execOp
  simp only [ho, hx, Sem.run_bind, hr, Result.andThen_ok, Sem.run_pure]
  exact hK _ _ h

set_option maxHeartbeats 4000000 in
theorem refused_any (h : Hd) (vo vb : Value) (B : List Nat) (w : World) (hok : h.Ok) (hvo : SeesB w vo h.opts) (hvb : SeesB w vb B) (hB : B.length ≤ 4611686018427387904) :
    Calls Try.prog 73 #[.agg (pkCells h vo vb)] w fun e w' => e = .returned (.int .i64 (refE h B.length)) ∧ Below w.heap.size w w' := by
  have hb1 : Below w.heap.size w (w.alloc (.cells (pkCells h vo vb) 29)) := (Below.refl _ _).alloc (Nat.le_refl _) _
  have HA := hid (area_ref vo h.opts _ (hvo.below hb1))
  have HP := hid (piece_ref h.off B.length h.mf (w.alloc (.cells (pkCells h vo vb) 29)) hok.off hB)
  obtain ⟨ao, n, cap, rfl, HN, hn1, hn2⟩ := hvo.shape
  obtain ⟨ab, nb, capb, rfl, HNB, hnb1, hnb2⟩ := hvb.shape
  unfold maxLen at hn2 hnb2
  have hBn : nb ≤ 4611686018427387904 := by have := HNB.out; omega
  rw [← HNB.out] at HP ⊢
  obtain ⟨R, hR⟩ : ∃ R, R = refE h nb := ⟨_, rfl⟩
  have HR := hid hR
  rw [← hR]
  clear hR hvo hvb hok hB
  have HAL : Hid (M.area h.opts = true → n ≤ 40) := fun h1 => by
    unfold M.area at h1; simp at h1; have := HN.out; omega
  unfold refE at HR
  rw [← HN.out] at HR
  generalize M.area h.opts = a at *
  generalize M.pieceOk h.off nb h.mf = b at *
  obtain ⟨tos, id, df, mf, off, ttl, proto, src, dst, opts⟩ := h
  unfold pkCells at *
  simp only at *
  have HB1 := hid hb1
  clear hb1
  cases a with
  | false =>
    have HE : Hid (R = 34) := by unfold Hid; rw [HR.out]; rfl
    go_enter Try.func73, Try.ntmps73
    go_wp2_with fail
    refine HA.out.mono ?_
    rintro _ _ ⟨rfl, rfl⟩
    go_wp2_with fail
    go_ret
    exact ⟨ret_int (by rw [HE.out]), HB1.out⟩
  | true =>
    have hn40 := HAL.out rfl
    cases b with
    | false =>
      have HE : Hid (R = 36) := by unfold Hid; rw [HR.out]; rfl
      go_enter Try.func73, Try.ntmps73
      go_wp2_with fail
      refine HA.out.mono ?_
      rintro _ _ ⟨rfl, rfl⟩
      go_wp2_with fail
      refine HP.out.mono ?_
      rintro _ _ ⟨rfl, rfl⟩
      go_wp2_with fail
      go_ret
      exact ⟨ret_int (by rw [HE.out]), HB1.out⟩
    | true =>
      by_cases hbig : 20 + n + nb ≤ 65535
      · have HE : Hid (R = 0) := by unfold Hid; rw [HR.out, if_pos rfl, if_pos rfl, if_pos hbig]
        go_enter Try.func73, Try.ntmps73
        go_wp2_with fail
        refine HA.out.mono ?_
        rintro _ _ ⟨rfl, rfl⟩
        go_wp2_with fail
        refine HP.out.mono ?_
        rintro _ _ ⟨rfl, rfl⟩
        go_wp2_with fail
        go_ret
        exact ⟨ret_int (by rw [HE.out]), HB1.out⟩
      · have HE : Hid (R = 37) := by unfold Hid; rw [HR.out, if_pos rfl, if_pos rfl, if_neg hbig]
        go_enter Try.func73, Try.ntmps73
        go_wp2_with fail
        refine HA.out.mono ?_
        rintro _ _ ⟨rfl, rfl⟩
        go_wp2_with fail
        refine HP.out.mono ?_
        rintro _ _ ⟨rfl, rfl⟩
        go_wp2_with fail
        go_ret
        exact ⟨ret_int (by rw [HE.out]), HB1.out⟩
end Go.Proofs.Ytdoeebbcieiimaa
