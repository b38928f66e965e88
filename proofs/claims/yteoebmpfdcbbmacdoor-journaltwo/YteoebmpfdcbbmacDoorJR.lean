/-
  begin, Rewrite.
-/
import Derived.Test.YteoebmpfdcbbmacDoorJQ
namespace Go.Proofs.YteoebmpfdcbbmacDoor
open Go.ChangeShapes Go.WideShapes Go.ChangeAt Go.RowKit Jn N
set_option maxHeartbeats 4000000
set_option maxRecDepth 100000

/-- A generation of which k frames are laid. -/
def half0 (g : Nat) (rs : List (List Nat)) (k : Nat) : List Nat := head g (baseL rs) ++ frames g 0 (rs.take k) ++ List.replicate (baseL rs - baseL (rs.take k)) 0
theorem baseL_take (rs : List (List Nat)) (k : Nat) : baseL (rs.take k) ≤ baseL rs := by
  conv => rhs; rw [← List.take_append_drop k rs, baseL_append]
  omega
theorem half0_len (g : Nat) (rs : List (List Nat)) (k : Nat) : (half0 g rs k).length = 16 + baseL rs := by
  unfold half0
  rw [List.length_append, List.length_append, head_len, frames_len, List.length_replicate]
  have := baseL_take rs k
  omega
theorem half0_all (g : Nat) (rs : List (List Nat)) (k : Nat) (hk : rs.length ≤ k) : half0 g rs k = gener g rs := by
  unfold half0 gener
  rw [List.take_of_length_le hk]
  simp
theorem half0_step {g : Nat} {rs : List (List Nat)} {k : Nat} {r : List Nat} (h : rs[k]? = some r) : splice (half0 g rs k) (16 + baseL (rs.take k)) (frame g k r) = half0 g rs (k + 1) := by
  have hk := (List.getElem?_eq_some_iff.1 h).1
  have e : rs.take (k + 1) = rs.take k ++ [r] := take_snoc h
  have e2 : baseL (rs.take (k + 1)) = baseL (rs.take k) + (12 + r.length) := by rw [e, baseL_append]; simp [baseL]
  have e3 := baseL_take rs (k + 1)
  unfold half0
  rw [splice_at (A := head g (baseL rs) ++ frames g 0 (rs.take k)) (B := List.replicate (12 + r.length) 0) (R := List.replicate (baseL rs - baseL (rs.take (k + 1))) 0)]
  · rw [e, frames_append, List.length_take, Nat.min_eq_left (by omega), ← e]
    simp [frames]
  · rw [List.append_assoc (head g (baseL rs) ++ frames g 0 (rs.take k)), List.replicate_append_replicate]
    congr 2
    omega
  · rw [List.length_append, head_len, frames_len]
  · rw [List.length_replicate, frame_len]

theorem begin_any (S : Nat → Prop) (p ar g : Nat) (l : Lg) (ga na ca gb nb cb : Nat) (vw v : Value) (X : List Wv) (rs : List (List Nat)) (w : World) (h : LogX w S p l ga na ca gb nb cb vw X) (hv : SeesBB w v rs) (hrl : rs.length ≤ 8796093022208) (hr : ∀ r ∈ rs, r.length ≤ 65536) (hbs : 16 + baseL rs ≤ 1048576) (hg : g < 4294967296) (hX : X.length + 1 ≤ 3000000000000) (hd : dirt l.ws ≤ 4611686018427387904) (ht : TabN w) :
    Calls Tryd.prog 38 #[.pointer (some ⟨p, 0, none⟩), .int .i64 (ar : Int), .int .u32 (g : Int), v] w fun e w' => e = .returned (.tuple #[]) ∧ LogAt w' (NewS S w.heap.size w') p (l.beg ar g rs) ∧ Keeps S w w' := by
  have HL := hid h
  have HV := hid hv
  have HT := hid ht
  have HR := hid hr
  have HBL := hid (baseLen_any v rs w hv hrl hr)
  obtain ⟨ao, n, cap, rfl, HN, hn1, hn2⟩ := hv.shape
  unfold maxLen at hn2
  have hpl := h.lt p h.sp
  have hz := ht.2
  have hnb : 12 * n ≤ baseL rs := by
    have : ∀ qs : List (List Nat), 12 * qs.length ≤ baseL qs := fun qs => by
      induction qs with
      | nil => simp
      | cons q qs ih => simp [baseL] at *; omega
    rw [HN.out]; exact this rs
  obtain ⟨bl, HB⟩ : ∃ bl, Hid (bl = baseL rs) := ⟨_, rfl⟩
  rw [← HB.out] at HBL hbs hnb
  have hmk := make_bytes (16 + bl) (by omega) w
  have e16 : ((16 + bl : Nat) : Int) = 16 + (bl : Int) := by omega
  rw [e16] at hmk
  obtain ⟨w2, HW2⟩ : ∃ w2, Hid (w2 = w.alloc (.cells (bs (List.replicate (16 + bl) 0)).toArray 5)) := ⟨_, rfl⟩
  rw [← HW2.out] at hmk
  have hb2 : Below w.heap.size w w2 := by rw [HW2.out]; exact (Below.refl _ _).alloc (Nat.le_refl _) _
  have hX2 : Blk w2 w.heap.size 5 (List.replicate (16 + bl) 0) := by rw [HW2.out]; exact heap_alloc_new w _
  obtain ⟨gv, HGV⟩ : ∃ gv, Hid (gv = w.heap.size) := ⟨_, rfl⟩
  rw [← HGV.out] at hX2 hmk
  have hgv0 : 0 < gv := by rw [HGV.out]; exact hz
  have HPH := hid (putHead_any gv (16 + bl) g bl 5 _ w2 hX2 hgv0 (HT.out.below hb2 hz) (by simp) (by omega) (by omega) hg (by omega))
  have HH0 : Hid (splice (List.replicate (16 + bl) 0) 0 (head g bl) = half0 g rs 0) := by
    unfold Hid half0
    rw [HB.out]
    simp [splice, head_len, frames, baseL]
  have HB2 := hid hb2
  have hb16 : IntKind.u32.wrap (bl : Int) = (bl : Int) := by rw [IntKind.wrap_u32']; omega
  have hn32 : IntKind.u32.wrap (n : Int) = (n : Int) := by rw [IntKind.wrap_u32']; omega
  clear h hv ht hr hb2 hX2 e16
  go_enter Tryd.func38, Tryd.ntmps38
  go_wp2_with fail
  refine HBL.out.mono ?_
  rintro _ wx ⟨rfl, rfl⟩
  go_wp2_with fail
  refine HPH.out.mono ?_
  rintro _ w3 ⟨rfl, hb3, hk3⟩
  rw [HH0.out] at hb3
  have HB3 := hid hb3
  have HK3 := hid hk3
  clear hb3 hk3
  go_wp2_with fail
  go_loopw [10, 25] (fun pl i wr => ∃ (k q : Nat), i = .int .i64 (k : Int) ∧ k ≤ n ∧ pl = .int .i64 (q : Int) ∧ Hid (q = 16 + baseL (rs.take k)) ∧ q ≤ 1048576 ∧ Hid (Blk wr gv 5 (half0 g rs k)) ∧ Hid (Keeps (At1 gv) w2 wr)) (fun _ i _ => n - (intOf i).toNat)
  case atStart => exact ⟨0, 16, rfl, Nat.zero_le _, rfl, by unfold Hid; simp [baseL], by omega, HB3, HK3⟩
  case round =>
    obtain ⟨k, q, rfl, hk, rfl, HQ, hq, HBk, HKk⟩ := hrel
    have HBr : Hid (Below wx.heap.size wx wr) := HKk.out.below HB2.out HB2.out.size (fun j hj e => by unfold At1 at e; have := HGV.out; omega)
    by_cases hlt : k < n
    · obtain ⟨gr, off, x, r, rfl, hgr, hc, hx, HX⟩ := (HV.out.below HBr.out).at k hlt
      have hx0 : SeesB wx x r := by
        obtain ⟨gr', off', x', r', e1, hgr', hc', hx', HX'⟩ := HV.out.at k hlt
        have e2 : r' = r := by have h1 := HX'.out; rw [HX.out] at h1; exact (Option.some.inj h1).symm
        simp at e1
        obtain ⟨rfl, rfl⟩ := e1
        have e3 : x' = x := by
          have h1 := (HBr.out.cell (p := ⟨gr, off + k, none⟩) hgr').trans hc'
          rw [hc] at h1
          exact (Option.some.inj h1).symm
        rw [← e2, ← e3]; exact hx'
      have hrl2 := HR.out r (List.mem_of_getElem? HX.out)
      have HNX : Hid (16 + baseL (rs.take (k + 1)) = q + (12 + r.length)) := by
        unfold Hid; rw [take_snoc HX.out, baseL_append, HQ.out]; simp [baseL]; omega
      have hq2 : q + (12 + r.length) ≤ 16 + bl := by have h1 := baseL_take rs (k + 1); have := HNX.out; have := HB.out; omega
      have hcut := cut_at gv 0 (16 + bl) (16 + bl) q (q : Int) rfl (by omega) (by omega)
      rw [Nat.zero_add] at hcut
      have hkw : IntKind.u32.wrap (k : Int) = (k : Int) := by rw [IntKind.wrap_u32']; omega
      have HPF := hid (putFrame_any gv q (16 + bl - q) (16 + bl - q) g k 5 _ r x wr HBk.out hx (hx0.apart_new (by have := HGV.out; omega)) hgv0 (HT.out.below HBr.out hz) (by omega) (Nat.le_refl _) (by omega) (by rw [half0_len, ← HB.out]; omega) hg (by omega) (by omega))
      have HFR : Hid (∀ u, Below wx.heap.size wx u → Calls Tryd.prog 49 #[x] u fun e w' => e = .returned (.int .i64 ((12 + r.length : Nat) : Int)) ∧ w' = u) := fun u hu => framed_any x r u (hx0.below hu) (by omega)
      obtain ⟨rl, HRL⟩ : ∃ rl, Hid (rl = 12 + r.length) := ⟨_, rfl⟩
      rw [← HRL.out] at HFR HNX hq2
      have HST : Hid (splice (half0 g rs k) q (frame g k r) = half0 g rs (k + 1)) := by unfold Hid; rw [HQ.out]; exact half0_step HX.out
      obtain ⟨ax, nx, cx, rfl, -, -, -⟩ := hx.shape
      clear hx hx0 HX hrl2
      go_wp2_with fail
      refine HPF.out.mono ?_
      rintro _ w4 ⟨rfl, hb4, hk4⟩
      rw [HST.out] at hb4
      have HB4 := hid hb4
      have HK4 : Hid (Keeps (At1 gv) w2 w4) := HKk.out.trans hk4
      have HBe4 : Hid (Below wx.heap.size wx w4) := HK4.out.below HB2.out HB2.out.size (fun j hj e => by unfold At1 at e; have := HGV.out; omega)
      clear hb4 hk4
      go_wp2_with fail
      refine (HFR.out _ HBe4.out).mono ?_
      rintro _ w5 ⟨rfl, rfl⟩
      go_wp2_with fail
      go_roundw
      case rel => exact ⟨k + 1, q + rl, by go_num, by omega, by go_num, HNX.out.symm, by omega, HB4, HK4⟩
      case measure => simp [intOf]; omega
    · have hkn : rs.length ≤ k := by have := HN.out; omega
      have hB5 := HBk.out
      rw [half0_all g rs k hkn] at hB5
      have hgl := hB5.lt
      have hL5 := (HL.out.below HB2.out).keeps (HKk.out.mono (fun j _ e hS => by unfold At1 at e; have := HL.out.lt j hS; have := HGV.out; omega))
      obtain ⟨-, -, -, -, d4, d5, d6, -, df⟩ := lg_cells hL5.row
      have HL5 := hid hL5
      have HB5 := hid hB5
      have HSE : Hid (SeesB wr (.slice (some ⟨gv, 0, none⟩) (16 + bl) (16 + bl)) (gener g rs)) := hB5.sees (by rw [gener_len, ← HB.out]) (by rw [gener_len, ← HB.out]; omega) (gener_bytes (fun r hr y hy => by
        obtain ⟨i, hi⟩ := List.mem_iff_getElem?.1 hr
        obtain ⟨_, _, x, r', _, _, _, hx, HX⟩ := HV.out.at i (by have := (List.getElem?_eq_some_iff.1 hi).1; have := HN.out; omega)
        have e : r' = r := by have h1 := HX.out; rw [hi] at h1; exact (Option.some.inj h1).symm
        rw [← e] at hy
        exact hx.bytes y hy))
      have hplr : p < wr.heap.size := HL5.out.lt p HL.out.sp
      clear hL5 hB5
      go_upto_region 11 with fail
      have hrow := HL5.out.row
      obtain ⟨U, HU⟩ : ∃ U, Hid (U = ((wr.setCell ⟨p, 4, none⟩ (.int .i64 (ar : Int))).setCell ⟨p, 5, none⟩ (.int .u32 (g : Int))).setCell ⟨p, 6, none⟩ (.int .u32 (n : Int))) := ⟨_, rfl⟩
      have hkU : Keeps (At1 p) wr U := by rw [HU.out]; exact (((Keeps.refl (At1 p) wr).set ⟨p, 4, none⟩ rfl _).set ⟨p, 5, none⟩ rfl _).set ⟨p, 6, none⟩ rfl _
      have hsU : U.heap.size = wr.heap.size := by rw [HU.out]; simp [World.setCell]
      have hrU : U.heap[p]? = some (lgRow (.slice (some ⟨ga, 0, none⟩) na ca) (.slice (some ⟨gb, 0, none⟩) nb cb) vw (dirt l.ws) ar g rs.length l.size) := by
        rw [HU.out, ← HN.out]
        unfold lgRow at hrow ⊢
        rw [set_cells (set_cells (set_cells hrow))]
        rfl
      have hLU := HL5.out.reset (l' := { l with cur := ar, gen := g, fr := rs.length }) hkU hrU rfl rfl rfl (fun k hk => by rw [hsU]; exact HL5.out.lt k hk)
      have hpg : p ≠ gv := by have := HGV.out; omega
      have hSU : SeesB U (.slice (some ⟨gv, 0, none⟩) (16 + bl) (16 + bl)) (gener g rs) := HSE.out.keeps hkU (fun a n c e hk => by simp at e; obtain ⟨rfl, -, -⟩ := e; exact hpg hk.symm)
      have HWR := hid (write_any S wx.heap.size p gv (16 + bl) (16 + bl) 0 _ ga na ca gb nb cb vw X _ U hLU HL.out.lt (by rw [hsU]; exact HBr.out.size) (by have := HGV.out; omega) (by rw [hsU]; exact hgl) hSU hX hd (by omega))
      rw [← HU.out]
      have HKU : Hid (Keeps S wx U) := (Keeps.of HBr.out).trans (hkU.mono (fun k _ e => by unfold At1 at e; exact e ▸ HL.out.sp))
      clear hrow hkU hrU hLU hSU d4 d5 d6 df
      go_wp2_with fail
      refine HWR.out.mono ?_
      rintro _ w6 ⟨rfl, ⟨vw', X', hL6, -⟩, hk6⟩
      have HFIN : Hid (LogAt w6 (NewS S wx.heap.size w6) p (l.beg ar g rs) ∧ Keeps S wx w6) := by
        refine ⟨⟨ga, na, ca, gb, nb, cb, vw', X', ?_⟩, HKU.out.trans (hk6.mono (fun k _ e => by
          rcases e with e | e
          · exact e ▸ HL.out.sp
          · exact HL.out.sw k e))⟩
        have e : Lg.push { l with cur := ar, gen := g, fr := rs.length } 0 (gener g rs) = l.beg ar g rs := by
          unfold Lg.push Lg.beg
          rw [Nat.zero_add, gener_len]
        rw [← e]
        exact hL6
      clear hL6 hk6
      go_wp2_with fail
      exact bodyPost_end (results_none Tryd.results38 _ _ _) rfl ⟨rfl, HFIN.out.1, HFIN.out.2⟩

/-- Rewrite's error, and what it leaves. -/
def rewE (rs : List (List Nat)) : Nat := if rs.any (fun r => decide (65536 < r.length)) then 2 else if 1048576 < 16 + baseL rs then 4 else 0
def rewL (l : Lg) (rs : List (List Nat)) : Lg := if rewE rs = 0 then l.rew rs else l

theorem rewrite_any (S : Nat → Prop) (p : Nat) (l : Lg) (v : Value) (rs : List (List Nat)) (w : World) (h : LogAt w S p l) (hok : l.Ok) (hv : SeesBB w v rs) (hrl : rs.length ≤ 8796093022208) (hl : l.ws.length + 1 ≤ 3000000000000) (ht : TabN w) :
    Calls Tryd.prog 28 #[.pointer (some ⟨p, 0, none⟩), v] w fun e w' => e = .returned (.int .i64 ((rewE rs : Nat) : Int)) ∧ Left w w' S p (rewL l rs) := by
  obtain ⟨ga, na, ca, gb, nb, cb, vw, X, h⟩ := h
  have HL := hid h
  have HV := hid hv
  have HT := hid ht
  have HOK := hid hok
  have HBL : Hid ((∀ r ∈ rs, r.length ≤ 65536) → Calls Tryd.prog 55 #[v] w fun e w' => e = .returned (.int .i64 ((baseL rs : Nat) : Int)) ∧ w' = w) := baseLen_any v rs w hv hrl
  have HBLE : Hid ((∀ r ∈ rs, r.length ≤ 65536) → baseL rs ≤ 65548 * rs.length) := baseL_le
  obtain ⟨ao, n, cap, rfl, HN, hn1, hn2⟩ := hv.shape
  unfold maxLen at hn2
  obtain ⟨c0, c1, c2, c3, c4, c5, c6, c7, cf⟩ := lg_cells h.row
  have hcur := hok.cur
  have hge := hok.gen
  have hplt := h.lt p h.sp
  have HXL : Hid (X.length = l.ws.length) := by unfold Hid; rw [← h.wr, List.length_map]
  have HSAME : Hid (Left w w S p l) := ⟨(show LogAt w S p l from ⟨ga, na, ca, gb, nb, cb, vw, X, HL.out⟩).grow, HOK.out, Keeps.refl _ _⟩
  have HBG : Hid ((∀ r ∈ rs, r.length ≤ 65536) → 16 + baseL rs ≤ 1048576 → ∀ u, Below w.heap.size w u → Calls Tryd.prog 38 #[.pointer (some ⟨p, 0, none⟩), .int .i64 ((1 - l.cur : Nat) : Int), .int .u32 (((l.gen + 1) % 4294967296 : Nat) : Int), .slice ao n cap] u fun e w' => e = .returned (.tuple #[]) ∧ Left w w' S p (l.rew rs)) := fun hr hb u hu => by
    refine (begin_any S p (1 - l.cur) ((l.gen + 1) % 4294967296) l ga na ca gb nb cb vw _ X rs u (HL.out.below hu) (HV.out.below hu) hrl hr hb (by omega) (by have := HXL.out; omega) (by have := HOK.out.ws.le; omega) (HT.out.below hu HT.out.2)).mono ?_
    rintro e w' ⟨rfl, q1, q2⟩
    refine ⟨rfl, ⟨?_, HOK.out.beg (by omega) (by omega) (fun r hr y hy => ?_) hb, (Keeps.of hu).trans q2⟩⟩
    · obtain ⟨ga, na, ca, gb, nb, cb, vw, X, h⟩ := q1
      have hs := hu.size
      exact ⟨ga, na, ca, gb, nb, cb, vw, X, h.row, h.a, h.b, h.ne, h.ws, h.wr, fun x hx => ⟨(h.by_ x hx).1, fun a n c e => ⟨((h.by_ x hx).2 a n c e).1.imp id (fun ⟨z1, z2⟩ => ⟨by omega, z2⟩), ((h.by_ x hx).2 a n c e).2⟩⟩, h.sp.imp id (fun ⟨z1, z2⟩ => ⟨by omega, z2⟩), h.sa.imp id (fun ⟨z1, z2⟩ => ⟨by omega, z2⟩), h.sb.imp id (fun ⟨z1, z2⟩ => ⟨by omega, z2⟩), fun k hk => (h.sw k hk).imp id (fun ⟨z1, z2⟩ => ⟨by omega, z2⟩), fun k hk => by
        rcases hk with hk | ⟨-, hk⟩
        · exact h.lt k (.inl hk)
        · exact hk⟩
    · obtain ⟨i, hi⟩ := List.mem_iff_getElem?.1 hr
      obtain ⟨_, _, x, r', _, _, _, hx, HX⟩ := HV.out.at i (by have := (List.getElem?_eq_some_iff.1 hi).1; have := HN.out; omega)
      have e : r' = r := by have h1 := HX.out; rw [hi] at h1; exact (Option.some.inj h1).symm
      rw [← e] at hy
      exact hx.bytes y hy
  have e1 : ((1 - l.cur : Nat) : Int) = 1 - (l.cur : Int) := by omega
  have e2 : IntKind.u32.wrap ((l.gen : Int) + 1) = (((l.gen + 1) % 4294967296 : Nat) : Int) := by rw [IntKind.wrap_u32']; omega
  rw [e1] at HBG
  generalize (l.gen + 1) % 4294967296 = gg at *
  have k4 : ∀ u : World, u = w.drew → u.cell? ⟨p, 4, none⟩ = some (.int .i64 (l.cur : Int)) := fun u hu => by rw [hu]; exact c4
  clear h hv ht hok c0 c1 c2 c3 c6 c7 e1
  go_enter Tryd.func28, Tryd.ntmps28
  go_wp2_with fail
  go_loop [9] (fun i => ∃ k : Nat, i = .int .i64 (k : Int) ∧ k ≤ n ∧ Hid (∀ r ∈ rs.take k, r.length ≤ 65536)) (fun i => n - (intOf i).toNat)
  case atStart => exact ⟨0, rfl, Nat.zero_le _, fun r hr => by simp at hr⟩
  case round =>
    obtain ⟨k, rfl, hk, HS⟩ := hrel
    by_cases hlt : k < n
    · obtain ⟨gr, off, x, r, rfl, hgr, hc, hx, HX⟩ := HV.out.at k hlt
      obtain ⟨ax, nx, cx, rfl, HNX, hx1, hx2⟩ := hx.shape
      unfold maxLen at hx2
      by_cases hb : 65536 < nx
      · have HE : Hid (rewE rs = 2 ∧ rewL l rs = l) := by
          have : rewE rs = 2 := by
            unfold rewE
            rw [if_pos (List.any_eq_true.2 ⟨r, List.mem_of_getElem? HX.out, by simp; have := HNX.out; omega⟩)]
          exact ⟨this, by unfold rewL; rw [this]; rfl⟩
        clear hx HX
        go_wp2_with fail
        go_ret
        rw [HE.out.1, HE.out.2]
        exact ⟨rfl, HSAME.out⟩
      · have HS2 : Hid (∀ r ∈ rs.take (k + 1), r.length ≤ 65536) := by
          intro q hq
          rw [take_snoc HX.out] at hq
          rcases List.mem_append.1 hq with hq | hq
          · exact HS.out q hq
          · simp at hq; subst hq; have := HNX.out; omega
        clear hx HX HS
        go_wp2_with fail
        go_round
        case rel => exact ⟨k + 1, by go_num, by omega, HS2⟩
        case measure => simp [intOf]; omega
    · have hall : ∀ r ∈ rs, r.length ≤ 65536 := by
        have := HS.out
        rw [List.take_of_length_le (by have := HN.out; omega)] at this
        exact this
      have HB := hid (HBL.out hall)
      have hble : baseL rs ≤ 576582705658691584 := by have := HBLE.out hall; omega
      have HBG2 := hid (HBG.out hall)
      have hany : (rs.any fun r => decide (65536 < r.length)) = false := by
        rw [List.any_eq_false]
        intro r hr
        simp
        exact hall r hr
      have HRE : Hid (rewE rs = if 1048576 < 16 + baseL rs then 4 else 0) := by unfold Hid rewE; rw [hany]; rfl
      generalize baseL rs = bl at *
      clear hall hany HBL HBLE HBG HS
      by_cases hfull : 1048576 < 16 + bl
      · have HE : Hid (rewE rs = 4 ∧ rewL l rs = l) := by
          have : rewE rs = 4 := by rw [HRE.out, if_pos hfull]
          exact ⟨this, by unfold rewL; rw [this]; rfl⟩
        go_wp2_with fail
        refine HB.out.mono ?_
        rintro _ w1 ⟨rfl, rfl⟩
        go_wp2_with fail
        go_ret
        rw [HE.out.1, HE.out.2]
        exact ⟨rfl, HSAME.out⟩
      · have HE : Hid (rewE rs = 0 ∧ rewL l rs = l.rew rs) := by
          have : rewE rs = 0 := by rw [HRE.out, if_neg hfull]
          exact ⟨this, by unfold rewL; rw [if_pos this]⟩
        have HBG3 := hid (HBG2.out (by omega))
        go_wp2_with fail
        refine HB.out.mono ?_
        rintro _ w1 ⟨rfl, rfl⟩
        go_upto_region 9 with fail
        refine wp_region_still_tail 12 (by kernel_rfl) (by kernel_rfl) ?_
        simp only [List.take_succ_cons, List.take_zero, List.drop_succ_cons, List.drop_zero]
        iterate 12 still_step
        refine wpStill_nil ?_
        go_wp2_with fail
        refine (HBG3.out _ (below_drew (Below.refl _ _))).mono ?_
        rintro _ w2 ⟨rfl, hL⟩
        have HLL := hid hL
        clear hL
        go_wp2_with fail
        go_ret
        rw [HE.out.1, HE.out.2]
        exact ⟨rfl, HLL.out⟩
end Go.Proofs.YteoebmpfdcbbmacDoor
