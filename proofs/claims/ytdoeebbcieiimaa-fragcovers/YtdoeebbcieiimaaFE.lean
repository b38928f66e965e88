import Derived.Test.YtdoeebbcieiimaaFD
import Derived.Deep.CutRange
namespace Go.Proofs.Ytdoeebbcieiimaa
open Go.ChangeShapes Go.WideShapes Go.ChangeAt Go.RowKit
set_option maxHeartbeats 4000000
set_option maxRecDepth 100000

theorem pk_cells {u : World} {n : Nat} {h : Hd} {vo vb : Value} {t : TypeId} (hb : u.heap[n]? = some (.cells (pkCells h vo vb) t)) :
    (u.cell? ⟨n, 0, none⟩ = some (.int .u8 (h.tos : Int)) ∧ u.cell? ⟨n, 1, none⟩ = some (.int .u16 (h.id : Int)) ∧ u.cell? ⟨n, 2, none⟩ = some (.bool h.df) ∧ u.cell? ⟨n, 3, none⟩ = some (.bool h.mf) ∧ u.cell? ⟨n, 4, none⟩ = some (.int .i64 h.off) ∧ u.cell? ⟨n, 5, none⟩ = some (.int .u8 (h.ttl : Int)) ∧ u.cell? ⟨n, 6, none⟩ = some (.int .u8 (h.proto : Int)) ∧ u.cell? ⟨n, 7, none⟩ = some (.int .u32 (h.src : Int)) ∧ u.cell? ⟨n, 8, none⟩ = some (.int .u32 (h.dst : Int)) ∧ u.cell? ⟨n, 9, none⟩ = some vo ∧ u.cell? ⟨n, 10, none⟩ = some vb) :=
  ⟨pk_at hb 0 (by omega), pk_at hb 1 (by omega), pk_at hb 2 (by omega), pk_at hb 3 (by omega), pk_at hb 4 (by omega), pk_at hb 5 (by omega), pk_at hb 6 (by omega), pk_at hb 7 (by omega), pk_at hb 8 (by omega), pk_at hb 9 (by omega), pk_at hb 10 (by omega)⟩

/-- What holds of the rest at each turn. -/
structure Turn (w2 : World) (later : List Nat) (mtu : Nat) (total ps : List Pk) (h : Hd) (vo vb : Value) (B : List Nat) : Prop where
  ok : h.Ok
  ol : h.opts.length ≤ 40
  bl : B.length ≤ 65535
  o0 : 0 ≤ h.off
  o1 : h.off + (B.length : Int) ≤ 65535
  so : SeesB w2 vo h.opts
  sb : SeesB w2 vb B
  eq : ∃ f, B.length ≤ f ∧ ps ++ cutL later mtu f h B = total

theorem Turn.last {w2 : World} {later : List Nat} {mtu : Nat} {total ps : List Pk} {h : Hd} {vo vb : Value} {B : List Nat} (t : Turn w2 later mtu total ps h vo vb B) (hf : 20 + h.opts.length + B.length ≤ mtu) : ps ++ [(h, B)] = total := by
  obtain ⟨f, _, e⟩ := t.eq
  rw [cutL_fits hf] at e
  exact e

theorem Turn.more {w2 : World} {later : List Nat} {mtu : Nat} {total ps : List Pk} {h : Hd} {vo vb vl vb' : Value} {B : List Nat} (t : Turn w2 later mtu total ps h vo vb B) (hm : 68 ≤ mtu) (hl : later.length ≤ 40) (hf : ¬ 20 + h.opts.length + B.length ≤ mtu)
    (hsl : SeesB w2 vl later) (hsb : SeesB w2 vb' (B.drop (rmOf h mtu))) : Turn w2 later mtu total (ps ++ [(frontH h, B.take (rmOf h mtu))]) (nextH h (rmOf h mtu) later) vl vb' (B.drop (rmOf h mtu)) ∧ ps.length + 2 ≤ total.length := by
  obtain ⟨r1, r2, r3⟩ := rm_le hf
  have r4 := rm_pos t.ol hm
  have q0 := t.o0
  have q1 := t.o1
  obtain ⟨f, hf1, e⟩ := t.eq
  rw [cutL_more hf hf1 hm t.ol] at e
  refine ⟨⟨next_ok t.ok (by omega) (by omega), hl, ?_, ?_, ?_, hsl, hsb, f - 1, ?_, ?_⟩, ?_⟩
  · rw [List.length_drop]; have := t.bl; omega
  · show 0 ≤ h.off + _; omega
  · show h.off + _ + _ ≤ _; rw [List.length_drop]; omega
  · rw [List.length_drop]; omega
  · rw [List.append_assoc]; exact e
  · rw [← e, List.length_append, List.length_cons]
    have : 1 ≤ (cutL later mtu (f - 1) (nextH h (rmOf h mtu) later) (B.drop (rmOf h mtu))).length := by
      cases f - 1 with
      | zero => simp [cutL]
      | succ k => rw [cutL]; split <;> simp
    omega

theorem cut_any (h : Hd) (vo vb : Value) (B : List Nat) (mtu : Nat) (w : World) (hok : h.Ok) (hvo : SeesB w vo h.opts) (hvb : SeesB w vb B) (hm : 68 ≤ mtu) (hm2 : mtu ≤ 9223372036854775807) (he : refE h B.length = 0) :
    Calls Try.prog 27 #[.agg (pkCells h vo vb), .int .i64 (mtu : Int)] w fun e w' => ∃ v', e = .returned v' ∧ PkRow w' w.heap.size v' (cutL (M.copied h.opts).1 mtu B.length h B) ∧ Below w.heap.size w w' := by
  obtain ⟨r1, r2, r3⟩ := refE_ok he
  obtain ⟨l1, _⟩ := area_len r1
  obtain ⟨f0, hf0, hf1, _⟩ := piece_off r2
  obtain ⟨la, ll, le⟩ := later_area r1
  have lby := later_bytes hvo.bytes
  have hoff : h.off + (B.length : Int) ≤ 65535 := by
    unfold M.pieceOk at r2
    simp at r2
    omega
  obtain ⟨w1, hw1⟩ : ∃ w1, w1 = w.alloc (.cells (pkCells h vo vb) 29) := ⟨_, rfl⟩
  have hb1 : Below w.heap.size w w1 := by rw [hw1]; exact (Below.refl _ _).alloc (Nat.le_refl _) _
  have hs1 : w1.heap.size = w.heap.size + 1 := by rw [hw1]; simp
  have hk1 : w1.heap[w.heap.size]? = some (.cells (pkCells h vo vb) 29) := by rw [hw1]; exact heap_alloc_new w _
  have c9 : w1.cell? ⟨w.heap.size, 9, none⟩ = some vo := pk_at hk1 9 (by omega)
  have HC := hid (copied_code vo h.opts w1 (hvo.below hb1))
  rw [le] at HC
  obtain ⟨total, htot⟩ : ∃ total, total = cutL (M.copied h.opts).1 mtu B.length h B := ⟨_, rfl⟩
  rw [← htot]
  obtain ⟨later, hlat⟩ : ∃ later, later = (M.copied h.opts).1 := ⟨_, rfl⟩
  rw [← hlat] at HC htot ll lby
  have HT0 : Hid (∀ w2, Below w.heap.size w w2 → Turn w2 later mtu total [] h vo vb B) := fun w2 hb2 => ⟨hok, l1, by omega, by omega, hoff, hvo.below hb2, hvb.below hb2, B.length, Nat.le_refl _, htot.symm⟩
  have HTL : Hid (total.length ≤ 65536 ∧ total.length ≤ B.length + 1) := by
    have key : ∀ (f : Nat) (h : Hd) (B : List Nat), (cutL later mtu f h B).length ≤ f + 1 := by
      intro f
      induction f with
      | zero => intro h B; simp [cutL]
      | succ f ih => intro h B; rw [cutL]; split
                     · simp
                     · rw [List.length_cons]; have := ih (nextH h (rmOf h mtu) later) (B.drop (rmOf h mtu)); omega
    have := key B.length h B
    rw [← htot] at this
    exact ⟨by omega, this⟩
  obtain ⟨ao, no, co, rfl, HNO, _, _⟩ := hvo.shape
  obtain ⟨ab, nb, cb, rfl, HNB, _, _⟩ := hvb.shape
  have HW1 := hid hw1
  have HB1 := hid hb1
  have HK1 := hid hk1
  have HS1 := hid hs1
  have HLB := hid lby
  have HLL := hid ll
  have HE := hid he
  clear hw1 hb1 hk1 hs1 hvo hvb hok he r1 r2 r3 l1 hf0 hf1 la ll le lby hoff htot hlat
  obtain ⟨cs, hcs⟩ : ∃ cs, cs = pkCells h (.slice ao no co) (.slice ab nb cb) := ⟨_, rfl⟩
  rw [← hcs] at HW1 HK1 ⊢
  have HCS := hid hcs
  have HALL0 : Hid (cs.all (·.oneCell') = true) := by unfold Hid; rw [hcs]; exact all_pk _ _ _ _ _ _ _
  have HSZ0 : Hid (cs.size = 11) := by unfold Hid; rw [hcs]; rfl
  clear hcs
  go_enter Try.func27, Try.ntmps27
  go_upto_region 1 with fail
  rw [← HW1.out]
  go_wp2_with fail
  refine HC.out.mono ?_
  rintro _ w2 ⟨vl, rfl, hol, hb2⟩
  obtain ⟨al, cl, rfl⟩ := hol.shape
  have HSL := hid (hol.sees HLB.out)
  have HB2 : Hid (Below w.heap.size w w2) := HB1.out.trans (hb2.mono HB1.out.size)
  have HT1 := hid (HT0.out _ HB2.out)
  have HK2 := hid (below_keeps hb2 HK1.out (by have := HS1.out; omega))
  rw [HCS.out] at HK2
  have HL2 := hid (pk_load HK2.out)
  rw [← HCS.out] at HL2
  have HZ2 : Hid ((w2.alloc (.cells Z29 29)).heap[w2.heap.size]? = some (.cells Z29 29)) := heap_alloc_new w2 _
  have HBA : Hid (Below w2.heap.size w2 (w2.alloc (.cells Z29 29))) := (Below.refl _ _).alloc (Nat.le_refl _) _
  clear hol hb2 c9 HC HT0
  go_wp2_with (first | (refine wpList_ld 29 ⟨w.heap.size, 0, none⟩ (.tmp 2) rfl rfl HL2.out rfl ?_) | (refine wpList_st rfl 29 (.tmp 8) (.tmp 18) rfl w2.heap.size cs rfl rfl 29 Z29 HZ2.out (by rw [HSZ0.out]; exact sz29) (by rw [HSZ0.out]; rfl) HALL0.out ?_) | fail)
  intro w3 hk3 hbut3
  have HB3 : Hid (Below w2.heap.size w2 w3) := hbut3.below HBA.out (by simp) (Nat.le_refl _)
  have HSZ3 : Hid (w2.heap.size + 1 ≤ w3.heap.size) := by have := hbut3.size; unfold Hid; simpa using this
  have HK3 := hid hk3
  rw [HCS.out] at HK3
  clear hk3 hbut3 HL2 HK2 HZ2 HBA HALL0 HSZ0
  obtain ⟨r, hr⟩ : ∃ r, r = w2.heap.size := ⟨_, rfl⟩
  rw [← hr] at HB3 HSZ3 HK3 ⊢
  have HR := hid hr
  clear hr
  go_wp2_with fail
  go_loopw [5] (fun v wv => ∃ (ps : List Pk) (h' : Hd) (vo' vb' : Value) (B' : List Nat) (wr : World), wr = wv ∧ Hid (PkRow wr (r + 1) v ps) ∧ Hid (wr.heap[r]? = some (.cells (pkCells h' vo' vb') 29)) ∧ Hid (Turn w2 later mtu total ps h' vo' vb' B') ∧ Hid (Below r w2 wr) ∧ Hid (r + 1 ≤ wr.heap.size)) (fun v _ => total.length - lenOf v)
  case atStart => exact ⟨[], h, _, _, B, _, rfl, pkRow_nil _ _, HK3, HT1, HB3, HSZ3⟩
  case round =>
    obtain ⟨ps, h', vo', vb', B', wr, rfl, HP, HK, HT, HB, HSZ⟩ := hrel
    obtain ⟨av, cv, rfl, _, _⟩ := HP.out.shape
    have HL := hid (pk_load HK.out)
    have hbl := HT.out.bl
    have hol := HT.out.ol
    have hBr : Below w2.heap.size w2 wr := by rw [← HR.out]; exact HB.out
    have HSE := hid (size_any h' vo' vb' B' wr (HT.out.so.below hBr) (HT.out.sb.below hBr) (by omega) (by omega))
    obtain ⟨S, hS⟩ : ∃ S, S = 20 + h'.opts.length + B'.length := ⟨_, rfl⟩
    rw [← hS] at HSE
    have hS2 : S ≤ 65595 := by omega
    obtain ⟨cr, hcr⟩ : ∃ cr, cr = pkCells h' vo' vb' := ⟨_, rfl⟩
    rw [← hcr] at HL HSE
    have HCR := hid hcr
    have HSS := hid hS
    have HBR := hid hBr
    have HBL := hid hbl
    have HOL := hid hol
    clear hcr hS hBr hbl hol
    by_cases hfit : S ≤ mtu
    · have hq : ((mtu : Int) < (S : Int)) = False := by simp; omega
      have HFIT : Hid (20 + h'.opts.length + B'.length ≤ mtu) := by have := HSS.out; unfold Hid; omega
      go_wp2_with (first | (refine wpList_ld 29 ⟨r, 0, none⟩ (.tmp 8) rfl rfl HL.out rfl ?_) | fail)
      refine HSE.out.mono ?_
      rintro _ w4 ⟨rfl, hb4⟩
      have HB4 := hid hb4
      have HK4 := hid (below_keeps HB4.out HK.out (by have := HSZ.out; omega))
      have HL4 := hid (pk_load HK4.out)
      have hBr4 := HBR.out.trans (HB4.out.mono HBR.out.size)
      have HF := hid (fresh_any h' vo' vb' B' w4 (HT.out.so.below hBr4) (HT.out.sb.below hBr4) (by have := HOL.out; omega) (by have := HBL.out; omega))
      rw [← HCR.out] at HL4 HF
      clear hb4 hBr4 HL HSE
      go_wp2_with (first | (refine wpList_ld 29 ⟨r, 0, none⟩ (.tmp 8) rfl rfl HL4.out rfl ?_) | fail)
      refine HF.out.mono ?_
      rintro _ w5 ⟨vo5, vb5, rfl, ho5, hob5, hb5⟩
      have HB5 := hid hb5
      have hs5 : r + 1 ≤ w4.heap.size := by have h1 := HSZ.out; have h2 := HB4.out.size; omega
      have HOK : Hid (PkOk w5 (r + 1) ((h', B'), vo5, vb5)) := ⟨OwnB.low ho5 (by omega), OwnB.low hob5 (by omega), HT.out.so.bytes, HT.out.sb.bytes⟩
      have HPR : Hid (PkRow w5 (r + 1) (.slice av ps.length cv) ps) := (HP.out.below HB4.out).below HB5.out
      have HS5 : Hid (r + 1 ≤ w5.heap.size) := by have := HB5.out.size; unfold Hid; omega
      have HPL : Hid (ps.length ≤ 65536) := by
        have h1 := HTL.out.1
        rw [← HT.out.last HFIT.out, List.length_append] at h1
        unfold Hid; omega
      have HEND := hid (HT.out.last HFIT.out)
      clear ho5 hob5 hb5 hs5 HF HL4
      go_wp2_with (first | (refine wpList_bs1 rfl (.tmp 63) rfl h' vo5 vb5 rfl ?_) | (at_builtin; refine wpList_append_pk rfl _ _ rfl (r + 1) _ ps rfl (HPR.out.below ((Below.refl _ _).alloc (Nat.le_refl _) _)) (h', B') vo5 vb5 w5.heap.size rfl (heap_alloc_new w5 _) ?c3 ?c4 ?c5 ?_) | fail)
      case c3 =>
        have hA : Below w5.heap.size w5 (w5.alloc (.cells (pkCells h' vo5 vb5) 29)) := (Below.refl _ _).alloc (Nat.le_refl _) _
        exact ⟨HOK.out.opts.below hA, HOK.out.body.below hA, HOK.out.ob, HOK.out.bb⟩
      case c4 => have := HPL.out; omega
      case c5 => have := HS5.out; simp; omega
      intro v' w7 hp7 hb7
      rw [HEND.out] at hp7
      have HP7 := hid hp7
      have HB7 : Hid (Below w.heap.size w w7) := by
        have h1 : Below (r + 1) w5 w7 := ((Below.refl _ _).alloc HS5.out _).trans hb7
        have h2 : Below w.heap.size w w5 := HB2.out.trans ((HBR.out.trans ((HB4.out.mono HBR.out.size).trans (HB5.out.mono (by have := HB4.out.size; have := HBR.out.size; omega)))).mono HB2.out.size)
        exact h2.trans (h1.mono (by have := HB2.out.size; have := HR.out; omega))
      clear hp7 hb7
      go_wp2_with fail
      go_ret
      exact ⟨_, rfl, HP7.out.low (by have := HB2.out.size; have := HR.out; omega), HB7.out⟩
    · have hq : ((mtu : Int) < (S : Int)) = True := by simp; omega
      have HNF : Hid (¬ 20 + h'.opts.length + B'.length ≤ mtu) := by have := HSS.out; unfold Hid; omega
      obtain ⟨q1, q2, q3⟩ := rm_le HNF.out
      have q4 := rm_pos HOL.out hm
      obtain ⟨k, hk⟩ : ∃ k, k = rmOf h' mtu := ⟨_, rfl⟩
      rw [← hk] at q1 q2 q3 q4
      have HKK := hid hk
      obtain ⟨no', hno'⟩ : ∃ no', no' = h'.opts.length := ⟨_, rfl⟩
      have HNO' := hid hno'
      have hno40 : no' ≤ 40 := by have := HOL.out; omega
      have HKE : Hid ((mtu : Int) - (20 + (no' : Int)) - ((mtu : Int) - (20 + (no' : Int))) % 8 = (k : Int)) := by
        have h1 := HKK.out
        unfold rmOf at h1
        rw [← HNO'.out] at h1
        unfold Hid; omega
      have hk64 : k ≤ 65535 := by have := HBL.out; omega
      have HQ1 := hid q1
      clear hk hno' q1 q2 q3
      go_wp2_with (first | (refine wpList_ld 29 ⟨r, 0, none⟩ (.tmp 8) rfl rfl HL.out rfl ?_) | fail)
      refine HSE.out.mono ?_
      rintro _ w4 ⟨rfl, hb4⟩
      have HB4 := hid hb4
      have HK4 := hid (below_keeps HB4.out HK.out (by have := HSZ.out; omega))
      have HL4 := hid (pk_loadH HK4.out)
      have hBr4 := HBR.out.trans (HB4.out.mono HBR.out.size)
      have HHS := hid (headSize_any h' vo' w4 (HT.out.so.below hBr4) (by have := HOL.out; omega))
      rw [← HNO'.out] at HHS
      obtain ⟨ch, hch⟩ : ∃ ch, ch = hdCells h' vo' := ⟨_, rfl⟩
      rw [← hch] at HL4 HHS
      have HBR4 := hid hBr4
      clear hb4 hBr4 HL HSE hch
      go_wp2_with (first | (refine wpList_ld 27 ⟨r, 0, none⟩ (.tmp 24) rfl rfl HL4.out rfl ?_) | fail)
      refine HHS.out.mono ?_
      rintro _ w5 ⟨rfl, hb5⟩
      have HB5 := hid hb5
      have HSZ4 : Hid (r + 1 ≤ w4.heap.size) := by have h1 := HSZ.out; have h2 := HB4.out.size; unfold Hid; omega
      have HK5 := hid (below_keeps HB5.out HK4.out (by have := HSZ4.out; omega))
      have HBR5 : Hid (Below w2.heap.size w2 w5) := HBR4.out.trans (HB5.out.mono HBR4.out.size)
      clear hb5 HL4 HHS
      go_upto_region 7 with fail
      rw [HKE.out]
      have HSO := hid HT.out.so
      have HSB := hid HT.out.sb
      obtain ⟨ao', noo, co', rfl, _, _, _⟩ := HSO.out.shape
      obtain ⟨ab', nb', cb', rfl, HNB', _, _⟩ := HSB.out.shape
      have hkn : k ≤ nb' := by have := HQ1.out; have := HNB'.out; omega
      obtain ⟨aH, HSH, hcutH⟩ := HSB.out.high k (k : Int) rfl hkn
      obtain ⟨aL, HSL2, hcutL⟩ := HSB.out.low k (k : Int) rfl hkn
      obtain ⟨r0, r1, r2, r3, r4, r5, r6, r7, r8, r9, r10⟩ := pk_cells HK5.out
      have hr5 : r < w5.heap.size := by have h1 := HSZ4.out; have h2 := HB5.out.size; omega
      have hr6 : ¬ w5.heap.size = r := by omega
      have hr7 : ¬ r = w5.heap.size := by omega
      go_cut [10] from 19 to 60 (fun p wx => ∃ x, x = wx ∧ p = .pointer (some ⟨w5.heap.size, 0, none⟩) ∧ Hid (x.heap[w5.heap.size]? = some (.cells (pkCells h' (.slice ao' noo co') (.slice aH k cb')) 29)) ∧ Hid (Below w5.heap.size w5 x))
      case first =>
        go_region
        all_goals (
          go_wp2_with fail
          go_meet
          case rel => exact ⟨_, rfl, rfl, heap_alloc_new w5 _, below_drew ((Below.refl _ _).alloc (Nat.le_refl _) _)⟩)
      case rest =>
      obtain ⟨x, rfl, rfl, HPC, HBX⟩ := hcut
      obtain ⟨pb, hpb⟩ : ∃ pb, pb = w5.heap.size := ⟨_, rfl⟩
      rw [← hpb] at HPC ⊢
      have HPB := hid hpb
      have HR5 := hid hr5
      clear r0 r1 r2 r3 r4 r5 r6 r7 r8 r9 r10 hr5 hr6 hr7 hpb hcutH
      go_wp2_with (first | (refine wpList_st1 rfl 4 (.tmp 40) (.const (.bool true)) rfl pb 3 (.bool true) rfl rfl rfl 29 _ (pkCells (frontH h') (.slice ao' noo co') (.slice aH k cb')) HPC.out size4 (by show 3 < 11; decide) rfl ?_) | fail)
      intro w6 hk6 hbut6
      have HB6 : Hid (Below w5.heap.size w5 w6) := hbut6.below HBX.out HBX.out.size (by have := HPB.out; omega)
      have HK6 := hid hk6
      have HL6 := hid (pk_load hk6)
      have hBr6 : Below w2.heap.size w2 w6 := HBR5.out.trans (HB6.out.mono HBR5.out.size)
      have HF := hid (fresh_any (frontH h') _ _ (B'.take k) w6 (HSO.out.below hBr6) (HSH.out.below hBr6) (by have := HOL.out; show h'.opts.length ≤ _; omega) (by have := HBL.out; rw [List.length_take]; omega))
      obtain ⟨cf, hcf⟩ : ∃ cf, cf = pkCells (frontH h') (.slice ao' noo co') (.slice aH k cb') := ⟨_, rfl⟩
      rw [← hcf] at HL6 HF
      clear hk6 hbut6 hBr6 hcf
      go_wp2_with (first | (refine wpList_ld 29 ⟨pb, 0, none⟩ (.tmp 10) rfl rfl HL6.out rfl ?_) | fail)
      refine HF.out.mono ?_
      rintro _ w7 ⟨vo7, vb7, rfl, ho7, hob7, hb7⟩
      have HB7 : Hid (Below w5.heap.size w5 w7) := HB6.out.trans (hb7.mono HB6.out.size)
      have HS7 : Hid (r + 1 ≤ w7.heap.size) := by have h1 := HB7.out.size; have h2 := HR5.out; unfold Hid; omega
      have HOK : Hid (PkOk w7 (r + 1) ((frontH h', B'.take k), vo7, vb7)) := by
        have h1 := HB6.out.size
        have h2 := HR5.out
        exact ⟨OwnB.low ho7 (by omega), OwnB.low hob7 (by omega), HSO.out.bytes, fun b hb => HSB.out.bytes b (List.mem_of_mem_take hb)⟩
      have HPR : Hid (PkRow w7 (r + 1) (.slice av ps.length cv) ps) := ((HP.out.below HB4.out).below HB5.out).below HB7.out
      obtain ⟨HT', HPL⟩ : Hid (Turn w2 later mtu total (ps ++ [(frontH h', B'.take k)]) (nextH h' k later) (.slice al later.length cl) (.slice aL (nb' - k) (cb' - k)) (B'.drop k)) ∧ Hid (ps.length + 2 ≤ total.length) := by
        have := HT.out.more hm HLL.out HNF.out HSL.out (vb' := .slice aL (nb' - k) (cb' - k)) (by rw [← HKK.out]; exact HSL2.out)
        rw [← HKK.out] at this
        exact this
      have HK7 := hid (below_keeps HB7.out HK5.out HR5.out)
      have ho0 := HT.out.o0
      have ho1 := HT.out.o1
      have ho2 : h'.off ≤ 65535 := by omega
      have HPL2 : Hid (ps.length ≤ 65536) := by have h1 := HTL.out.1; have h2 := HPL.out; unfold Hid; omega
      clear ho7 hob7 hb7 HF HL6 HK6 HPC HP HK ho1
      go_wp2_with (first | (refine wpList_bs1 rfl (.tmp 43) rfl (frontH h') vo7 vb7 rfl ?_) | (at_builtin; refine wpList_append_pk rfl _ _ rfl (r + 1) _ ps rfl (HPR.out.below ((Below.refl _ _).alloc (Nat.le_refl _) _)) (frontH h', B'.take k) vo7 vb7 w7.heap.size rfl (heap_alloc_new w7 _) ?c3 ?c4 ?c5 ?_) | fail)
      case c3 =>
        have hA : Below w7.heap.size w7 (w7.alloc (.cells (pkCells (frontH h') vo7 vb7) 29)) := (Below.refl _ _).alloc (Nat.le_refl _) _
        exact ⟨HOK.out.opts.below hA, HOK.out.body.below hA, HOK.out.ob, HOK.out.bb⟩
      case c4 => have := HPL2.out; omega
      case c5 => have := HS7.out; simp; omega
      intro v' w8 hp8 hb8
      obtain ⟨av8, cv8, rfl, _, _⟩ := hp8.shape
      have HP8 := hid hp8
      have HB8 : Hid (Below (r + 1) w7 w8) := ((Below.refl _ _).alloc HS7.out _).trans hb8
      have HK8 := hid (below_keeps HB8.out HK7.out (by omega))
      have c4 : w8.cell? ⟨r, 4, none⟩ = some (.int .i64 h'.off) := pk_at HK8.out 4 (by omega)
      clear hp8 hb8 HPR HOK
      go_wp2_with (first | (refine wpList_st1 rfl 3 (.tmp 52) (.tmp 50) rfl r 4 (.int .i64 (h'.off + (k : Int))) rfl rfl rfl 29 _ (pkCells (nextH h' k later) (.slice ao' noo co') (.slice ab' nb' cb')) HK8.out size3 (by show 4 < 11; decide) rfl ?_) | fail)
      intro w9 hk9 hbut9
      have HK9 := hid hk9
      have HU9 := hid hbut9
      clear hk9 hbut9 c4
      go_wp2_with (first | (refine wpList_st1 rfl 22 (.tmp 55) (.tmp 53) rfl r 9 (.slice al later.length cl) rfl rfl rfl 29 _ (pkCells (nextH h' k later) (.slice al later.length cl) (.slice ab' nb' cb')) HK9.out size22 (by show 9 < 11; decide) rfl ?_) | fail)
      intro w10 hk10 hbut10
      have HK10 := hid hk10
      have HU10 := hid hbut10
      have c10 : w10.cell? ⟨r, 10, none⟩ = some (.slice ab' nb' cb') := pk_at hk10 10 (by omega)
      clear hk10 hbut10
      go_wp2_with (first | (refine wpList_st1 rfl 22 (.tmp 60) (.tmp 59) rfl r 10 (.slice aL (nb' - k) (cb' - k)) rfl rfl rfl 29 _ (pkCells (nextH h' k later) (.slice al later.length cl) (.slice aL (nb' - k) (cb' - k))) HK10.out size22 (by show 10 < 11; decide) rfl ?_) | fail)
      intro w11 hk11 hbut11
      have HK11 := hid hk11
      have HU11 : Hid (But r w8 w11) := (HU9.out.trans HU10.out).trans hbut11
      have HP11 := hid (HP8.out.but HU11.out (by omega))
      rw [show (ps ++ [(frontH h', B'.take k)]).length = ps.length + 1 from by simp] at HP11
      have HB11 : Hid (Below r w2 w11) := by
        refine HU11.out.below ?_ ?_ (Nat.le_refl _)
        · have h1 : Below w2.heap.size w2 w7 := HBR5.out.trans (HB7.out.mono HBR5.out.size)
          rw [← HR.out] at h1
          exact h1.trans (HB8.out.mono (by omega))
        · have h1 := HB8.out.size; have h2 := HS7.out; omega
      have HS11 : Hid (r + 1 ≤ w11.heap.size) := by have h1 := HB8.out.size; have h2 := HS7.out; have h3 := HU11.out.size; unfold Hid; omega
      clear hk11 hbut11 c10
      go_wp2_with fail
      go_roundw
      case rel => exact ⟨_, nextH h' k later, _, _, _, _, rfl, HP11, HK11, HT', HB11, HS11⟩
      case measure => have := HPL.out; simp [lenOf]; omega
end Go.Proofs.Ytdoeebbcieiimaa
