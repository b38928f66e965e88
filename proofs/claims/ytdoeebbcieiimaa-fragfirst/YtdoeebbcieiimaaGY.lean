import Derived.Test.YtdoeebbcieiimaaGX
import Derived.Laws.OwnMore
namespace Go.Proofs.Ytdoeebbcieiimaa
open Go.ChangeShapes Go.WideShapes Go.ChangeAt Go.RowKit
set_option maxHeartbeats 4000000
set_option maxRecDepth 100000

theorem AsmAt.fr {w w' : World} {a : Nat} {room life now last : Int} {bm : Nat} {f : Key → Option Nat} {c tb tm : Nat} {tg : Option Nat} {S : List Tm.H.Dl} {F : List Nat} (h : AsmAt w a room life now last bm f c tb tm tg S) (hF : Tm.Fr F w w') (hd : ∀ x ∈ F, x ∉ fpA a bm tb tm tg) : AsmAt w' a room life now last bm f c tb tm tg S := by
  have hn : ∀ x ∈ fpA a bm tb tm tg, x ∉ F := fun x hx hm => hd x hm hx
  refine ⟨(hF.block a (Array.getElem?_eq_some_iff.1 h.blk).1 (hn a (by simp [fpA]))).trans h.blk, h.map.kept (hF.block bm h.map.lt (hn bm (by simp [fpA]))), h.tim.fr hF (fun y hy => hn y (by simp [fpA, hy]))⟩

/-- What lies in an assembler's blocks. -/
theorem AsmAt.kinds {w : World} {a : Nat} {room life now last : Int} {bm : Nat} {f : Key → Option Nat} {c tb tm : Nat} {tg : Option Nat} {S : List Tm.H.Dl} (h : AsmAt w a room life now last bm f c tb tm tg S) : ∀ x ∈ fpA a bm tb tm tg, ∀ cur t, w.heap[x]? = some (.cells cur t (0, 0)) → t = 88 ∨ t = 118 ∨ t = 135 := by
  intro x hx cur t hc
  obtain ⟨v, L, g, e1, e2, e3, e4, _⟩ := h.tim.ex
  simp only [fpA, Tm.fp, List.mem_cons, Option.mem_toList] at hx
  rcases hx with rfl | rfl | rfl | rfl | hx
  · rw [h.blk] at hc; cases hc; exact .inl rfl
  · obtain ⟨D, ⟨es, clock, h0, _⟩, _⟩ := h.map
    rw [h0] at hc; cases hc
  · rw [e1] at hc; cases hc; exact .inr (.inl rfl)
  · obtain ⟨D, ⟨es, clock, h0, _⟩, _⟩ := e4
    rw [h0] at hc; cases hc
  · rw [← e3] at hx
    rcases e2.2 with ⟨rfl, _⟩ | ⟨g', cap, cur', rfl, _, hg, _⟩
    · cases hx
    · have : g' = x := Option.some.inj hx
      subst this
      rw [hg] at hc; cases hc; exact .inr (.inr rfl)

theorem dg_apart {w : World} {a : Nat} {room life now last : Int} {bm : Nat} {f : Key → Option Nat} {c tb tm : Nat} {tg : Option Nat} {S : List Tm.H.Dl} (h : AsmAt w a room life now last bm f c tb tm tg S) {b : Nat} {d : Dg} {vo vb vh : Value} (hd : DgAt w b d vo vb vh) : ∀ x ∈ b :: (blkL vb ++ blkL vh), x ∉ fpA a bm tb tm tg := by
  have row : ∀ {e s n : Nat} {v : Value} {xs : List Value}, w.ownsRow 0 e s v n xs → ∀ g, v.ownBlock = some g → ∃ cur, w.heap[g]? = some (.cells cur e (0, 0)) := fun hr g hg => by
    rcases hr.2 with ⟨rfl, _⟩ | ⟨g', cap, cur, rfl, _, q2, _⟩
    · cases hg
    · have : g' = g := Option.some.inj hg
      subst this
      exact ⟨cur, q2⟩
  intro x hx hm
  simp only [List.mem_cons, List.mem_append, mem_blkL] at hx
  rcases hx with rfl | hx | hx
  · have := h.kinds _ hm _ _ hd.blk
    revert this; decide
  · obtain ⟨cur, hc⟩ := row hd.body x hx
    have := h.kinds _ hm _ _ hc
    revert this; decide
  · obtain ⟨cur, hc⟩ := row hd.hv x hx
    have := h.kinds _ hm _ _ hc
    revert this; decide
end Go.Proofs.Ytdoeebbcieiimaa

namespace Go.Proofs.Ytdoeebbcieiimaa
open Go.ChangeShapes Go.WideShapes Go.ChangeAt Go.RowKit
set_option maxHeartbeats 4000000
set_option maxRecDepth 100000

theorem DgAt.fr {w w' : World} {b : Nat} {d : Dg} {vo vb vh : Value} {F : List Nat} (h : DgAt w b d vo vb vh) (hF : Tm.Fr F w w') (h0 : b ∉ F) (h1 : ∀ g, vo.ownBlock = some g → g ∉ F) (h2 : ∀ g, vb.ownBlock = some g → g ∉ F) (h3 : ∀ g, vh.ownBlock = some g → g ∉ F) : DgAt w' b d vo vb vh :=
  ⟨(hF.block b (Array.getElem?_eq_some_iff.1 h.blk).1 h0).trans h.blk, row_fr h.opts hF h1, row_fr h.body hF h2, row_fr h.hv hF h3, h.ob, h.bb, h.ne, h.ol, h.bl, h.hl, h.ll, h.cl, h.hok⟩

theorem opts_apart {w : World} {a : Nat} {room life now last : Int} {bm : Nat} {f : Key → Option Nat} {c tb tm : Nat} {tg : Option Nat} {S : List Tm.H.Dl} (h : AsmAt w a room life now last bm f c tb tm tg S) {b : Nat} {d : Dg} {vo vb vh : Value} (hd : DgAt w b d vo vb vh) : ∀ g, vo.ownBlock = some g → g ∉ fpA a bm tb tm tg := by
  intro g hg hm
  rcases hd.opts.2 with ⟨rfl, _⟩ | ⟨g', cap, cur, rfl, _, q2, _⟩
  · cases hg
  · have : g' = g := Option.some.inj hg
    subst this
    have := h.kinds _ hm _ _ q2
    revert this; decide

theorem tkN_num (o : Nat) (B : List Nat) : ∀ (is : List Nat) (d : Dg), (tkN o B d is).num = d.num
  | [], _ => rfl
  | i :: is, d => tkN_num o B is (tkStep o B d i)
theorem takeD_num (d : Dg) (h : Hd) (o : Nat) (B : List Nat) : (takeD d h o B).num = d.num := tkN_num o B _ _

theorem add_more (a : Nat) (room life now last : Int) (bm : Nat) (f : Key → Option Nat) (c tb tm : Nat) (tg : Option Nat) (S : List Tm.H.Dl) (b : Nat) (d : Dg) (do_ db dh : Value) (h : Hd) (vo vb : Value) (B : List Nat) (o : Nat) (w : World)
    (hA : AsmAt w a room life now last bm f c tb tm tg S) (hnd : (fpA a bm tb tm tg).Nodup) (hnow : Tm.In64 now) (hl1 : 1 ≤ life) (hl2 : life ≤ 1099511627776) (hf : f (keyH h) = some b) (hd : DgAt w b d do_ db dh) (hnum : Tm.In64 d.num)
    (hok : h.Ok) (hvo : SeesB w vo h.opts) (hvb : ∀ u, Tm.Fr (b :: (blkL db ++ blkL dh)) w u → SeesB u vb B) (ho : h.off = (o : Int)) (he : o + B.length ≤ 65535) (hol : h.opts.length ≤ 40)
    (hgood : refE h B.length = 0) (hwh : isWh h = false) (hcl : clash d h B.length = false) (hww : wholeW d h o B.length = false) (hcv : d.cov + newN d.hv o B.length (newsL d.hv o B.length).length ≤ 65535) :
    Calls Try.prog 16 #[.pointer (some ⟨a, 0, none⟩), .agg (pkCells h vo vb)] w fun e w' => e = .returned (.tuple #[.agg Z29, .int .i64 52]) ∧ ∃ tg' V vb' vh', AsmAt w' a room life now last bm f c tb tm tg' (Tm.setR S room (d.num, untilI S d.num now life h.ttl)) ∧ DgAt w' b (takeD d h o B) V vb' vh' ∧ (∀ x ∈ tg'.toList, x ∈ tg.toList ∨ w.heap.size ≤ x) ∧ Tm.Fr (fpA a bm tb tm tg ++ (b :: (blkL db ++ blkL dh))) w w' ∧ (∀ g, V.ownBlock = some g → w.heap.size ≤ g) ∧ NewBlk db vb' w.heap.size ∧ NewBlk dh vh' w.heap.size := by
  obtain ⟨w1, hw1⟩ : ∃ w1, w1 = (w.alloc (.cells (pkCells h vo vb) 29)).alloc (.cells Z29 29) := ⟨_, rfl⟩
  have hs1 : w1.heap.size = w.heap.size + 2 := by rw [hw1]; simp
  have hb1 : Below w.heap.size w w1 := by rw [hw1]; exact ((Below.refl _ _).alloc (Nat.le_refl _) _).alloc (by simp) _
  have hk0 : w1.heap[w.heap.size]? = some (.cells (pkCells h vo vb) 29) := by
    have h1 : Below (w.heap.size + 1) (w.alloc (.cells (pkCells h vo vb) 29)) w1 := by rw [hw1]; exact (Below.refl _ _).alloc (by simp) _
    rw [h1.block _ (by omega)]
    exact heap_alloc_new w _
  have hk1 : w1.heap[w.heap.size + 1]? = some (.cells Z29 29) := by
    have := heap_alloc_new (w.alloc (.cells (pkCells h vo vb) 29)) (.cells Z29 29)
    rw [World.size_alloc] at this
    rw [hw1]; exact this
  have HVB : Hid (∀ u, Below w.heap.size w u → SeesB u vb B) := fun u hu => hvb u (Tm.Fr.of_below hu _)
  have HVF := hid hvb
  have HVO := hid hvo
  have HD := hid hd
  have HA := hid hA
  have HS1 := hid hs1
  have HB1 := hid hb1
  have HK0 := hid hk0
  have HK1 := hid hk1
  have HF25 := hid (fault_any h vo vb B w1 hok (hvo.below hb1) (HVB.out w1 hb1) (by omega) (by omega))
  rw [hgood] at HF25
  have HL1 := hid (pk_load hk0)
  have HW1 := hid hw1
  have HND := hid hnd
  have HFK := hid hf
  have HNUM := hid hnum
  have HOK := hid hok
  have HWH := hid hwh
  have HCL := hid hcl
  have HWW := hid hww
  have HCV := hid hcv
  obtain ⟨cs, hcs⟩ : ∃ cs, cs = pkCells h vo vb := ⟨_, rfl⟩
  have HCS := hid hcs
  rw [← hcs] at HW1 HF25 HL1 HK0 ⊢
  obtain ⟨z, hz⟩ : ∃ z, z = Z29 := ⟨_, rfl⟩
  have HZ := hid hz
  rw [← hz]
  have HZE : Hid (z = #[.int .u8 0, .int .u16 0, .bool false, .bool false, .int .i64 0, .int .u8 0, .int .u8 0, .int .u32 0, .int .u32 0, .slice none 0 0, .slice none 0 0]) := hz
  rw [← hz] at HW1 HK1
  clear hw1 hs1 hb1 hk0 hk1 hd hvo hvb hcs hA hnd hf hnum hok hwh hcl hww hcv hgood hz
  go_enter Try.func16, Try.ntmps16
  go_upto_region 1 with fail
  rw [← HZE.out, ← HW1.out]
  go_wp2_with (first | (refine wpList_ld 29 ⟨w.heap.size, 0, none⟩ (.tmp 3) rfl rfl HL1.out rfl ?_) | fail)
  refine HF25.out.mono ?_
  rintro _ u2 ⟨rfl, hb2⟩
  have HB2 : Hid (Below w1.heap.size w1 u2) := hb2
  have HL2 : Hid ((Instr.loadAt 27 (.pointer (some ⟨w.heap.size, 0, none⟩))).run Try.prog u2 = .ok (.agg (hdCells h vo)) u2) := by
    have h1 := below_keeps hb2 HK0.out (by have := HS1.out; omega)
    rw [HCS.out] at h1
    exact pk_loadH h1
  have HKO := hid (keyOf_any h vo u2)
  obtain ⟨hc, hhc⟩ : ∃ hc, hc = hdCells h vo := ⟨_, rfl⟩
  rw [← hhc] at HL2 HKO
  clear hb2 hhc HF25 HL1
  go_wp2_with (first | (refine wpList_ld 27 ⟨w.heap.size, 0, none⟩ (.tmp 16) rfl rfl HL2.out rfl ?_) | fail)
  refine HKO.out.mono ?_
  rintro _ u3 ⟨rfl, hb3⟩
  have HB3 : Hid (Below w1.heap.size w1 u3) := HB2.out.trans (hb3.mono HB2.out.size)
  obtain ⟨kc, hkc⟩ : ∃ kc, kc = keyC (keyH h) := ⟨_, rfl⟩
  have HKC := hid hkc
  have HKA : Hid (kc.all (·.oneCell') = true) := by unfold Hid; rw [hkc]; simp [keyC, Value.oneCell']
  have HKS : Hid (kc.size = 4) := by unfold Hid; rw [hkc]; rfl
  rw [← hkc]
  clear hb3 HL2 HKO hkc
  go_wp2_with (first | (refine wpList_st rfl 90 (.tmp 7) (.tmp 18) rfl u3.heap.size kc rfl rfl 90 _ (heap_alloc_new u3 _) (by rw [HKS.out]; exact sz90) (by rw [HKS.out]; rfl) HKA.out ?_) | fail)
  intro u4 hk4 hbut4
  have HB4 : Hid (Below w1.heap.size w1 u4) := by
    have h1 := HB3.out.trans (((Below.refl u3.heap.size u3).alloc (Nat.le_refl _) (.cells #[.int .u32 0, .int .u32 0, .int .u8 0, .int .u16 0] 90)).mono HB3.out.size)
    exact hbut4.below h1 h1.size HB3.out.size
  have HK4 := hid hk4
  have HN4 : Hid (w1.heap.size ≤ u3.heap.size) := HB3.out.size
  have HL4 := hid (show (Instr.loadAt 29 (.pointer (some ⟨w.heap.size, 0, none⟩))).run Try.prog u4 = .ok (.agg cs) u4 by
    have h1 := below_keeps HB4.out HK0.out (by have := HS1.out; omega)
    rw [HCS.out] at h1 ⊢
    exact pk_load h1)
  have HIW := hid (isWhole_any h vo vb u4)
  rw [← HCS.out, HWH.out] at HIW
  clear hk4 hbut4
  go_wp2_with (first | (refine wpList_ld 29 ⟨w.heap.size, 0, none⟩ (.tmp 3) rfl rfl HL4.out rfl ?_) | fail)
  refine HIW.out.mono ?_
  rintro _ u5 ⟨rfl, hb5⟩
  have HB5 : Hid (Below w1.heap.size w1 u5) := HB4.out.trans (hb5.mono HB4.out.size)
  have HK5 := hid (below_keeps hb5 HK4.out (Array.getElem?_eq_some_iff.1 HK4.out).1)
  have hbw5 : Below w.heap.size w u5 := HB1.out.trans (HB5.out.mono (by have := HS1.out; omega))
  have hlook : ∀ u : Beh u5, (Instr.lookup 86 (.map (some bm)) (.agg kc) true).run Try.prog u.wd = .ok (.tuple #[.pointer (some ⟨b, 0, none⟩), .bool true]) u.wd := fun u => by
    have := ((HA.out.below hbw5).below u.ok).map.look (keyH_ok HOK.out)
    rw [HFK.out] at this
    rw [HKC.out]
    exact this
  have c4 : ∀ u : Beh u5, u.wd.cell? ⟨a, 4, none⟩ = some (.map (some bm)) := fun u => ((HA.out.below hbw5).below u.ok).cells.2.2.2.2.1
  have HQ : Hid (∀ x : World, (∃ u : Beh u5, x = u.wd) → (Instr.loadAt 90 (.pointer (some ⟨u3.heap.size, 0, none⟩))).run Try.prog x = .ok (.agg kc) x) := fun x hx => by
    obtain ⟨u, rfl⟩ := hx
    have h1 := below_keeps u.ok HK5.out (Array.getElem?_eq_some_iff.1 HK5.out).1
    rw [HKC.out] at h1 ⊢
    exact key_load h1
  clear hb5 HL4 HIW hbw5
  go_upto_region 8 with fail
  refine wp_region_beh (by kernel_rfl) (by kernel_rfl) ?_
  repeat (first
    | (refine wpQuiet_ld 90 ⟨u3.heap.size, 0, none⟩ (.tmp 7) (by rfl) (by rfl) HQ.out (by rfl) ?_; simp only [Act.put, List.setIfInBounds_toArray, List.set_cons_zero, List.set_cons_succ])
    | (go_big_quiet_step (fail)))
  refine wpQuiet_nil ?_
  rintro _ ⟨u, rfl⟩
  have HB6 : Hid (Below w1.heap.size w1 u.wd) := HB5.out.trans (u.ok.mono HB5.out.size)
  have hbw6 : Below w.heap.size w u.wd := HB1.out.trans (HB6.out.mono (by have := HS1.out; omega))
  have HL6 := hid (show (Instr.loadAt 29 (.pointer (some ⟨w.heap.size, 0, none⟩))).run Try.prog u.wd = .ok (.agg cs) u.wd by
    have h1 := below_keeps HB6.out HK0.out (by have := HS1.out; omega)
    rw [HCS.out] at h1 ⊢
    exact pk_load h1)
  have HCT := hid (contradicts_any b d do_ db dh h vo vb B u.wd (HD.out.below hbw6) (HVB.out _ hbw6) (by omega) (by omega) (by omega))
  rw [← HCS.out, HCL.out] at HCT
  clear hlook c4 HQ
  obtain ⟨v6, hv6⟩ : ∃ v6, v6 = u.wd := ⟨_, rfl⟩
  rw [← hv6] at HB6 hbw6 HL6 HCT ⊢
  have HBW6 := hid hbw6
  clear hv6 hbw6
  go_wp2_with (first | (refine wpList_ld 29 ⟨w.heap.size, 0, none⟩ (.tmp 3) rfl rfl HL6.out rfl ?_) | fail)
  refine HCT.out.mono ?_
  rintro _ u7 ⟨rfl, hb7⟩
  have HB7 : Hid (Below w1.heap.size w1 u7) := HB6.out.trans (hb7.mono HB6.out.size)
  have hbw7 : Below w.heap.size w u7 := HB1.out.trans (HB7.out.mono (by have := HS1.out; omega))
  have HPK : Hid (∀ x, Below w1.heap.size w1 x → (Instr.loadAt 29 (.pointer (some ⟨w.heap.size, 0, none⟩))).run Try.prog x = .ok (.agg cs) x) := fun x hx => by
    have h1 := below_keeps hx HK0.out (by have := HS1.out; omega)
    rw [HCS.out] at h1 ⊢
    exact pk_load h1
  have HL7 := hid (HPK.out u7 HB7.out)
  have HWI := hid (isWholeWith_any b d do_ db dh h vo vb B o u7 (HD.out.below hbw7) (HVB.out _ hbw7) ho (by omega) (by omega))
  rw [← HCS.out, HWW.out] at HWI
  clear hb7 hbw7 HL6 HCT
  go_wp2_with (first | (refine wpList_ld 29 ⟨w.heap.size, 0, none⟩ (.tmp 3) rfl rfl HL7.out rfl ?_) | fail)
  refine HWI.out.mono ?_
  rintro _ u8 ⟨rfl, hb8⟩
  have HB8 : Hid (Below w1.heap.size w1 u8) := HB7.out.trans (hb8.mono HB7.out.size)
  have hbw8 : Below w.heap.size w u8 := HB1.out.trans (HB8.out.mono (by have := HS1.out; omega))
  have HL8 := hid (HPK.out u8 HB8.out)
  have HTK := hid (take_any b d do_ db dh h vo vb B o u8 (HD.out.below hbw8) (HVO.out.below hbw8) (fun x hx => HVF.out x ((Tm.Fr.of_below hbw8 _).trans hx)) ho he hol HOK.out HCV.out)
  rw [← HCS.out] at HTK
  have HBW8 := hid hbw8
  clear hb8 hbw8 HL7 HWI
  go_wp2_with (first | (refine wpList_ld 29 ⟨w.heap.size, 0, none⟩ (.tmp 3) rfl rfl HL8.out rfl ?_) | fail)
  refine HTK.out.mono ?_
  rintro _ u9 ⟨rfl, V, vb', vh', hD9, hF9, hV9, hN9, hM9⟩
  have hA8 := HA.out.below HBW8.out
  have hD8 := HD.out.below HBW8.out
  have hA9 := hA8.fr hF9 (dg_apart hA8 hD8)
  have hap := dg_apart hA9 hD9
  have hlt8 : ∀ x ∈ b :: (blkL db ++ blkL dh), x < w.heap.size := fun x hx => by
    simp only [List.mem_cons, List.mem_append, mem_blkL] at hx
    rcases hx with rfl | hx | hx
    · exact (Array.getElem?_eq_some_iff.1 HD.out.blk).1
    · exact blk_lt HD.out.body hx
    · exact blk_lt HD.out.hv hx
  have hs8 := HBW8.out.size
  have hs1 := HS1.out
  have hsz8 : w1.heap.size ≤ u8.heap.size := HB8.out.size
  have hpk9 : u9.heap[w.heap.size]? = some (.cells cs 29) := (hF9.block _ (by omega) (fun hm => by have := hlt8 _ hm; omega)).trans (below_keeps HB8.out HK0.out (by omega))
  have hrc9 : u9.heap[w.heap.size + 1]? = some (.cells z 29) := (hF9.block _ (by omega) (fun hm => by have := hlt8 _ hm; omega)).trans (below_keeps HB8.out HK1.out (by omega))
  have ct : u9.cell? ⟨w.heap.size, 5, none⟩ = some (.int .u8 (h.ttl : Int)) := by
    rw [HCS.out] at hpk9
    exact pk_at hpk9 5 (by omega)
  have hnum : (takeD d h o B).num = d.num := takeD_num d h o B
  have hbn : u9.cell? ⟨b, 0, none⟩ = some (.int .i64 d.num) := by rw [hD9.at 0 (by decide), ← hnum]; rfl
  have HPR := hid (prolong_any a room life now last bm f c tb tm tg S b d.num h.ttl u9 hA9 HND.out hbn HNUM.out (hap b (List.mem_cons_self ..)) hnow hl1 hl2 HOK.out.ttl)
  have HD9 := hid hD9
  have HF9 := hid hF9
  have HV9 := hid hV9
  have HN9 := hid hN9
  have HM9 := hid hM9
  have HAP := hid hap
  have HOA := hid (opts_apart hA9 hD9)
  have HRC9 := hid hrc9
  have HLT8 := hid hlt8
  have HA9 := hid hA9
  clear hD9 hF9 hV9 hN9 hM9 hA8 hD8 hA9 hap hlt8 hs8 hs1 hsz8 hpk9 hrc9 hnum hbn HTK HL8
  go_wp2_with fail
  refine HPR.out.mono ?_
  rintro _ u10 ⟨tg', rfl, hA10, htg, hF10⟩
  have hs1 := HS1.out
  have hsz8 : w1.heap.size ≤ u8.heap.size := HB8.out.size
  have hsz9 := HF9.out.size
  have hrc10 : u10.heap[w.heap.size + 1]? = some (.cells z 29) := (hF10.block _ (by omega) (fun hm => by have := HA.out.lt _ hm; omega)).trans HRC9.out
  have hd10 := HD9.out.fr hF10 (HAP.out b (List.mem_cons_self ..)) HOA.out (fun g hg => HAP.out g (by simp only [List.mem_cons, List.mem_append, mem_blkL]; exact .inr (.inl hg))) (fun g hg => HAP.out g (by simp only [List.mem_cons, List.mem_append, mem_blkL]; exact .inr (.inr hg)))
  have HRC10 := hid hrc10
  have HD10 := hid hd10
  have HA10 := hid hA10
  have HTG := hid htg
  have HF10 := hid hF10
  clear hrc10 hd10 hA10 htg hF10 hs1 hsz8 hsz9 ct HPR
  go_wp2_with (first | (refine wpList_st rfl 29 (.tmp 4) (.tmp 69) rfl (w.heap.size + 1) Z29 rfl rfl 29 z HRC10.out sz29 (by rw [HZ.out]) all_z29 ?_) | fail)
  intro u11 hk11 hbut11
  have HL11 := hid (z_var hk11 rfl)
  have HU11 := hid hbut11
  clear hk11 hbut11
  go_wp2_with fail
  have hsz10 := HF10.out.size
  have hsz9 := HF9.out.size
  have hsz8 := HBW8.out.size
  have hsz18 : w1.heap.size ≤ u8.heap.size := HB8.out.size
  have hs1 := HS1.out
  have hFb : Tm.Fr [w.heap.size + 1] u10 u11 := ⟨HU11.out.os, HU11.out.tape, HU11.out.output, HU11.out.size, fun i hi hm => HU11.out.block i hi (by simpa using hm)⟩
  have hnr : ∀ {e s n : Nat} {v : Value} {xs : List Value}, u10.ownsRow 0 e s v n xs → e ≠ 29 → ∀ g, v.ownBlock = some g → g ∉ [w.heap.size + 1] := fun hr he g hg hm => by
    simp only [List.mem_cons, List.not_mem_nil, or_false] at hm
    rw [hm] at hg
    exact row_kind hr hg HRC10.out (fun cur hc => by cases hc; exact he rfl) rfl
  refine bodyPost_ret (v := .tuple #[.agg Z29, .int .i64 52]) (by simp [results, Try.results16, asAddr, HL11.out]) rfl ⟨by rw [HZ.out], tg', V, vb', vh', ?_, ?_, ?_, ?_, ?_, ?_, ?_⟩
  · refine HA10.out.fr hFb (fun x hx hm => ?_)
    simp only [List.mem_cons, List.not_mem_nil, or_false] at hx
    subst hx
    have := HA10.out.kinds _ hm _ _ HRC10.out
    revert this; decide
  · refine HD10.out.fr hFb (fun hm => ?_) (hnr HD10.out.opts (by decide)) (hnr HD10.out.body (by decide)) (hnr HD10.out.hv (by decide))
    simp only [List.mem_cons, List.not_mem_nil, or_false] at hm
    have := HD10.out.blk
    rw [hm, HRC10.out] at this
    cases this
  · intro x hx
    rcases HTG.out x hx with e | e
    · exact .inl e
    · exact .inr (by omega)
  · refine ((((Tm.Fr.of_below HBW8.out _).trans' HF9.out (fun x hx => .inl (List.mem_append_right _ hx))).trans' HF10.out (fun x hx => .inl (List.mem_append_left _ hx))).trans' hFb (fun x hx => .inr ?_))
    simp only [List.mem_cons, List.not_mem_nil, or_false] at hx
    omega
  · intro g hg
    have := HV9.out g hg
    omega
  · rcases HN9.out with e | ⟨g, e, hg⟩
    · exact .inl e
    · exact .inr ⟨g, e, by omega⟩
  · rcases HM9.out with e | ⟨g, e, hg⟩
    · exact .inl e
    · exact .inr ⟨g, e, by omega⟩
end Go.Proofs.Ytdoeebbcieiimaa

namespace Go.Proofs.Ytdoeebbcieiimaa
open Go.ChangeShapes Go.WideShapes Go.ChangeAt Go.RowKit
set_option maxHeartbeats 4000000
set_option maxRecDepth 100000

/-- A datagram that nothing has come of. -/
def d0 : Dg := ⟨0, ⟨0, 0, false, false, 0, 0, 0, 0, 0, []⟩, 0, [], [], 0⟩

theorem d0_at (u : World) : DgAt (u.alloc (.cells (dgCells d0 (.slice none 0 0) (.slice none 0 0) (.slice none 0 0)) 97)) u.heap.size d0 (.slice none 0 0) (.slice none 0 0) (.slice none 0 0) :=
  ⟨heap_alloc_new u _, ⟨by simp [d0, bs], .inl ⟨rfl, rfl⟩⟩, ⟨by simp [d0, bs], .inl ⟨rfl, rfl⟩⟩, ⟨by simp [d0, bls], .inl ⟨rfl, rfl⟩⟩, (fun _ hx => absurd hx List.not_mem_nil), (fun _ hx => absurd hx List.not_mem_nil), (fun _ hg => nomatch hg), (by decide), (by decide), (by decide), (by decide), (by decide), ⟨by decide, by decide, by decide, by decide, by decide, by decide, by decide⟩⟩

theorem d0_clash (h : Hd) (n : Nat) (h0 : 0 ≤ h.off) : clash d0 h n = false := by
  unfold clash d0
  simp
  omega

theorem add_first (a : Nat) (room life now last : Int) (bm : Nat) (f : Key → Option Nat) (c tb tm : Nat) (tg : Option Nat) (S : List Tm.H.Dl) (h : Hd) (vo vb : Value) (B : List Nat) (o : Nat) (w : World)
    (hA : AsmAt w a room life now last bm f c tb tm tg S) (hnd : (fpA a bm tb tm tg).Nodup) (hnow : Tm.In64 now) (hl1 : 1 ≤ life) (hl2 : life ≤ 1099511627776) (hf : f (keyH h) = none) (hcr : (c : Int) < room) (hla0 : 0 ≤ last) (hla1 : last ≤ 4611686018427387904)
    (hok : h.Ok) (hvo : ∀ u, Tm.Fr (fpA a bm tb tm tg) w u → SeesB u vo h.opts) (hvb : ∀ u, Tm.Fr (fpA a bm tb tm tg) w u → SeesB u vb B) (ho : h.off = (o : Int)) (he : o + B.length ≤ 65535) (hol : h.opts.length ≤ 40)
    (hgood : refE h B.length = 0) (hwh : isWh h = false) (hww : wholeW d0 h o B.length = false) (hcv : newN [] o B.length (newsL [] o B.length).length ≤ 65535) :
    Calls Try.prog 16 #[.pointer (some ⟨a, 0, none⟩), .agg (pkCells h vo vb)] w fun e w' => e = .returned (.tuple #[.agg Z29, .int .i64 52]) ∧ ∃ b tg' V vb' vh', AsmAt w' a room life now (last + 1) bm (putK f (keyH h) b) (c + 1) tb tm tg' (Tm.setR S room (last + 1, untilI S (last + 1) now life h.ttl)) ∧ DgAt w' b (takeD (setNum d0 (last + 1)) h o B) V vb' vh' ∧ (∀ x ∈ tg'.toList, x ∈ tg.toList ∨ w.heap.size ≤ x) ∧ Tm.Fr (fpA a bm tb tm tg) w w' ∧ w.heap.size ≤ b ∧ (∀ g, V.ownBlock = some g → w.heap.size ≤ g) ∧ (∀ g, vb'.ownBlock = some g → w.heap.size ≤ g) ∧ (∀ g, vh'.ownBlock = some g → w.heap.size ≤ g) := by
  obtain ⟨w1, hw1⟩ : ∃ w1, w1 = (w.alloc (.cells (pkCells h vo vb) 29)).alloc (.cells Z29 29) := ⟨_, rfl⟩
  have hs1 : w1.heap.size = w.heap.size + 2 := by rw [hw1]; simp
  have hb1 : Below w.heap.size w w1 := by rw [hw1]; exact ((Below.refl _ _).alloc (Nat.le_refl _) _).alloc (by simp) _
  have hk0 : w1.heap[w.heap.size]? = some (.cells (pkCells h vo vb) 29) := by
    have h1 : Below (w.heap.size + 1) (w.alloc (.cells (pkCells h vo vb) 29)) w1 := by rw [hw1]; exact (Below.refl _ _).alloc (by simp) _
    rw [h1.block _ (by omega)]
    exact heap_alloc_new w _
  have hk1 : w1.heap[w.heap.size + 1]? = some (.cells Z29 29) := by
    have := heap_alloc_new (w.alloc (.cells (pkCells h vo vb) 29)) (.cells Z29 29)
    rw [World.size_alloc] at this
    rw [hw1]; exact this
  have HVB : Hid (∀ u, Below w.heap.size w u → SeesB u vb B) := fun u hu => hvb u (Tm.Fr.of_below hu _)
  have HVF := hid hvb
  have HVO := hid hvo
  have HA := hid hA
  have HS1 := hid hs1
  have HB1 := hid hb1
  have HK0 := hid hk0
  have HK1 := hid hk1
  have HF25 := hid (fault_any h vo vb B w1 hok (hvo w1 (Tm.Fr.of_below hb1 _)) (HVB.out w1 hb1) (by omega) (by omega))
  rw [hgood] at HF25
  have HL1 := hid (pk_load hk0)
  have HW1 := hid hw1
  have HND := hid hnd
  have HFK := hid hf
  have HOK := hid hok
  have HWH := hid hwh
  have HWW := hid hww
  have HCV := hid hcv
  obtain ⟨cs, hcs⟩ : ∃ cs, cs = pkCells h vo vb := ⟨_, rfl⟩
  have HCS := hid hcs
  rw [← hcs] at HW1 HF25 HL1 HK0 ⊢
  obtain ⟨z, hz⟩ : ∃ z, z = Z29 := ⟨_, rfl⟩
  have HZ := hid hz
  rw [← hz]
  have HZE : Hid (z = #[.int .u8 0, .int .u16 0, .bool false, .bool false, .int .i64 0, .int .u8 0, .int .u8 0, .int .u32 0, .int .u32 0, .slice none 0 0, .slice none 0 0]) := hz
  rw [← hz] at HW1 HK1
  clear hw1 hs1 hb1 hk0 hk1 hvo hvb hcs hA hnd hf hok hwh hww hcv hgood hz
  go_enter Try.func16, Try.ntmps16
  go_upto_region 1 with fail
  rw [← HZE.out, ← HW1.out]
  go_wp2_with (first | (refine wpList_ld 29 ⟨w.heap.size, 0, none⟩ (.tmp 3) rfl rfl HL1.out rfl ?_) | fail)
  refine HF25.out.mono ?_
  rintro _ u2 ⟨rfl, hb2⟩
  have HB2 : Hid (Below w1.heap.size w1 u2) := hb2
  have HL2 : Hid ((Instr.loadAt 27 (.pointer (some ⟨w.heap.size, 0, none⟩))).run Try.prog u2 = .ok (.agg (hdCells h vo)) u2) := by
    have h1 := below_keeps hb2 HK0.out (by have := HS1.out; omega)
    rw [HCS.out] at h1
    exact pk_loadH h1
  have HKO := hid (keyOf_any h vo u2)
  obtain ⟨hc, hhc⟩ : ∃ hc, hc = hdCells h vo := ⟨_, rfl⟩
  rw [← hhc] at HL2 HKO
  clear hb2 hhc HF25 HL1
  go_wp2_with (first | (refine wpList_ld 27 ⟨w.heap.size, 0, none⟩ (.tmp 16) rfl rfl HL2.out rfl ?_) | fail)
  refine HKO.out.mono ?_
  rintro _ u3 ⟨rfl, hb3⟩
  have HB3 : Hid (Below w1.heap.size w1 u3) := HB2.out.trans (hb3.mono HB2.out.size)
  obtain ⟨kc, hkc⟩ : ∃ kc, kc = keyC (keyH h) := ⟨_, rfl⟩
  have HKC := hid hkc
  have HKA : Hid (kc.all (·.oneCell') = true) := by unfold Hid; rw [hkc]; simp [keyC, Value.oneCell']
  have HKS : Hid (kc.size = 4) := by unfold Hid; rw [hkc]; rfl
  rw [← hkc]
  clear hb3 HL2 HKO hkc
  go_wp2_with (first | (refine wpList_st rfl 90 (.tmp 7) (.tmp 18) rfl u3.heap.size kc rfl rfl 90 _ (heap_alloc_new u3 _) (by rw [HKS.out]; exact sz90) (by rw [HKS.out]; rfl) HKA.out ?_) | fail)
  intro u4 hk4 hbut4
  have HB4 : Hid (Below w1.heap.size w1 u4) := by
    have h1 := HB3.out.trans (((Below.refl u3.heap.size u3).alloc (Nat.le_refl _) (.cells #[.int .u32 0, .int .u32 0, .int .u8 0, .int .u16 0] 90)).mono HB3.out.size)
    exact hbut4.below h1 h1.size HB3.out.size
  have HK4 := hid hk4
  have HN4 : Hid (w1.heap.size ≤ u3.heap.size) := HB3.out.size
  have HL4 := hid (show (Instr.loadAt 29 (.pointer (some ⟨w.heap.size, 0, none⟩))).run Try.prog u4 = .ok (.agg cs) u4 by
    have h1 := below_keeps HB4.out HK0.out (by have := HS1.out; omega)
    rw [HCS.out] at h1 ⊢
    exact pk_load h1)
  have HIW := hid (isWhole_any h vo vb u4)
  rw [← HCS.out, HWH.out] at HIW
  clear hk4 hbut4
  go_wp2_with (first | (refine wpList_ld 29 ⟨w.heap.size, 0, none⟩ (.tmp 3) rfl rfl HL4.out rfl ?_) | fail)
  refine HIW.out.mono ?_
  rintro _ u5 ⟨rfl, hb5⟩
  have HB5 : Hid (Below w1.heap.size w1 u5) := HB4.out.trans (hb5.mono HB4.out.size)
  have HK5 := hid (below_keeps hb5 HK4.out (Array.getElem?_eq_some_iff.1 HK4.out).1)
  have hbw5 : Below w.heap.size w u5 := HB1.out.trans (HB5.out.mono (by have := HS1.out; omega))
  have hlook : ∀ u : Beh u5, (Instr.lookup 86 (.map (some bm)) (.agg kc) true).run Try.prog u.wd = .ok (.tuple #[.pointer none, .bool false]) u.wd := fun u => by
    have := ((HA.out.below hbw5).below u.ok).map.look (keyH_ok HOK.out)
    rw [HFK.out] at this
    rw [HKC.out]
    exact this
  have c4 : ∀ u : Beh u5, u.wd.cell? ⟨a, 4, none⟩ = some (.map (some bm)) := fun u => ((HA.out.below hbw5).below u.ok).cells.2.2.2.2.1
  have HQ : Hid (∀ x : World, (∃ u : Beh u5, x = u.wd) → (Instr.loadAt 90 (.pointer (some ⟨u3.heap.size, 0, none⟩))).run Try.prog x = .ok (.agg kc) x) := fun x hx => by
    obtain ⟨u, rfl⟩ := hx
    have h1 := below_keeps u.ok HK5.out (Array.getElem?_eq_some_iff.1 HK5.out).1
    rw [HKC.out] at h1 ⊢
    exact key_load h1
  clear hb5 HL4 HIW hbw5
  go_upto_region 8 with fail
  refine wp_region_beh (by kernel_rfl) (by kernel_rfl) ?_
  repeat (first
    | (refine wpQuiet_ld 90 ⟨u3.heap.size, 0, none⟩ (.tmp 7) (by rfl) (by rfl) HQ.out (by rfl) ?_; simp only [Act.put, List.setIfInBounds_toArray, List.set_cons_zero, List.set_cons_succ])
    | (go_big_quiet_step (fail)))
  refine wpQuiet_nil ?_
  rintro _ ⟨u, rfl⟩
  clear hlook c4 HQ
  go_upto_region 11 with fail
  show Code.wp _ _ _ _ (u.wd.alloc (.cells (dgCells d0 (.slice none 0 0) (.slice none 0 0) (.slice none 0 0)) 97))
  obtain ⟨v6, hv6⟩ : ∃ v6, v6 = u.wd.alloc (.cells (dgCells d0 (.slice none 0 0) (.slice none 0 0) (.slice none 0 0)) 97) := ⟨_, rfl⟩
  have HD6 : Hid (DgAt v6 u.wd.heap.size d0 (.slice none 0 0) (.slice none 0 0) (.slice none 0 0)) := by unfold Hid; rw [hv6]; exact d0_at u.wd
  have hb6 : Below u.wd.heap.size u.wd v6 := by rw [hv6]; exact (Below.refl _ _).alloc (Nat.le_refl _) _
  have HB6 : Hid (Below w1.heap.size w1 v6) := HB5.out.trans ((u.ok.trans (hb6.mono u.ok.size)).mono HB5.out.size)
  have HK6 := hid (below_keeps (u.ok.trans (hb6.mono u.ok.size)) HK5.out (Array.getElem?_eq_some_iff.1 HK5.out).1)
  have HNB : Hid (w1.heap.size ≤ u.wd.heap.size) := Nat.le_trans HB5.out.size u.ok.size
  rw [← hv6]
  obtain ⟨b, hbb⟩ : ∃ b, b = u.wd.heap.size := ⟨_, rfl⟩
  rw [← hbb] at HD6 HNB ⊢
  clear hv6 hb6 hbb
  have HPK : Hid (∀ x, Below w1.heap.size w1 x → (Instr.loadAt 29 (.pointer (some ⟨w.heap.size, 0, none⟩))).run Try.prog x = .ok (.agg cs) x) := fun x hx => by
    have h1 := below_keeps hx HK0.out (by have := HS1.out; omega)
    rw [HCS.out] at h1 ⊢
    exact pk_load h1
  have HWB : Hid (∀ x, Below w1.heap.size w1 x → Below w.heap.size w x) := fun x hx => HB1.out.trans (hx.mono (by have := HS1.out; omega))
  have HL6 := hid (HPK.out v6 HB6.out)
  have HCT := hid (contradicts_any b d0 _ _ _ h vo vb B v6 HD6.out (HVB.out _ (HWB.out _ HB6.out)) (by omega) (by omega) (by omega))
  rw [← HCS.out, d0_clash h _ (by omega)] at HCT
  go_wp2_with (first | (refine wpList_ld 29 ⟨w.heap.size, 0, none⟩ (.tmp 3) rfl rfl HL6.out rfl ?_) | fail)
  refine HCT.out.mono ?_
  rintro _ u7 ⟨rfl, hb7⟩
  have HB7 : Hid (Below w1.heap.size w1 u7) := HB6.out.trans (hb7.mono HB6.out.size)
  have HD7 := hid (HD6.out.below hb7)
  have HK7 := hid (below_keeps hb7 HK6.out (Array.getElem?_eq_some_iff.1 HK6.out).1)
  have HL7 := hid (HPK.out u7 HB7.out)
  have HWI := hid (isWholeWith_any b d0 _ _ _ h vo vb B o u7 HD7.out (HVB.out _ (HWB.out _ HB7.out)) ho (by omega) (by omega))
  rw [← HCS.out, HWW.out] at HWI
  clear hb7 HL6 HCT
  go_wp2_with (first | (refine wpList_ld 29 ⟨w.heap.size, 0, none⟩ (.tmp 3) rfl rfl HL7.out rfl ?_) | fail)
  refine HWI.out.mono ?_
  rintro _ u8 ⟨rfl, hb8⟩
  have HB8 : Hid (Below w1.heap.size w1 u8) := HB7.out.trans (hb8.mono HB7.out.size)
  have HD8 := hid (HD7.out.below hb8)
  have hk8 := below_keeps hb8 HK7.out (Array.getElem?_eq_some_iff.1 HK7.out).1
  rw [HKC.out] at hk8
  have HL8 := hid (key_load hk8)
  have hA8 := HA.out.below (HWB.out _ HB8.out)
  have HBG := hid (begin_any a room life now last bm f c tb tm tg S (keyH h) b d0 _ _ _ u8 hA8 HND.out (keyH_ok HOK.out) HD8.out (dg_apart hA8 HD8.out b (List.mem_cons_self ..)) hcr hla0 hla1)
  rw [HFK.out] at HBG
  rw [← HKC.out] at HL8 HBG
  simp only [Option.isSome_none, Bool.false_eq_true, if_false] at HBG
  clear hb8 hA8 hk8 HL7 HWI
  go_wp2_with (first | (refine wpList_ld 90 ⟨u3.heap.size, 0, none⟩ (.tmp 7) rfl rfl HL8.out rfl ?_) | fail)
  refine HBG.out.mono ?_
  rintro _ u9 ⟨rfl, hA9, hD9, hF9⟩
  have hs1 := HS1.out
  have hnb := HNB.out
  have hsz8 : w1.heap.size ≤ u8.heap.size := HB8.out.size
  have hFw9 : Tm.Fr (fpA a bm tb tm tg) w u9 := (Tm.Fr.of_below (HWB.out _ HB8.out) _).trans' hF9 (fun x hx => by
    simp only [List.mem_cons, List.not_mem_nil, or_false] at hx
    rcases hx with rfl | rfl | rfl
    · exact .inr (by omega)
    · exact .inl (by simp [fpA])
    · exact .inl (by simp [fpA]))
  have halt : a < w.heap.size := HA.out.lt a (by simp [fpA])
  have hblt : bm < w.heap.size := HA.out.lt bm (by simp [fpA])
  have hkeep : ∀ j ob, w.heap.size ≤ j → j < w1.heap.size → w1.heap[j]? = some ob → u9.heap[j]? = some ob := fun j ob h1 h2 h3 => by
    rw [hF9.block j (by omega) (fun hm => by simp only [List.mem_cons, List.not_mem_nil, or_false] at hm; omega)]
    exact below_keeps HB8.out h3 h2
  have hpk9 := hkeep _ _ (by omega) (by omega) HK0.out
  have HRC9 := hid (hkeep _ _ (by omega) (by omega) HK1.out)
  have HL9 : Hid ((Instr.loadAt 29 (.pointer (some ⟨w.heap.size, 0, none⟩))).run Try.prog u9 = .ok (.agg cs) u9) := by
    have h1 := hpk9
    rw [HCS.out] at h1
    unfold Hid
    rw [HCS.out]
    exact pk_load h1
  have HTK := hid (take_any b (setNum d0 (last + 1)) (.slice none 0 0) (.slice none 0 0) (.slice none 0 0) h vo vb B o u9 hD9 (HVO.out _ hFw9) (fun x hx => HVF.out x (hFw9.trans' hx (fun y hy => by
    simp only [blkL, Value.ownBlock, Option.toList_none, List.append_nil, List.mem_cons, List.not_mem_nil, or_false] at hy
    exact .inr (by omega)))) ho he hol HOK.out (by have := HCV.out; show 0 + newN [] o _ (newsL [] o _).length ≤ _; omega))
  rw [← HCS.out] at HTK
  have HPK9 := hid hpk9
  have HA9 := hid hA9
  have HD9 := hid hD9
  have HFW9 := hid hFw9
  have HSZ9 : Hid (w1.heap.size ≤ u9.heap.size) := Nat.le_trans hsz8 hF9.size
  clear hA9 hD9 hF9 hs1 hnb hsz8 hFw9 halt hblt hkeep hpk9 HBG HL8
  go_wp2_with (first | (refine wpList_ld 29 ⟨w.heap.size, 0, none⟩ (.tmp 3) rfl rfl HL9.out rfl ?_) | fail)
  refine HTK.out.mono ?_
  rintro _ u10 ⟨rfl, V, vb', vh', hD10, hF10, hV10, hN10, hM10⟩
  have hs1 := HS1.out
  have hnb := HNB.out
  have hsz9 := HSZ9.out
  have eF : (b :: (blkL (Value.slice none 0 0) ++ blkL (Value.slice none 0 0))) = [b] := rfl
  rw [eF] at hF10
  have hA10 := HA9.out.fr hF10 (fun x hx => by
    simp only [List.mem_cons, List.not_mem_nil, or_false] at hx
    subst hx
    exact dg_apart HA9.out HD9.out x (List.mem_cons_self ..))
  have hap := dg_apart hA10 hD10
  have hpk10 : u10.heap[w.heap.size]? = some (.cells cs 29) := (hF10.block _ (by omega) (by simp; omega)).trans HPK9.out
  have HRC10 : Hid (u10.heap[w.heap.size + 1]? = some (.cells z 29)) := (hF10.block _ (by omega) (by simp; omega)).trans HRC9.out
  have ct : u10.cell? ⟨w.heap.size, 5, none⟩ = some (.int .u8 (h.ttl : Int)) := by
    rw [HCS.out] at hpk10
    exact pk_at hpk10 5 (by omega)
  have hbn : u10.cell? ⟨b, 0, none⟩ = some (.int .i64 (last + 1)) := by rw [hD10.at 0 (by decide)]; show some (Value.int .i64 (takeD (setNum d0 (last + 1)) h o B).num) = _; rw [takeD_num]; rfl
  have HPR := hid (prolong_any a room life now (last + 1) bm _ (c + 1) tb tm tg S b (last + 1) h.ttl u10 hA10 HND.out hbn ⟨by omega, by omega⟩ (hap b (List.mem_cons_self ..)) hnow hl1 hl2 HOK.out.ttl)
  have HD10 := hid hD10
  have HF10 := hid hF10
  have HV10 := hid hV10
  have HN10 := hid hN10
  have HM10 := hid hM10
  have HAP := hid hap
  have HOA := hid (opts_apart hA10 hD10)
  clear hD10 hF10 hV10 hN10 hM10 hA10 hap hs1 hnb hsz9 hpk10 hbn HTK HL9 eF
  go_wp2_with fail
  refine HPR.out.mono ?_
  rintro _ u11 ⟨tg', rfl, hA11, htg, hF11⟩
  have hs1 := HS1.out
  have hsz9 := HSZ9.out
  have hsz10 := HF10.out.size
  have hrc11 : u11.heap[w.heap.size + 1]? = some (.cells z 29) := (hF11.block _ (by omega) (fun hm => by have := HA.out.lt _ hm; omega)).trans HRC10.out
  have hd11 := HD10.out.fr hF11 (HAP.out b (List.mem_cons_self ..)) HOA.out (fun g hg => HAP.out g (by simp only [List.mem_cons, List.mem_append, mem_blkL]; exact .inr (.inl hg))) (fun g hg => HAP.out g (by simp only [List.mem_cons, List.mem_append, mem_blkL]; exact .inr (.inr hg)))
  have HRC11 := hid hrc11
  have HD11 := hid hd11
  have HA11 := hid hA11
  have HTG := hid htg
  have HF11 := hid hF11
  clear hrc11 hd11 hA11 htg hF11 hs1 hsz9 hsz10 ct HPR
  go_wp2_with (first | (refine wpList_st rfl 29 (.tmp 4) (.tmp 69) rfl (w.heap.size + 1) Z29 rfl rfl 29 z HRC11.out sz29 (by rw [HZ.out]) all_z29 ?_) | fail)
  intro u12 hk12 hbut12
  have HL12 := hid (z_var hk12 rfl)
  have HU12 := hid hbut12
  clear hk12 hbut12
  go_wp2_with fail
  have hs1 := HS1.out
  have hnb := HNB.out
  have hsz9 := HSZ9.out
  have hsz10 := HF10.out.size
  have hsz11 := HF11.out.size
  have hFb : Tm.Fr [w.heap.size + 1] u11 u12 := ⟨HU12.out.os, HU12.out.tape, HU12.out.output, HU12.out.size, fun i hi hm => HU12.out.block i hi (by simpa using hm)⟩
  have hnr : ∀ {e s n : Nat} {v : Value} {xs : List Value}, u11.ownsRow 0 e s v n xs → e ≠ 29 → ∀ g, v.ownBlock = some g → g ∉ [w.heap.size + 1] := fun hr he g hg hm => by
    simp only [List.mem_cons, List.not_mem_nil, or_false] at hm
    rw [hm] at hg
    exact row_kind hr hg HRC11.out (fun cur hc => by cases hc; exact he rfl) rfl
  refine bodyPost_ret (v := .tuple #[.agg Z29, .int .i64 52]) (by simp [results, Try.results16, asAddr, HL12.out]) rfl ⟨by rw [HZ.out], b, tg', V, vb', vh', ?_, ?_, ?_, ?_, by omega, ?_, ?_, ?_⟩
  · refine HA11.out.fr hFb (fun x hx hm => ?_)
    simp only [List.mem_cons, List.not_mem_nil, or_false] at hx
    subst hx
    have := HA11.out.kinds _ hm _ _ HRC11.out
    revert this; decide
  · refine HD11.out.fr hFb (fun hm => ?_) (hnr HD11.out.opts (by decide)) (hnr HD11.out.body (by decide)) (hnr HD11.out.hv (by decide))
    simp only [List.mem_cons, List.not_mem_nil, or_false] at hm
    have := HD11.out.blk
    rw [hm, HRC11.out] at this
    cases this
  · intro x hx
    rcases HTG.out x hx with e | e
    · exact .inl e
    · exact .inr (by omega)
  · refine ((HFW9.out.trans' HF10.out (fun x hx => .inr ?_)).trans HF11.out).trans' hFb (fun x hx => .inr ?_)
    · simp only [List.mem_cons, List.not_mem_nil, or_false] at hx
      omega
    · simp only [List.mem_cons, List.not_mem_nil, or_false] at hx
      omega
  · intro g hg
    have := HV10.out g hg
    omega
  · intro g hg
    rcases HN10.out with e | ⟨g', e, hg'⟩
    · rw [e] at hg; cases hg
    · rw [e] at hg; cases hg; omega
  · intro g hg
    rcases HM10.out with e | ⟨g', e, hg'⟩
    · rw [e] at hg; cases hg
    · rw [e] at hg; cases hg; omega
end Go.Proofs.Ytdoeebbcieiimaa

namespace Go.Proofs.Ytdoeebbcieiimaa
open Go.ChangeShapes Go.WideShapes Go.ChangeAt Go.RowKit
set_option maxHeartbeats 1000000

theorem wp_region_gen {P : Program} {id : Nat} {Q : Exit → Act → World → Prop} {a0 : Act} {W : World} {l : List Oper} (n : Nat) (dst : Nat → Tmp) (F : Nat → Value → World → Prop) (I : (Nat → Bool) → World → Prop) (R : Nat → World → World → Prop) (hm : P.follows .mixedOrders = true) (hB : monoB l.toArray n dst a0.tmps.size = true)
    (hI : I (fun _ => false) { W with drawn := W.drawn + 1 })
    (hF : ∀ i j v p w w', i ≠ j → F i v w → I p w → R j w w' → F i v w')
    (hstep : ∀ i o, i < n → l[i]? = some o → ∀ (a : Act) (w : World) (vs : Nat → Value) (p : Nat → Bool), I p w → p i = false → (∀ s, (∀ j, j < n → dst j ≠ s) → a.eval (.tmp s) = a0.eval (.tmp s)) →
      (∀ e ∈ o.after, Region.binds .any e = true → e.on < n → a.eval (.tmp (dst e.on)) = vs e.on ∧ F e.on (vs e.on) w) →
      o.wp P a w (fun a' w' => ∃ v, a' = a.put (some (dst i)) v ∧ F i v w' ∧ I (fun j => if j = i then true else p j) w' ∧ R i w w') Q)
    (hend : ∀ (vs : Nat → Value) (p : Nat → Bool) (w : World), I p w → (∀ i, i < n → p i = true) → (∀ i, i < n → F i (vs i) w) → wpList P l.toArray Q (l.drop n) (puts a0 dst vs (fun _ => true) (List.range n)) w) :
    (Code.region id l.toArray true).wp P Q a0 W := by
  simp only [monoB, Bool.and_eq_true, decide_eq_true_eq, List.all_eq_true, List.mem_range] at hB
  obtain ⟨⟨⟨⟨hn, hs⟩, hc⟩, hseq⟩, hall⟩ := hB
  have hinj : ∀ i, i < n → ∀ j, j < n → j ≠ i → dst j ≠ dst i := fun i hi j hj hne => by
    have := (hall i hi).2 j hj
    simp only [Bool.or_eq_true, decide_eq_true_eq] at this
    exact this.resolve_left hne
  have hop : ∀ i o, i < n → l.toArray[i]? = some o → (o.guard = none ∧ o.dst = some (dst i)) ∧ ∀ e ∈ o.after, e.on < i := fun i o hi ho => by
    have := (hall i hi).1.2
    rw [ho] at this
    simp only [Option.map_some, Option.getD_some, Bool.and_eq_true, Option.isNone_iff_eq_none, decide_eq_true_eq, Array.all_eq_true_iff_forall_mem] at this
    exact this
  refine wp_region_any hm ?_
  have main : ∀ (f : Nat) (listed : Array Bool) (vs : Nat → Value) (w : World), (List.range n).countP (fun j => !listed.getD j false) = f → HeadInv .any l.toArray n listed →
      I (fun j => listed.getD j false) w → (∀ i, i < n → listed.getD i false = true → F i (vs i) w) →
      wpAny P .any l.toArray Q (f + (l.toArray.size - n)) listed (puts a0 dst vs (fun i => listed.getD i false) (List.range n)) w := by
    intro f
    induction f with
    | zero =>
      intro listed vs w hcnt inv hb hf
      have hall2 : ∀ i, i < n → listed.getD i false = true := fun i hi => by
        have := List.countP_eq_zero.1 hcnt i (List.mem_range.2 hi)
        simpa using this
      have hcan : listed = canon l.toArray.size n := by
        apply Array.ext
        · rw [inv.size]; simp [canon]
        · intro i h1 h2
          simp only [canon, List.getElem_toArray, List.getElem_map, List.getElem_range]
          by_cases hi : i < n
          · have := hall2 i hi
            simpa [h1, hi] using this
          · have := inv.tail i (by omega) (by rw [inv.size] at h1; exact h1)
            simpa [h1, hi] using this
      have he : puts a0 dst vs (fun i => listed.getD i false) (List.range n) = puts a0 dst vs (fun _ => true) (List.range n) := puts_congr (fun i hi => ⟨hall2 i (List.mem_range.1 hi), rfl⟩)
      rw [he, hcan, Nat.zero_add]
      have hdl : (l.drop n).length = l.toArray.size - n := by simp
      have := wpAny_of_seq (P := P) (ops := l.toArray) (md := .any) (Q' := Q) (l.drop n) n (canon l.toArray.size n) _ w (fun j => by simp [List.getElem?_drop]) (by rw [hdl]; exact hseq) (hend vs _ w hb hall2 (fun i hi => hf i hi (hall2 i hi)))
      rwa [hdl] at this
    | succ f ih =>
      intro listed vs w hcnt inv hb hf
      obtain ⟨i0, hi0, hu0⟩ : ∃ i, i < n ∧ listed.getD i false = false := by
        have hpos : 0 < (List.range n).countP (fun j => !listed.getD j false) := by omega
        obtain ⟨i, hi, hp⟩ := List.countP_pos_iff.1 hpos
        exact ⟨i, List.mem_range.1 hi, by simpa using hp⟩
      have hi0s : i0 < listed.size := by rw [inv.size]; omega
      have hwait := tail_waits hs hc hn inv _ i0 rfl hi0 (getD_in hi0s hu0)
      rw [show f + 1 + (l.toArray.size - n) = (f + (l.toArray.size - n)) + 1 by omega]
      refine ⟨fun h0 => ?_, fun i hi => ?_⟩
      · -- something is ready: the least that is not listed
        exfalso
        have hex : ∃ k, k < n ∧ listed.getD k false = false ∧ ∀ j, j < k → listed.getD j false = true := by
          have : ∀ m, (∃ j, j < m ∧ listed.getD j false = false) → ∃ k, k < m ∧ listed.getD k false = false ∧ ∀ j, j < k → listed.getD j false = true := by
            intro m
            induction m with
            | zero => rintro ⟨j, hj, _⟩; omega
            | succ m ihm =>
              rintro ⟨j, hj, hjf⟩
              by_cases hex : ∃ j, j < m ∧ listed.getD j false = false
              · obtain ⟨k, hk, h1, h2⟩ := ihm hex
                exact ⟨k, by omega, h1, h2⟩
              · refine ⟨m, by omega, ?_, fun j' hj' => ?_⟩
                · have : j = m := by
                    rcases Nat.lt_or_ge j m with h | h
                    · exact absurd ⟨j, h, hjf⟩ hex
                    · omega
                  rw [← this]; exact hjf
                · cases hq : listed.getD j' false with
                  | true => rfl
                  | false => exact absurd ⟨j', hj', hq⟩ hex
          exact this n ⟨i0, hi0, hu0⟩
        obtain ⟨k, hk, hku, hkl⟩ := hex
        have hks : k < l.toArray.size := by omega
        have hr : k ∈ Region.ready .any l.toArray listed := mem_ready.2 ⟨getD_in (by rw [inv.size]; exact hks) hku, _, Array.getElem?_eq_getElem hks, fun e he _ => hkl e.on ((hop k _ hk (Array.getElem?_eq_getElem hks)).2 e he)⟩
        rw [h0] at hr
        cases hr
      · have hin : i < n := by
          rcases Nat.lt_or_ge i n with h | h
          · exact h
          · exact absurd hi (hwait i h)
        obtain ⟨hun, o, ho, hdep⟩ := mem_ready.1 hi
        obtain ⟨⟨hg, hd⟩, _⟩ := hop i o hin ho
        have hiu := getD_both hun
        have his : i < listed.size := by rw [inv.size]; omega
        unfold wpOp
        simp only [ho, Region.wanted, hg, if_true]
        refine .inl ?_
        have H := hstep i o hin (by simpa using ho) (puts a0 dst vs (fun i => listed.getD i false) (List.range n)) w vs _ hb hiu (fun s hs' => puts_old (fun j hj => hs' j (List.mem_range.1 hj))) (fun e he hbi hen => ⟨puts_at (by have := (hall e.on hen).1.1; simpa using this) (hdep e he hbi) (List.mem_range.2 hen) (fun j hj hne => hinj e.on hen j (List.mem_range.1 hj) hne), hf e.on hen (hdep e he hbi)⟩)
        have hpe : (fun j => (listed.setIfInBounds i true).getD j false) = fun j => if j = i then true else listed.getD j false := by
          funext j
          by_cases hj : j = i
          · subst hj; simp [his]
          · rw [getD_set_ne false (Ne.symm hj), if_neg hj]
        refine Oper.wp_mono (fun a' w' ⟨v, ha', hfv, hiw, hbw⟩ => ?_) H
        rw [ha', puts_set (vs' := fun j => if j = i then v else vs j) (p' := fun j => (listed.setIfInBounds i true).getD j false) (List.nodup_range) (List.mem_range.2 hin) hiu (by simp [his]) (by simp) (fun j hj hne => ⟨getD_set_ne false (Ne.symm hne), by simp [hne], hinj i hin j (List.mem_range.1 hj) hne⟩)]
        refine ih _ _ w' ?_ (inv.set hi hin) (by rw [hpe]; exact hiw) (fun j hj hlj => ?_)
        · have := countP_point (L := List.range n) List.nodup_range (List.mem_range.2 hin) (p := fun j => !listed.getD j false) (q := fun j => !(listed.setIfInBounds i true).getD j false) (by simp only [hiu]; rfl) (by simp [his]) (fun j _ hne => by simp only [getD_set_ne false (Ne.symm hne)])
          omega
        · by_cases hji : j = i
          · subst hji; simpa using hfv
          · simp only [hji, if_false]
            rw [getD_set_ne false (Ne.symm hji)] at hlj
            exact hF j i _ _ w w' hji (hf j hj hlj) hb hbw
  have inv0 : HeadInv .any l.toArray n (Array.replicate l.toArray.size false) :=
    ⟨by simp, fun j oj _ hl => (by rw [getD_replicate_false] at hl; cases hl), fun t _ ht => getD_in (by simpa using ht) (getD_replicate_false _ _)⟩
  have hcnt : (List.range n).countP (fun j => !(Array.replicate l.toArray.size false).getD j false) = n := by
    rw [List.countP_eq_length.2 (fun j _ => by rw [getD_replicate_false]; rfl), List.length_range]
  have H := main n _ (fun _ => undef) { W with drawn := W.drawn + 1 } hcnt inv0 (by rw [show (fun j => (Array.replicate l.toArray.size false).getD j false) = fun _ => false from funext fun j => getD_replicate_false _ _]; exact hI) (fun i _ h => by rw [getD_replicate_false] at h; cases h)
  have he : puts a0 dst (fun _ => undef) (fun i => (Array.replicate l.toArray.size false).getD i false) (List.range n) = a0 := by
    have : ∀ L : List Nat, puts a0 dst (fun _ => undef) (fun i => (Array.replicate l.toArray.size false).getD i false) L = a0 := by
      intro L
      induction L with
      | nil => rfl
      | cons x L ih =>
        simp only [puts, List.foldr_cons] at ih ⊢
        rw [getD_replicate_false, ih]
        rfl
    exact this _
  rw [he, show n + (l.toArray.size - n) = l.toArray.size by omega] at H
  exact H

def stepsG (P : Program) (Q : Exit → Act → World → Prop) (a0 : Act) (n : Nat) (dst : Nat → Tmp) (F : Nat → Value → World → Prop) (I : (Nat → Bool) → World → Prop) (R : Nat → World → World → Prop) : Nat → List Oper → Prop
  | _, [] => True
  | i, o :: rest => (∀ (a : Act) (w : World) (vs : Nat → Value) (p : Nat → Bool), I p w → p i = false → (∀ s, (∀ j, j < n → dst j ≠ s) → a.eval (.tmp s) = a0.eval (.tmp s)) →
      (∀ e ∈ o.after, Region.binds .any e = true → e.on < n → a.eval (.tmp (dst e.on)) = vs e.on ∧ F e.on (vs e.on) w) →
      o.wp P a w (fun a' w' => ∃ v, a' = a.put (some (dst i)) v ∧ F i v w' ∧ I (fun j => if j = i then true else p j) w' ∧ R i w w') Q) ∧ stepsG P Q a0 n dst F I R (i + 1) rest

theorem stepsG.at {P : Program} {Q : Exit → Act → World → Prop} {a0 : Act} {n : Nat} {dst : Nat → Tmp} {F : Nat → Value → World → Prop} {I : (Nat → Bool) → World → Prop} {R : Nat → World → World → Prop} : ∀ (l : List Oper) (k : Nat), stepsG P Q a0 n dst F I R k l → ∀ (i : Nat) (o : Oper), l[i]? = some o → ∀ (a : Act) (w : World) (vs : Nat → Value) (p : Nat → Bool), I p w → p (k + i) = false → (∀ s, (∀ j, j < n → dst j ≠ s) → a.eval (.tmp s) = a0.eval (.tmp s)) →
      (∀ e ∈ o.after, Region.binds .any e = true → e.on < n → a.eval (.tmp (dst e.on)) = vs e.on ∧ F e.on (vs e.on) w) →
      o.wp P a w (fun a' w' => ∃ v, a' = a.put (some (dst (k + i))) v ∧ F (k + i) v w' ∧ I (fun j => if j = k + i then true else p j) w' ∧ R (k + i) w w') Q
  | [], _, _, i, o, h => by simp at h
  | x :: l, k, hs, 0, o, h => by
    simp only [List.getElem?_cons_zero, Option.some.injEq] at h
    subst h
    exact hs.1
  | x :: l, k, hs, i + 1, o, h => by
    have := stepsG.at l (k + 1) hs.2 i o (by simpa using h)
    rw [show k + (i + 1) = k + 1 + i by omega]
    exact this

theorem wp_region_gen' {P : Program} {id : Nat} {Q : Exit → Act → World → Prop} {a0 : Act} {W : World} {l : List Oper} (n : Nat) (dst : Nat → Tmp) (F : Nat → Value → World → Prop) (I : (Nat → Bool) → World → Prop) (R : Nat → World → World → Prop) (hm : P.follows .mixedOrders = true) (hB : monoB l.toArray n dst a0.tmps.size = true)
    (hI : I (fun _ => false) { W with drawn := W.drawn + 1 })
    (hF : ∀ i j v p w w', i ≠ j → F i v w → I p w → R j w w' → F i v w')
    (hstep : stepsG P Q a0 n dst F I R 0 (l.take n))
    (hend : ∀ (vs : Nat → Value) (p : Nat → Bool) (w : World), I p w → (∀ i, i < n → p i = true) → (∀ i, i < n → F i (vs i) w) → wpList P l.toArray Q (l.drop n) (puts a0 dst vs (fun _ => true) (List.range n)) w) :
    (Code.region id l.toArray true).wp P Q a0 W :=
  wp_region_gen n dst F I R hm hB hI hF (fun i o hi ho => by
    have := hstep.at _ _ i o (by rw [List.getElem?_take_of_lt hi]; exact ho)
    rwa [Nat.zero_add] at this) hend
end Go.Proofs.Ytdoeebbcieiimaa

namespace Go.Proofs.Ytdoeebbcieiimaa
open Go.ChangeShapes Go.WideShapes Go.ChangeAt Go.RowKit
set_option maxHeartbeats 4000000
set_option maxRecDepth 100000

theorem ex_extract {P : Program} {o : Oper} {a : Act} {w : World} (x : Operand) (i : Nat) (vs : Array Value) (v : Value) (ho : o.op = .extract x i) (hx : a.eval x = .tuple vs) (hv : vs[i]? = some v) : (execOp a.eval o).run P w = .ok (.value v) w := by
  unfold execOp
  simp [ho, hx, Instr.extract, hv]

theorem jnL_bytes (o : Nat) (B : List Nat) (hB : ∀ x ∈ B, x < 256) : ∀ (is X : List Nat), (∀ x ∈ X, x < 256) → ∀ x ∈ jnL o B X is, x < 256
  | [], _, hX => hX
  | i :: is, X, hX => jnL_bytes o B hB is (splice X (o + 8 * i) (partL B i)) (fun x hx => by
    unfold splice at hx
    simp only [List.mem_append] at hx
    rcases hx with e | e | e
    · exact hX x (List.mem_of_mem_take e)
    · exact hB x (List.mem_of_mem_take (List.mem_of_mem_drop e))
    · exact hX x (List.mem_of_mem_drop e))

theorem joinL_bytes (d : Dg) (o : Nat) (B : List Nat) (L : Nat) (hd : ∀ x ∈ d.body, x < 256) (hB : ∀ x ∈ B, x < 256) : ∀ x ∈ joinL d o B L, x < 256 := by
  refine jnL_bytes o B hB _ _ (fun x hx => ?_)
  unfold splice at hx
  simp only [List.mem_append] at hx
  rcases hx with e | e | e
  · rw [List.eq_of_mem_replicate (List.mem_of_mem_take e)]; decide
  · exact hd x e
  · rw [List.eq_of_mem_replicate (List.mem_of_mem_drop e)]; decide

theorem joinL_len (d : Dg) (o : Nat) (B : List Nat) (L : Nat) (h1 : o + B.length ≤ L) (h2 : d.body.length ≤ L) : (joinL d o B L).length = L := by
  have e : (splice (List.replicate L 0) 0 d.body).length = L := by rw [length_splice _ _ _ (by simp; omega), List.length_replicate]
  exact (jnL_len o B (newsL d.hv o B.length) _ (fun i hi => List.mem_range.1 (List.mem_filter.1 hi).1) (by omega)).trans e

def F14 (a b N : Nat) (kc cs : Array Value) (H : Hd) (J : List Nat) : Nat → Value → World → Prop
  | 0, v, _ => v = .pointer (some ⟨a, 0, none⟩)
  | 1, v, _ => v = .agg kc
  | 2, v, _ => v = .pointer (some ⟨b, 0, none⟩)
  | 3, v, _ => v = .agg cs
  | 4, v, u => ∃ V vB, v = .agg (pkCells H V vB) ∧ OwnB u N V H.opts ∧ OwnB u N vB J
  | 5, v, u => ∃ V vB, v = .tuple #[.agg (pkCells H V vB), .int .i64 0] ∧ OwnB u N V H.opts ∧ OwnB u N vB J
  | 6, v, u => ∃ V vB, v = .agg (pkCells H V vB) ∧ OwnB u N V H.opts ∧ OwnB u N vB J
  | _, v, _ => v = .int .i64 0

theorem own_fr {u u' : World} {N : Nat} {v : Value} {X : List Nat} {F : List Nat} (h : OwnB u N v X) (hF : Tm.Fr F u u') (hlt : ∀ x ∈ F, x < N) : OwnB u' N v X :=
  row_fr h hF (fun g hg hm => by have := (World.ownsRow.lt h g hg).1; have := hlt g hm; omega)

theorem F14_keeps {a b N : Nat} {kc cs : Array Value} {H : Hd} {J : List Nat} {F : List Nat} (hlt : ∀ x ∈ F, x < N) (i : Nat) (v : Value) (u u' : World) (hf : F14 a b N kc cs H J i v u) (hF : Tm.Fr F u u') : F14 a b N kc cs H J i v u' := by
  by_cases h4 : i = 4
  · subst h4; obtain ⟨V, vB, e, h1, h2⟩ := hf; exact ⟨V, vB, e, own_fr h1 hF hlt, own_fr h2 hF hlt⟩
  by_cases h5 : i = 5
  · subst h5; obtain ⟨V, vB, e, h1, h2⟩ := hf; exact ⟨V, vB, e, own_fr h1 hF hlt, own_fr h2 hF hlt⟩
  by_cases h6 : i = 6
  · subst h6; obtain ⟨V, vB, e, h1, h2⟩ := hf; exact ⟨V, vB, e, own_fr h1 hF hlt, own_fr h2 hF hlt⟩
  unfold F14 at hf ⊢
  split
  all_goals first | exact absurd rfl h4 | exact absurd rfl h5 | exact absurd rfl h6 | skip
  all_goals simp_all

theorem add_done (a : Nat) (room life now last : Int) (bm : Nat) (f : Key → Option Nat) (c tb tm : Nat) (tg : Option Nat) (S : List Tm.H.Dl) (b : Nat) (d : Dg) (do_ db dh : Value) (h : Hd) (vo vb : Value) (B : List Nat) (o : Nat) (w : World)
    (hA : AsmAt w a room life now last bm f c tb tm tg S) (hnd : (fpA a bm tb tm tg).Nodup) (hf : f (keyH h) = some b) (hd : DgAt w b d do_ db dh) (hnum : Tm.In64 d.num)
    (hok : h.Ok) (hvo : ∀ u, Tm.Fr (fpA a bm tb tm tg) w u → SeesB u vo h.opts) (hvb : ∀ u, Tm.Fr (fpA a bm tb tm tg) w u → SeesB u vb B) (ho : h.off = (o : Int)) (he : o + B.length ≤ 65535) (hol : h.opts.length ≤ 40)
    (hgood : refE h B.length = 0) (hwh : isWh h = false) (hcl : clash d h B.length = false) (hww : wholeW d h o B.length = true) (L : Nat) (hL : (L : Int) = lenW d h B.length) (hL1 : o + B.length ≤ L) (hL2 : d.body.length ≤ L) (hL3 : L ≤ 65535) (hgd : refE { headW d h with mf := false } L = 0) :
    Calls Try.prog 16 #[.pointer (some ⟨a, 0, none⟩), .agg (pkCells h vo vb)] w fun e w' => ∃ V vB, e = .returned (.tuple #[.agg (pkCells { headW d h with mf := false } V vB), .int .i64 0]) ∧ AsmAt w' a room life now last bm (delK f (keyH h)) (c - 1) tb tm tg (Tm.H.drp d.num S) ∧ OwnB w' w.heap.size V (headW d h).opts ∧ OwnB w' w.heap.size vB (joinL d o B L) ∧ Tm.Fr (fpA a bm tb tm tg) w w' := by
  obtain ⟨w1, hw1⟩ : ∃ w1, w1 = (w.alloc (.cells (pkCells h vo vb) 29)).alloc (.cells Z29 29) := ⟨_, rfl⟩
  have hs1 : w1.heap.size = w.heap.size + 2 := by rw [hw1]; simp
  have hb1 : Below w.heap.size w w1 := by rw [hw1]; exact ((Below.refl _ _).alloc (Nat.le_refl _) _).alloc (by simp) _
  have hk0 : w1.heap[w.heap.size]? = some (.cells (pkCells h vo vb) 29) := by
    have h1 : Below (w.heap.size + 1) (w.alloc (.cells (pkCells h vo vb) 29)) w1 := by rw [hw1]; exact (Below.refl _ _).alloc (by simp) _
    rw [h1.block _ (by omega)]
    exact heap_alloc_new w _
  have hk1 : w1.heap[w.heap.size + 1]? = some (.cells Z29 29) := by
    have := heap_alloc_new (w.alloc (.cells (pkCells h vo vb) 29)) (.cells Z29 29)
    rw [World.size_alloc] at this
    rw [hw1]; exact this
  have HVB : Hid (∀ u, Below w.heap.size w u → SeesB u vb B) := fun u hu => hvb u (Tm.Fr.of_below hu _)
  have HVF := hid hvb
  have HVO := hid hvo
  have HD := hid hd
  have HA := hid hA
  have HS1 := hid hs1
  have HB1 := hid hb1
  have HK0 := hid hk0
  have HK1 := hid hk1
  have HF25 := hid (fault_any h vo vb B w1 hok (hvo w1 (Tm.Fr.of_below hb1 _)) (HVB.out w1 hb1) (by omega) (by omega))
  rw [hgood] at HF25
  have HL1 := hid (pk_load hk0)
  have HW1 := hid hw1
  have HND := hid hnd
  have HFK := hid hf
  have HNUM := hid hnum
  have HOK := hid hok
  have HWH := hid hwh
  have HCL := hid hcl
  have HWW := hid hww
  have HLL := hid hL
  have HGD := hid hgd
  have HHO := hid (headW_ok (h := h) hd.hok hok)
  have HHB := hid (headW_bytes (h := h) hd.ob (hvo w (Tm.Fr.refl _ _)).bytes)
  have HHL := hid (headW_opts hd h hol)
  obtain ⟨cs, hcs⟩ : ∃ cs, cs = pkCells h vo vb := ⟨_, rfl⟩
  have HCS := hid hcs
  rw [← hcs] at HW1 HF25 HL1 HK0 ⊢
  obtain ⟨z, hz⟩ : ∃ z, z = Z29 := ⟨_, rfl⟩
  have HZ := hid hz
  have HZE : Hid (z = #[.int .u8 0, .int .u16 0, .bool false, .bool false, .int .i64 0, .int .u8 0, .int .u8 0, .int .u32 0, .int .u32 0, .slice none 0 0, .slice none 0 0]) := hz
  rw [← hz] at HW1 HK1
  clear hw1 hs1 hb1 hk0 hk1 hd hvo hvb hcs hA hnd hf hnum hok hwh hcl hww hgood hz hL hgd
  go_enter Try.func16, Try.ntmps16
  go_upto_region 1 with fail
  rw [← HZE.out, ← HW1.out]
  go_wp2_with (first | (refine wpList_ld 29 ⟨w.heap.size, 0, none⟩ (.tmp 3) rfl rfl HL1.out rfl ?_) | fail)
  refine HF25.out.mono ?_
  rintro _ u2 ⟨rfl, hb2⟩
  have HB2 : Hid (Below w1.heap.size w1 u2) := hb2
  have HL2 : Hid ((Instr.loadAt 27 (.pointer (some ⟨w.heap.size, 0, none⟩))).run Try.prog u2 = .ok (.agg (hdCells h vo)) u2) := by
    have h1 := below_keeps hb2 HK0.out (by have := HS1.out; omega)
    rw [HCS.out] at h1
    exact pk_loadH h1
  have HKO := hid (keyOf_any h vo u2)
  obtain ⟨hc, hhc⟩ : ∃ hc, hc = hdCells h vo := ⟨_, rfl⟩
  rw [← hhc] at HL2 HKO
  clear hb2 hhc HF25 HL1
  go_wp2_with (first | (refine wpList_ld 27 ⟨w.heap.size, 0, none⟩ (.tmp 16) rfl rfl HL2.out rfl ?_) | fail)
  refine HKO.out.mono ?_
  rintro _ u3 ⟨rfl, hb3⟩
  have HB3 : Hid (Below w1.heap.size w1 u3) := HB2.out.trans (hb3.mono HB2.out.size)
  obtain ⟨kc, hkc⟩ : ∃ kc, kc = keyC (keyH h) := ⟨_, rfl⟩
  have HKC := hid hkc
  have HKA : Hid (kc.all (·.oneCell') = true) := by unfold Hid; rw [hkc]; simp [keyC, Value.oneCell']
  have HKS : Hid (kc.size = 4) := by unfold Hid; rw [hkc]; rfl
  rw [← hkc]
  clear hb3 HL2 HKO hkc
  go_wp2_with (first | (refine wpList_st rfl 90 (.tmp 7) (.tmp 18) rfl u3.heap.size kc rfl rfl 90 _ (heap_alloc_new u3 _) (by rw [HKS.out]; exact sz90) (by rw [HKS.out]; rfl) HKA.out ?_) | fail)
  intro u4 hk4 hbut4
  have HB4 : Hid (Below w1.heap.size w1 u4) := by
    have h1 := HB3.out.trans (((Below.refl u3.heap.size u3).alloc (Nat.le_refl _) (.cells #[.int .u32 0, .int .u32 0, .int .u8 0, .int .u16 0] 90)).mono HB3.out.size)
    exact hbut4.below h1 h1.size HB3.out.size
  have HK4 := hid hk4
  have HN4 : Hid (w1.heap.size ≤ u3.heap.size) := HB3.out.size
  have HL4 := hid (show (Instr.loadAt 29 (.pointer (some ⟨w.heap.size, 0, none⟩))).run Try.prog u4 = .ok (.agg cs) u4 by
    have h1 := below_keeps HB4.out HK0.out (by have := HS1.out; omega)
    rw [HCS.out] at h1 ⊢
    exact pk_load h1)
  have HIW := hid (isWhole_any h vo vb u4)
  rw [← HCS.out, HWH.out] at HIW
  clear hk4 hbut4
  go_wp2_with (first | (refine wpList_ld 29 ⟨w.heap.size, 0, none⟩ (.tmp 3) rfl rfl HL4.out rfl ?_) | fail)
  refine HIW.out.mono ?_
  rintro _ u5 ⟨rfl, hb5⟩
  have HB5 : Hid (Below w1.heap.size w1 u5) := HB4.out.trans (hb5.mono HB4.out.size)
  have HK5 := hid (below_keeps hb5 HK4.out (Array.getElem?_eq_some_iff.1 HK4.out).1)
  have hbw5 : Below w.heap.size w u5 := HB1.out.trans (HB5.out.mono (by have := HS1.out; omega))
  have hlook : ∀ u : Beh u5, (Instr.lookup 86 (.map (some bm)) (.agg kc) true).run Try.prog u.wd = .ok (.tuple #[.pointer (some ⟨b, 0, none⟩), .bool true]) u.wd := fun u => by
    have := ((HA.out.below hbw5).below u.ok).map.look (keyH_ok HOK.out)
    rw [HFK.out] at this
    rw [HKC.out]
    exact this
  have c4 : ∀ u : Beh u5, u.wd.cell? ⟨a, 4, none⟩ = some (.map (some bm)) := fun u => ((HA.out.below hbw5).below u.ok).cells.2.2.2.2.1
  have HQ : Hid (∀ x : World, (∃ u : Beh u5, x = u.wd) → (Instr.loadAt 90 (.pointer (some ⟨u3.heap.size, 0, none⟩))).run Try.prog x = .ok (.agg kc) x) := fun x hx => by
    obtain ⟨u, rfl⟩ := hx
    have h1 := below_keeps u.ok HK5.out (Array.getElem?_eq_some_iff.1 HK5.out).1
    rw [HKC.out] at h1 ⊢
    exact key_load h1
  clear hb5 HL4 HIW hbw5
  go_upto_region 8 with fail
  refine wp_region_beh (by kernel_rfl) (by kernel_rfl) ?_
  repeat (first
    | (refine wpQuiet_ld 90 ⟨u3.heap.size, 0, none⟩ (.tmp 7) (by rfl) (by rfl) HQ.out (by rfl) ?_; simp only [Act.put, List.setIfInBounds_toArray, List.set_cons_zero, List.set_cons_succ])
    | (go_big_quiet_step (fail)))
  refine wpQuiet_nil ?_
  rintro _ ⟨u, rfl⟩
  have HB6 : Hid (Below w1.heap.size w1 u.wd) := HB5.out.trans (u.ok.mono HB5.out.size)
  have hbw6 : Below w.heap.size w u.wd := HB1.out.trans (HB6.out.mono (by have := HS1.out; omega))
  have HL6 := hid (show (Instr.loadAt 29 (.pointer (some ⟨w.heap.size, 0, none⟩))).run Try.prog u.wd = .ok (.agg cs) u.wd by
    have h1 := below_keeps HB6.out HK0.out (by have := HS1.out; omega)
    rw [HCS.out] at h1 ⊢
    exact pk_load h1)
  have HCT := hid (contradicts_any b d do_ db dh h vo vb B u.wd (HD.out.below hbw6) (HVB.out _ hbw6) (by omega) (by omega) (by omega))
  rw [← HCS.out, HCL.out] at HCT
  clear hlook c4 HQ
  obtain ⟨v6, hv6⟩ : ∃ v6, v6 = u.wd := ⟨_, rfl⟩
  have HK6 : Hid (v6.heap[u3.heap.size]? = some (.cells kc 90)) := by unfold Hid; rw [hv6]; exact below_keeps u.ok HK5.out (Array.getElem?_eq_some_iff.1 HK5.out).1
  rw [← hv6] at HB6 hbw6 HL6 HCT ⊢
  have HBW6 := hid hbw6
  clear hv6 hbw6
  go_wp2_with (first | (refine wpList_ld 29 ⟨w.heap.size, 0, none⟩ (.tmp 3) rfl rfl HL6.out rfl ?_) | fail)
  refine HCT.out.mono ?_
  rintro _ u7 ⟨rfl, hb7⟩
  have HK7 := hid (below_keeps hb7 HK6.out (Array.getElem?_eq_some_iff.1 HK6.out).1)
  have HB7 : Hid (Below w1.heap.size w1 u7) := HB6.out.trans (hb7.mono HB6.out.size)
  have hbw7 : Below w.heap.size w u7 := HB1.out.trans (HB7.out.mono (by have := HS1.out; omega))
  have HPK : Hid (∀ x, Below w1.heap.size w1 x → (Instr.loadAt 29 (.pointer (some ⟨w.heap.size, 0, none⟩))).run Try.prog x = .ok (.agg cs) x) := fun x hx => by
    have h1 := below_keeps hx HK0.out (by have := HS1.out; omega)
    rw [HCS.out] at h1 ⊢
    exact pk_load h1
  have HL7 := hid (HPK.out u7 HB7.out)
  have HWI := hid (isWholeWith_any b d do_ db dh h vo vb B o u7 (HD.out.below hbw7) (HVB.out _ hbw7) ho (by omega) (by omega))
  rw [← HCS.out, HWW.out] at HWI
  clear hb7 hbw7 HL6 HCT
  go_wp2_with (first | (refine wpList_ld 29 ⟨w.heap.size, 0, none⟩ (.tmp 3) rfl rfl HL7.out rfl ?_) | fail)
  refine HWI.out.mono ?_
  rintro _ u8 ⟨rfl, hb8⟩
  have HK8' := hid (below_keeps hb8 HK7.out (Array.getElem?_eq_some_iff.1 HK7.out).1)
  have HB8 : Hid (Below w1.heap.size w1 u8) := HB7.out.trans (hb8.mono HB7.out.size)
  have hbw8 : Below w.heap.size w u8 := HB1.out.trans (HB8.out.mono (by have := HS1.out; omega))
  have HBW8 := hid hbw8
  clear hb8 hbw8 HL7 HWI
  go_upto_region 14 with fail
  have hs1 := HS1.out
  have HLTF : Hid (∀ x ∈ fpA a bm tb tm tg, x < w.heap.size) := HA.out.lt
  have hFw8 : Tm.Fr (fpA a bm tb tm tg) w u8 := Tm.Fr.of_below HBW8.out _
  have HDU : Hid (∀ u, Tm.Fr (fpA a bm tb tm tg) w u → DgAt u b d do_ db dh) := fun u hu =>
    HD.out.fr hu (dg_apart HA.out HD.out b (List.mem_cons_self ..)) (opts_apart HA.out HD.out) (fun g hg => dg_apart HA.out HD.out g (by simp only [List.mem_cons, List.mem_append, mem_blkL]; exact .inr (.inl hg))) (fun g hg => dg_apart HA.out HD.out g (by simp only [List.mem_cons, List.mem_append, mem_blkL]; exact .inr (.inr hg)))
  have HKF : Hid (∀ u, Tm.Fr (fpA a bm tb tm tg) u8 u → ∀ j ob, w.heap.size ≤ j → u8.heap[j]? = some ob → u.heap[j]? = some ob) := fun u hu j ob hj h1 => by
    rw [hu.block j (Array.getElem?_eq_some_iff.1 h1).1 (fun hm => by have := HLTF.out j hm; omega)]; exact h1
  have HP8 := hid (below_keeps HB8.out HK0.out (by omega))
  have HR8 := hid (below_keeps HB8.out HK1.out (by omega))
  have HK8 : Hid (u8.heap[u3.heap.size]? = some (.cells kc 90)) := HK8'.out
  have HA8 := hid (HA.out.below HBW8.out)
  have HH := hid (show ({ headW d h with mf := false } : Hd).Ok from ⟨HHO.out.tos, HHO.out.id, HHO.out.off, HHO.out.ttl, HHO.out.proto, HHO.out.src, HHO.out.dst⟩)
  have HFW8 := hid hFw8
  clear hs1 hFw8
  refine wp_region_gen' 8 (fun i => 46 + i) (F14 a b w.heap.size kc cs { headW d h with mf := false } (joinL d o B L)) (fun p u => Tm.Fr (fpA a bm tb tm tg) u8 u ∧ (p 5 = false → AsmAt u a room life now last bm f c tb tm tg S) ∧ (p 5 = true → AsmAt u a room life now last bm (delK f (keyH h)) (c - 1) tb tm tg (Tm.H.drp d.num S))) (fun _ u u' => Tm.Fr (fpA a bm tb tm tg) u u') (by kernel_rfl) (by kernel_rfl) ?_ (fun i j v p u u' _ hf _ hr => F14_keeps HLTF.out i v u u' hf hr) ?_ ?_
  · exact ⟨⟨rfl, rfl, rfl, Nat.le_refl _, fun _ _ _ => rfl⟩, fun _ => HA8.out.below (below_drew (Below.refl _ _)), fun e => by cases e⟩
  · simp only [List.take_succ_cons, List.take_zero, stepsG]
    refine ⟨?_, ?_, ?_, ?_, ?_, ?_, ?_, ?_, trivial⟩
    · intro aa u vs p hI hp hold hdep
      exact wp_val (ex_move (.tmp 0) _ rfl (hold 0 (fun j _ => low (by decide)))) ⟨_, rfl, rfl, hI, Tm.Fr.refl _ _⟩
    · intro aa u vs p hI hp hold hdep
      have h1 := HKF.out u hI.1 _ _ (by have := HN4.out; have := HS1.out; omega) HK8.out
      rw [HKC.out] at h1
      exact wp_load 90 ⟨u3.heap.size, 0, none⟩ (.tmp 7) (.agg kc) rfl (hold 7 (fun j _ => low (by decide))) (by rw [HKC.out]; exact key_load h1) ⟨_, rfl, rfl, hI, Tm.Fr.refl _ _⟩
    · intro aa u vs p hI hp hold hdep
      exact wp_val (ex_move (.tmp 8) _ rfl (hold 8 (fun j _ => low (by decide)))) ⟨_, rfl, rfl, hI, Tm.Fr.refl _ _⟩
    · intro aa u vs p hI hp hold hdep
      have h1 := HKF.out u hI.1 _ _ (Nat.le_refl _) HP8.out
      rw [HCS.out] at h1
      exact wp_load 29 ⟨w.heap.size, 0, none⟩ (.tmp 3) (.agg cs) rfl (hold 3 (fun j _ => low (by decide))) (by rw [HCS.out]; exact pk_load h1) ⟨_, rfl, rfl, hI, Tm.Fr.refl _ _⟩
    · intro aa u vs p hI hp hold hdep
      have h1 := hdep ⟨2, .data⟩ (by simp) rfl (by decide)
      have h2 := hdep ⟨3, .data⟩ (by simp) rfl (by decide)
      have e1 : aa.eval (.tmp 48) = .pointer (some ⟨b, 0, none⟩) := h1.1.trans h1.2
      have e2 : aa.eval (.tmp 49) = .agg cs := h2.1.trans h2.2
      have hFu := HFW8.out.trans hI.1
      refine wp_call 41 _ _ rfl (enters_of Try.func41 (by kernel_rfl) rfl) #[.pointer (some ⟨b, 0, none⟩), .agg (pkCells h vo vb)] (by simp [e1, e2, HCS.out]) ?_
      refine (joined_any b d do_ db dh h vo vb B o L u (HDU.out u hFu) (HVO.out u hFu) (HVF.out u hFu) ho hol HLL.out hL1 hL2 hL3).mono ?_
      rintro _ u' ⟨V, vB, rfl, hV, hvB, hb'⟩
      have hsz := hFu.size
      exact ⟨_, rfl, _, rfl, ⟨V, vB, rfl, OwnB.mono hV hsz, OwnB.mono hvB hsz⟩, ⟨hI.1.trans (Tm.Fr.of_below hb' _), fun e => (hI.2.1 e).below hb', fun e => (hI.2.2 e).below hb'⟩, Tm.Fr.of_below hb' _⟩
    · intro aa u vs p hI hp hold hdep
      have h1 := hdep ⟨0, .data⟩ (by simp) rfl (by decide)
      have h2 := hdep ⟨1, .data⟩ (by simp) rfl (by decide)
      have h3 := hdep ⟨4, .data⟩ (by simp) rfl (by decide)
      obtain ⟨V, vB, e0, hV, hvB⟩ := h3.2
      have e1 : aa.eval (.tmp 46) = .pointer (some ⟨a, 0, none⟩) := h1.1.trans h1.2
      have e2 : aa.eval (.tmp 47) = .agg kc := h2.1.trans h2.2
      have e3 : aa.eval (.tmp 50) = .agg (pkCells { headW d h with mf := false } V vB) := h3.1.trans e0
      have hFu := HFW8.out.trans hI.1
      have hDu := HDU.out u hFu
      have hAu := hI.2.1 hp
      have hjl := joinL_len d o B L hL1 hL2
      refine wp_call 40 _ _ rfl (enters_of Try.func40 (by kernel_rfl) rfl) #[.pointer (some ⟨a, 0, none⟩), .agg (keyC (keyH h)), .agg (pkCells { headW d h with mf := false } V vB)] (by simp [e1, e2, e3, HKC.out]) ?_
      refine (finish_good a room life now last bm f c tb tm tg S (keyH h) b d.num { headW d h with mf := false } V vB (joinL d o B L) u HH.out (hV.sees HHB.out) (hvB.sees (joinL_bytes d o B L hDu.bb (HVF.out u hFu).bytes)) HHL.out (by omega) (by rw [hjl]; exact HGD.out) hAu HND.out (keyH_ok HOK.out) HFK.out (by rw [hDu.at 0 (by decide)]; rfl) HNUM.out (dg_apart hAu hDu b (List.mem_cons_self ..))).mono ?_
      rintro _ u' ⟨rfl, hA', hF'⟩
      exact ⟨_, rfl, _, rfl, ⟨V, vB, rfl, own_fr hV hF' HLTF.out, own_fr hvB hF' HLTF.out⟩, ⟨hI.1.trans hF', fun e => by simp at e, fun _ => hA'⟩, hF'⟩
    · intro aa u vs p hI hp hold hdep
      have h1 := hdep ⟨5, .data⟩ (by simp) rfl (by decide)
      obtain ⟨V, vB, e0, hV, hvB⟩ := h1.2
      exact wp_val (ex_extract (.tmp 51) 0 _ _ rfl (h1.1.trans e0) rfl) ⟨_, rfl, ⟨V, vB, rfl, hV, hvB⟩, hI, Tm.Fr.refl _ _⟩
    · intro aa u vs p hI hp hold hdep
      have h1 := hdep ⟨5, .data⟩ (by simp) rfl (by decide)
      obtain ⟨V, vB, e0, hV, hvB⟩ := h1.2
      exact wp_val (ex_extract (.tmp 51) 1 _ _ rfl (h1.1.trans e0) rfl) ⟨_, rfl, rfl, hI, Tm.Fr.refl _ _⟩
  intro vs p u hI hall hF
  have e0 : vs 0 = .pointer (some ⟨a, 0, none⟩) := hF 0 (by decide)
  have e1 : vs 1 = .agg kc := hF 1 (by decide)
  have e2 : vs 2 = .pointer (some ⟨b, 0, none⟩) := hF 2 (by decide)
  have e3 : vs 3 = .agg cs := hF 3 (by decide)
  obtain ⟨V, vB, e6, hV, hvB⟩ := hF 6 (by decide)
  have e7 : vs 7 = .int .i64 0 := hF 7 (by decide)
  obtain ⟨c4, hc4⟩ : ∃ c, c = vs 4 := ⟨_, rfl⟩
  obtain ⟨c5, hc5⟩ : ∃ c, c = vs 5 := ⟨_, rfl⟩
  obtain ⟨aV, cV, rfl⟩ := hV.shape
  obtain ⟨aB, cB, rfl⟩ := hvB.shape
  obtain ⟨cr, hcr⟩ : ∃ cr, cr = pkCells { headW d h with mf := false } (.slice aV (headW d h).opts.length cV) (.slice aB (joinL d o B L).length cB) := ⟨_, rfl⟩
  have HALL : Hid (cr.all (·.oneCell') = true) := by unfold Hid; rw [hcr]; exact all_pk _ _ _ _ _ _ _
  have HSZ : Hid (cr.size = 11) := by unfold Hid; rw [hcr]; rfl
  have e6 : vs 6 = .agg cr := by rw [hcr]; exact e6
  simp only [List.drop_succ_cons, List.drop_zero, puts, List.range, List.range.loop, List.foldr, if_true, Act.put, e0, e1, e2, e3, ← hc4, ← hc5, e6, e7, Nat.reduceAdd, List.setIfInBounds_toArray, List.set_cons_succ, List.set_cons_zero]
  have HCR := hid hcr
  have HRU := hid (HKF.out u hI.1 _ _ (Nat.le_succ _) HR8.out)
  have HAU := hid (hI.2.2 (hall 5 (by decide)))
  have HFU := hid (HFW8.out.trans hI.1)
  have HV := hid hV
  have HVB2 := hid hvB
  clear e0 e1 e2 e3 e6 e7 hF hc4 hc5 hI hall hV hvB hcr
  go_wp2_with (first | (refine wpList_st rfl 29 (.tmp 4) (.tmp 52) rfl (w.heap.size + 1) cr rfl rfl 29 z HRU.out (by rw [HSZ.out]; exact sz29) (by rw [HSZ.out, HZ.out]; rfl) HALL.out ?_) | fail)
  intro u9 hk9 hbut9
  have HL9 := hid (z_var hk9 HSZ.out)
  have HU9 := hid hbut9
  clear hk9 hbut9
  go_wp2_with fail
  have hFb : Tm.Fr [w.heap.size + 1] u u9 := ⟨HU9.out.os, HU9.out.tape, HU9.out.output, HU9.out.size, fun i hi hm => HU9.out.block i hi (by simpa using hm)⟩
  refine bodyPost_ret (v := .tuple #[.agg cr, .int .i64 0]) (by simp [results, Try.results16, asAddr, HL9.out]) rfl ⟨_, _, by rw [HCR.out], ?_, ?_, ?_, ?_⟩
  · refine HAU.out.fr hFb (fun x hx hm => ?_)
    simp only [List.mem_cons, List.not_mem_nil, or_false] at hx
    have := HLTF.out x hm
    omega
  · refine own_but HV.out HU9.out (fun e => ?_)
    exact row_kind HV.out e HRU.out (fun cur hc => by cases hc) rfl
  · refine own_but HVB2.out HU9.out (fun e => ?_)
    exact row_kind HVB2.out e HRU.out (fun cur hc => by cases hc) rfl
  · refine HFU.out.trans' hFb (fun x hx => .inr ?_)
    simp only [List.mem_cons, List.not_mem_nil, or_false] at hx
    omega
end Go.Proofs.Ytdoeebbcieiimaa

namespace Go.Proofs.Ytdoeebbcieiimaa
open Go.ChangeShapes Go.WideShapes Go.ChangeAt Go.RowKit
set_option maxRecDepth 100000

/-- n times eight bytes c. -/
def rp (n c : Nat) : List Nat := List.replicate (8 * n) c
theorem rp_len (n c : Nat) : (rp n c).length = 8 * n := List.length_replicate
theorem steps_rp (n : Nat) : stepsN (8 * n) = n := by unfold stepsN; omega
theorem partN_rp {n i : Nat} (hi : i < n) : partN (8 * n) i = 8 := by unfold partN stepE; omega
theorem partL_rp {n c i : Nat} (hi : i < n) : partL (rp n c) i = List.replicate 8 c := by
  unfold partL
  rw [rp_len]
  unfold rp stepE
  rw [List.take_replicate, List.drop_replicate]
  congr 1
  omega

theorem splice_getD {X P : List Nat} {off : Nat} (h : off + P.length ≤ X.length) (j : Nat) : (splice X off P).getD j 0 = if off ≤ j ∧ j < off + P.length then P.getD (j - off) 0 else X.getD j 0 := by
  unfold splice
  simp only [List.getD_eq_getElem?_getD]
  by_cases h1 : j < off
  · rw [List.getElem?_append_left (by rw [List.length_take]; omega), List.getElem?_take_of_lt h1, if_neg (by omega)]
  · rw [List.getElem?_append_right (by rw [List.length_take]; omega), List.length_take, Nat.min_eq_left (by omega)]
    by_cases h2 : j < off + P.length
    · rw [List.getElem?_append_left (by omega), if_pos ⟨by omega, h2⟩]
    · rw [List.getElem?_append_right (by omega), List.getElem?_drop, if_neg (by omega)]
      congr 2
      omega
theorem repl8 {c j o : Nat} (h1 : o ≤ j) (h2 : j < o + 8) : (List.replicate 8 c).getD (j - o) 0 = c := by
  rw [List.getD_eq_getElem?_getD, List.getElem?_replicate, if_pos (by omega)]
  rfl

/-- The bytes. -/
theorem jn_at (o n c : Nat) : ∀ (is X : List Nat), (∀ i ∈ is, i < n) → o + 8 * n ≤ X.length → ∀ j, (jnL o (rp n c) X is).getD j 0 = if ∃ i ∈ is, o + 8 * i ≤ j ∧ j < o + 8 * i + 8 then c else X.getD j 0
  | [], X, _, _, j => by
    rw [if_neg (by rintro ⟨i, hi, _⟩; cases hi)]
    rfl
  | i :: is, X, hi, hl, j => by
    have h1 : i < n := hi i (List.mem_cons_self ..)
    have hP : (partL (rp n c) i).length = 8 := by rw [partL_rp h1, List.length_replicate]
    have hs : (splice X (o + 8 * i) (partL (rp n c) i)).length = X.length := length_splice _ _ _ (by rw [hP]; omega)
    have ih := jn_at o n c is (splice X (o + 8 * i) (partL (rp n c) i)) (fun k hk => hi k (List.mem_cons_of_mem _ hk)) (by omega) j
    show (jnL o (rp n c) (splice X (o + 8 * i) (partL (rp n c) i)) is).getD j 0 = _
    rw [ih]
    by_cases h2 : ∃ k ∈ is, o + 8 * k ≤ j ∧ j < o + 8 * k + 8
    · obtain ⟨k, hk, h3⟩ := h2
      rw [if_pos ⟨k, hk, h3⟩, if_pos ⟨k, List.mem_cons_of_mem _ hk, h3⟩]
    · rw [if_neg h2, splice_getD (by rw [hP]; omega), hP]
      by_cases h3 : o + 8 * i ≤ j ∧ j < o + 8 * i + 8
      · rw [if_pos h3, if_pos ⟨i, List.mem_cons_self .., h3⟩, partL_rp h1, repl8 h3.1 h3.2]
      · rw [if_neg h3, if_neg]
        rintro ⟨k, hk, h4⟩
        rcases List.mem_cons.1 hk with rfl | hk
        · exact h3 h4
        · exact h2 ⟨k, hk, h4⟩

theorem tkN_body (o : Nat) (B : List Nat) : ∀ (is : List Nat) (d : Dg), (tkN o B d is).body = jnL o B d.body is
  | [], _ => rfl
  | i :: is, d => tkN_body o B is (tkStep o B d i)
theorem tkN_same (o : Nat) (B : List Nat) : ∀ (is : List Nat) (d : Dg), (tkN o B d is).num = d.num ∧ (tkN o B d is).h = d.h ∧ (tkN o B d is).len = d.len
  | [], _ => ⟨rfl, rfl, rfl⟩
  | i :: is, d => tkN_same o B is (tkStep o B d i)
theorem tkN_hv (o : Nat) (B : List Nat) : ∀ (is : List Nat) (d : Dg), (∀ i ∈ is, (o + 8 * i) / 8 < d.hv.length) → ∀ u, (tkN o B d is).hv.getD u false = (d.hv.getD u false || decide (∃ i ∈ is, (o + 8 * i) / 8 = u))
  | [], d, _, u => by
    rw [decide_eq_false (by rintro ⟨i, hi, _⟩; cases hi), Bool.or_false]
    rfl
  | i :: is, d, hi, u => by
    have h1 := hi i (List.mem_cons_self ..)
    have hlen : (tkStep o B d i).hv.length = d.hv.length := List.length_set
    have ih := tkN_hv o B is (tkStep o B d i) (fun k hk => by rw [hlen]; exact hi k (List.mem_cons_of_mem _ hk)) u
    show (tkN o B (tkStep o B d i) is).hv.getD u false = _
    rw [ih]
    have hset : (tkStep o B d i).hv.getD u false = (d.hv.getD u false || decide ((o + 8 * i) / 8 = u)) := by
      show (d.hv.set ((o + 8 * i) / 8) true).getD u false = _
      rw [List.getD_eq_getElem?_getD, List.getElem?_set]
      by_cases h2 : (o + 8 * i) / 8 = u
      · rw [if_pos h2, decide_eq_true h2, Bool.or_true, if_pos (by omega)]
        rfl
      · rw [if_neg h2, decide_eq_false h2, Bool.or_false, List.getD_eq_getElem?_getD]
    rw [hset, Bool.or_assoc]
    congr 1
    rw [← Bool.decide_or]
    congr 1
    apply propext
    constructor
    · rintro (h | ⟨k, hk, h⟩)
      · exact ⟨i, List.mem_cons_self .., h⟩
      · exact ⟨k, List.mem_cons_of_mem _ hk, h⟩
    · rintro ⟨k, hk, h⟩
      rcases List.mem_cons.1 hk with rfl | hk
      · exact .inl h
      · exact .inr ⟨k, hk, h⟩

/-- Which steps of a list are there. -/
def cvU (d : Dg) (u : Nat) : Bool := d.hv.getD u false
theorem covers_cvU (d : Dg) (j : Nat) : coversL d.hv j = cvU d (j / 8) := rfl
theorem news_iff {d : Dg} {a n i : Nat} : i ∈ newsL d.hv (8 * a) (8 * n) ↔ i < n ∧ cvU d (a + i) = false := by
  unfold newsL
  rw [steps_rp, List.mem_filter, List.mem_range, covers_cvU, show (8 * a + 8 * i) / 8 = a + i by omega]
  simp

theorem append_zero (X : List Nat) (k j : Nat) : (X ++ List.replicate k 0).getD j 0 = X.getD j 0 := by
  simp only [List.getD_eq_getElem?_getD]
  by_cases h : j < X.length
  · rw [List.getElem?_append_left h]
  · rw [List.getElem?_append_right (by omega), List.getElem?_replicate, List.getElem?_eq_none (show X.length ≤ j by omega)]
    split <;> rfl
theorem append_false (X : List Bool) (k j : Nat) : (X ++ List.replicate k false).getD j false = X.getD j false := by
  simp only [List.getD_eq_getElem?_getD]
  by_cases h : j < X.length
  · rw [List.getElem?_append_left h]
  · rw [List.getElem?_append_right (by omega), List.getElem?_replicate, List.getElem?_eq_none (show X.length ≤ j by omega)]
    split <;> rfl

/-- The datagram behind it. -/
theorem take_facts (d : Dg) (h : Hd) (a n c : Nat) :
    (∀ u, cvU (takeD d h (8 * a) (rp n c)) u = (cvU d u || decide (a ≤ u ∧ u < a + n))) ∧
    (∀ j, (takeD d h (8 * a) (rp n c)).body.getD j 0 = if a ≤ j / 8 ∧ j / 8 < a + n ∧ cvU d (j / 8) = false then c else d.body.getD j 0) ∧
    (takeD d h (8 * a) (rp n c)).body.length = max d.body.length (8 * a + 8 * n) ∧
    (takeD d h (8 * a) (rp n c)).cov = d.cov + 8 * (newsL d.hv (8 * a) (8 * n)).length ∧
    (takeD d h (8 * a) (rp n c)).num = d.num ∧ (takeD d h (8 * a) (rp n c)).h = headW d h ∧ (takeD d h (8 * a) (rp n c)).len = (lenW d h (8 * n)).toNat := by
  obtain ⟨d1, hd1⟩ : ∃ d1, d1 = (({ d with h := headW d h, len := (lenW d h (8 * n)).toNat } : Dg).reachB (8 * a + 8 * n)).reachH (8 * a + 8 * n) := ⟨_, rfl⟩
  have e : takeD d h (8 * a) (rp n c) = tkN (8 * a) (rp n c) d1 (newsL d.hv (8 * a) (8 * n)) := by unfold takeD; rw [rp_len, hd1]
  have hb : d1.body = d.body ++ List.replicate (8 * a + 8 * n - d.body.length) 0 := by rw [hd1]; rfl
  have hh : d1.hv = d.hv ++ List.replicate (stepsN (8 * a + 8 * n) - d.hv.length) false := by rw [hd1]; rfl
  have hbl : d1.body.length = max d.body.length (8 * a + 8 * n) := by rw [hb, List.length_append, List.length_replicate]; omega
  have hhl : a + n ≤ d1.hv.length := by rw [hh, List.length_append, List.length_replicate]; unfold stepsN; omega
  have hin : ∀ i ∈ newsL d.hv (8 * a) (8 * n), i < n := fun i hi => (news_iff.1 hi).1
  rw [e]
  obtain ⟨f1, f2, f3, -⟩ := tkN_frame (8 * a) (rp n c) (newsL d.hv (8 * a) (8 * n)) d1 (fun i hi => by rw [rp_len, steps_rp]; exact hin i hi) (by rw [rp_len, hbl]; omega)
  obtain ⟨g1, g2, g3⟩ := tkN_same (8 * a) (rp n c) (newsL d.hv (8 * a) (8 * n)) d1
  refine ⟨fun u => ?_, fun j => ?_, f1.trans hbl, ?_, g1.trans (by rw [hd1]; rfl), g2.trans (by rw [hd1]; rfl), g3.trans (by rw [hd1]; rfl)⟩
  · unfold cvU
    rw [tkN_hv _ _ _ _ (fun i hi => by have := hin i hi; omega), hh, append_false]
    cases hc : d.hv.getD u false with
    | true => rfl
    | false =>
      rw [Bool.false_or, Bool.false_or]
      congr 1
      apply propext
      constructor
      · rintro ⟨i, hi, h1⟩
        have := hin i hi
        omega
      · rintro ⟨h1, h2⟩
        refine ⟨u - a, news_iff.2 ⟨by omega, ?_⟩, by omega⟩
        unfold cvU
        rw [show a + (u - a) = u by omega]
        exact hc
  · rw [tkN_body, jn_at (8 * a) n c _ _ hin (by rw [hbl]; omega), hb, append_zero]
    by_cases h1 : a ≤ j / 8 ∧ j / 8 < a + n ∧ cvU d (j / 8) = false
    · rw [if_pos h1, if_pos]
      exact ⟨j / 8 - a, news_iff.2 ⟨by omega, by rw [show a + (j / 8 - a) = j / 8 by omega]; exact h1.2.2⟩, by omega, by omega⟩
    · rw [if_neg h1, if_neg]
      rintro ⟨i, hi, h2, h3⟩
      obtain ⟨h4, h5⟩ := news_iff.1 hi
      refine h1 ⟨by omega, by omega, ?_⟩
      rw [show j / 8 = a + i by omega]
      exact h5
  · rw [f3, show d1.cov = d.cov by rw [hd1]; rfl]
    congr 1
    have : ∀ l : List Nat, (∀ i ∈ l, i < n) → (l.map (partN (rp n c).length)).sum = 8 * l.length := by
      intro l
      induction l with
      | nil => intro _; rfl
      | cons i l ih =>
        intro hl
        rw [List.map_cons, List.sum_cons, ih (fun k hk => hl k (List.mem_cons_of_mem _ hk)), rp_len, partN_rp (hl i (List.mem_cons_self ..)), List.length_cons]
        omega
    exact this _ hin

/-- What is joined. -/
theorem join_at (d : Dg) (a n c L : Nat) (hd : d.body.length ≤ L) (hl : 8 * a + 8 * n ≤ L) : (joinL d (8 * a) (rp n c) L).length = L ∧ ∀ j, (joinL d (8 * a) (rp n c) L).getD j 0 = if a ≤ j / 8 ∧ j / 8 < a + n ∧ cvU d (j / 8) = false then c else d.body.getD j 0 := by
  have hin : ∀ i ∈ newsL d.hv (8 * a) (8 * n), i < n := fun i hi => (news_iff.1 hi).1
  have hs : (splice (List.replicate L 0) 0 d.body).length = L := by rw [length_splice _ _ _ (by simpa using hd), List.length_replicate]
  unfold joinL
  rw [rp_len]
  refine ⟨by rw [jnL_len _ _ _ _ (fun i hi => by rw [rp_len, steps_rp]; exact hin i hi) (by rw [rp_len, hs]; omega), hs], fun j => ?_⟩
  rw [jn_at _ n c _ _ hin (by rw [hs]; omega), splice_getD (by simpa using hd)]
  have hz : (if 0 ≤ j ∧ j < 0 + d.body.length then d.body.getD (j - 0) 0 else (List.replicate L 0).getD j 0) = d.body.getD j 0 := by
    by_cases h : j < d.body.length
    · rw [if_pos ⟨Nat.zero_le _, by omega⟩, Nat.sub_zero]
    · rw [if_neg (by omega), List.getD_eq_getElem?_getD, List.getElem?_replicate, List.getD_eq_getElem?_getD, List.getElem?_eq_none (show d.body.length ≤ j by omega)]
      split <;> rfl
  rw [hz]
  by_cases h1 : a ≤ j / 8 ∧ j / 8 < a + n ∧ cvU d (j / 8) = false
  · rw [if_pos h1, if_pos]
    exact ⟨j / 8 - a, news_iff.2 ⟨by omega, by rw [show a + (j / 8 - a) = j / 8 by omega]; exact h1.2.2⟩, by omega, by omega⟩
  · rw [if_neg h1, if_neg]
    rintro ⟨i, hi, h2, h3⟩
    obtain ⟨h4, h5⟩ := news_iff.1 hi
    refine h1 ⟨by omega, by omega, ?_⟩
    rw [show j / 8 = a + i by omega]
    exact h5

/-- How many steps are there. -/
def cntU (p : Nat → Bool) (N : Nat) : Nat := (List.range N).countP p
theorem cnt_add (p : Nat → Bool) (x : Nat) : ∀ N, x < N → cntU (fun u => p u || decide (u = x)) N = cntU p N + (if p x then 0 else 1)
  | 0, h => by omega
  | N + 1, h => by
    unfold cntU
    rw [List.range_succ, List.countP_append, List.countP_append, List.countP_singleton, List.countP_singleton]
    by_cases hx : x = N
    · subst hx
      have e : ∀ M, M ≤ x → (List.range M).countP (fun u => p u || decide (u = x)) = (List.range M).countP p := fun M hM => by
        apply List.countP_congr
        intro u hu
        have := List.mem_range.1 hu
        rw [decide_eq_false (by omega), Bool.or_false]
      rw [e x (Nat.le_refl _)]
      cases p x <;> simp
    · have ih := cnt_add p x N (by omega)
      unfold cntU at ih
      rw [ih, decide_eq_false (fun h => hx h.symm), Bool.or_false]
      omega
theorem cnt_run (p : Nat → Bool) (a N : Nat) : ∀ n, a + n ≤ N → cntU (fun u => p u || decide (a ≤ u ∧ u < a + n)) N = cntU p N + ((List.range n).filter fun i => !p (a + i)).length
  | 0, _ => by
    have : (fun u => p u || decide (a ≤ u ∧ u < a + 0)) = p := by
      funext u
      rw [decide_eq_false (by omega), Bool.or_false]
    rw [this]
    rfl
  | n + 1, h => by
    have e : (fun u => p u || decide (a ≤ u ∧ u < a + (n + 1))) = fun u => (fun u => p u || decide (a ≤ u ∧ u < a + n)) u || decide (u = a + n) := by
      funext u
      show (p u || decide (a ≤ u ∧ u < a + (n + 1))) = (p u || decide (a ≤ u ∧ u < a + n) || decide (u = a + n))
      rw [Bool.or_assoc]
      congr 1
      rw [← Bool.decide_or]
      congr 1
      apply propext
      omega
    rw [e, cnt_add _ _ _ (by omega), cnt_run p a N n (by omega), List.range_succ, List.filter_append, List.length_append]
    have h0 : decide (a ≤ a + n ∧ a + n < a + n) = false := decide_eq_false (by omega)
    have hf : ([n].filter fun i => !p (a + i)).length = if p (a + n) then 0 else 1 := by cases h : p (a + n) <;> simp [h]
    rw [hf]
    show cntU p N + _ + (if (p (a + n) || decide (a ≤ a + n ∧ a + n < a + n)) then 0 else 1) = _
    rw [h0, Bool.or_false]
    omega
theorem cnt_all {p : Nat → Bool} {N : Nat} : cntU p N = N ↔ ∀ u, u < N → p u = true := by
  unfold cntU
  have h := List.countP_eq_length (p := p) (l := List.range N)
  rw [List.length_range] at h
  rw [h]
  constructor
  · intro h u hu
    exact h u (List.mem_range.2 hu)
  · intro h u hu
    exact h u (List.mem_range.1 hu)
theorem cnt_le (p : Nat → Bool) (N : Nat) : cntU p N ≤ N := by
  unfold cntU
  have := List.countP_le_length (p := p) (l := List.range N)
  rwa [List.length_range] at this
end Go.Proofs.Ytdoeebbcieiimaa

namespace Go.Proofs.Ytdoeebbcieiimaa
open Go.ChangeShapes Go.WideShapes Go.ChangeAt Go.RowKit
set_option maxRecDepth 100000

/-- A piece's head. -/
def ph (a : Nat) (mf : Bool) (t : Nat) : Hd := ⟨0, 5, false, mf, ((8 * a : Nat) : Int), t, 17, 1, 2, []⟩
theorem ph_ok {a t : Nat} {mf : Bool} (ha : a ≤ 100) (ht : t < 256) : (ph a mf t).Ok :=
  ⟨(show 0 < 256 by decide), (show 5 < 65536 by decide), ⟨by show (-9223372036854775808 : Int) ≤ ((8 * a : Nat) : Int); omega, by show ((8 * a : Nat) : Int) ≤ 9223372036854775807; omega⟩, ht, (show 17 < 256 by decide), (show 1 < 4294967296 by decide), (show 2 < 4294967296 by decide)⟩
theorem area_nil : M.area [] = true := by
  unfold M.area
  rw [M.okO]
  rfl
theorem ph_re {a n t : Nat} {mf : Bool} (h : a + n ≤ 21) (hn : 0 < n) : refE (ph a mf t) (8 * n) = 0 := by
  unfold refE
  have h2 : M.pieceOk (ph a mf t).off (8 * n) (ph a mf t).mf = true := by
    show M.pieceOk ((8 * a : Nat) : Int) (8 * n) mf = true
    unfold M.pieceOk
    cases mf <;> simp <;> omega
  rw [if_pos (show M.area (ph a mf t).opts = true from area_nil), if_pos h2, if_pos (by show 20 + 0 + 8 * n ≤ 65535; omega)]

/-- The bytes that are wanted, when a piece has come. -/
def updT (W : List Nat) (s e c : Nat) : List Nat := (List.range 168).map fun j => if s ≤ j ∧ j < e ∧ W.getD j 0 = 0 then c else W.getD j 0
theorem updT_len (W : List Nat) (s e c : Nat) : (updT W s e c).length = 168 := by unfold updT; rw [List.length_map, List.length_range]
theorem updT_at {W : List Nat} {s e c j : Nat} (hj : j < 168) : (updT W s e c).getD j 0 = if s ≤ j ∧ j < e ∧ W.getD j 0 = 0 then c else W.getD j 0 := by
  unfold updT
  rw [List.getD_eq_getElem?_getD, List.getElem?_map, List.getElem?_range hj]
  rfl
theorem ext168 {X Y : List Nat} (hx : X.length = 168) (hy : Y.length = 168) (h : ∀ j, j < 168 → X.getD j 0 = Y.getD j 0) : X = Y := by
  apply List.ext_getElem (by rw [hx, hy])
  intro j h1 h2
  have := h j (by omega)
  rwa [List.getD_eq_getElem?_getD, List.getD_eq_getElem?_getD, List.getElem?_eq_getElem h1, List.getElem?_eq_getElem h2] at this
theorem updT_start {W : List Nat} {s c : Nat} (hW : W.length = 168) : updT W s s c = W :=
  ext168 (updT_len ..) hW fun j hj => by rw [updT_at hj, if_neg (by omega)]
theorem updT_zero {W : List Nat} {s e c : Nat} (hs : s ≤ e) (h0 : W.getD e 0 = 0) : (updT W s e c).set e c = updT W s (e + 1) c := by
  refine ext168 (by rw [List.length_set, updT_len]) (updT_len ..) fun j hj => ?_
  rw [updT_at hj]
  by_cases h : e = j
  · subst h
    rw [List.getD_eq_getElem?_getD, List.getElem?_set_self (by rw [updT_len]; exact hj), if_pos ⟨hs, by omega, h0⟩]
    rfl
  · rw [List.getD_eq_getElem?_getD, List.getElem?_set_ne h, ← List.getD_eq_getElem?_getD, updT_at hj]
    by_cases h1 : s ≤ j ∧ j < e ∧ W.getD j 0 = 0
    · rw [if_pos h1, if_pos ⟨h1.1, by omega, h1.2.2⟩]
    · rw [if_neg h1, if_neg (fun h2 => h1 ⟨h2.1, by omega, h2.2.2⟩)]
theorem updT_skip {W : List Nat} {s e c : Nat} (h0 : W.getD e 0 ≠ 0) : updT W s e c = updT W s (e + 1) c := by
  refine ext168 (updT_len ..) (updT_len ..) fun j hj => ?_
  rw [updT_at hj, updT_at hj]
  by_cases h1 : s ≤ j ∧ j < e ∧ W.getD j 0 = 0
  · rw [if_pos h1, if_pos ⟨h1.1, by omega, h1.2.2⟩]
  · rw [if_neg h1, if_neg]
    rintro ⟨h2, h3, h4⟩
    by_cases h : j = e
    · subst h; exact h0 h4
    · exact h1 ⟨h2, by omega, h4⟩

/-- What is held. lf: the last piece has come; t: the time to live of the first piece. -/
structure Fs (d : Dg) (W : List Nat) (lf : Bool) (t : Nat) : Prop where
  wl : W.length = 168
  cv : ∀ u, u < 20 → cvU d u = decide (W.getD (8 * u) 0 ≠ 0)
  un : ∀ j, j < 160 → (W.getD j 0 = 0 ↔ W.getD (8 * (j / 8)) 0 = 0)
  c20 : cvU d 20 = lf
  bd : ∀ j, j < 160 → W.getD j 0 ≠ 0 → d.body.getD j 0 = W.getD j 0
  b20 : lf = true → ∀ j, 160 ≤ j → j < 168 → d.body.getD j 0 = 250
  bl : d.body.length ≤ if lf then 168 else 160
  cov : d.cov = 8 * cntU (cvU d) 21
  len : d.len = if lf then 168 else 0
  hd : W.getD 0 0 ≠ 0 → d.h = ph 0 true t
  t0 : W.getD 0 0 = 0 → t = 0
  t1 : W.getD 0 0 ≠ 0 → t ≠ 0

theorem zeros_at (j : Nat) : (List.replicate 168 0).getD j 0 = 0 := by
  rw [List.getD_eq_getElem?_getD, List.getElem?_replicate]
  split <;> rfl
theorem cv_d0 (k : Int) (u : Nat) : cvU (setNum d0 k) u = false := rfl
theorem cnt_zero (N : Nat) : cntU (fun _ => false) N = 0 := by unfold cntU; simp
theorem Fs.none (k : Int) : Fs (setNum d0 k) (List.replicate 168 0) false 0 :=
  ⟨List.length_replicate, fun u _ => by rw [cv_d0, zeros_at]; rfl, fun j _ => by rw [zeros_at, zeros_at], rfl, fun j _ h => absurd (zeros_at j) h, fun h => (by cases h), Nat.zero_le _, by
    rw [show cvU (setNum d0 k) = fun _ => false from funext fun u => cv_d0 k u, cnt_zero]
    rfl, rfl, fun h => absurd (zeros_at 0) h, fun _ => rfl, fun h => absurd (zeros_at 0) h⟩

theorem news_len (d : Dg) (a n : Nat) : (newsL d.hv (8 * a) (8 * n)).length = ((List.range n).filter fun i => !cvU d (a + i)).length := by
  unfold newsL
  rw [steps_rp]
  congr 2
  funext i
  rw [covers_cvU, show (8 * a + 8 * i) / 8 = a + i by omega]
theorem newN_len (d : Dg) (a n : Nat) : newN d.hv (8 * a) (8 * n) (newsL d.hv (8 * a) (8 * n)).length = 8 * (newsL d.hv (8 * a) (8 * n)).length := by
  unfold newN
  rw [List.take_length]
  have : ∀ l : List Nat, (∀ i ∈ l, i < n) → (l.map (partN (8 * n))).sum = 8 * l.length := by
    intro l
    induction l with
    | nil => intro _; rfl
    | cons i l ih =>
      intro hl
      rw [List.map_cons, List.sum_cons, ih (fun k hk => hl k (List.mem_cons_of_mem _ hk)), partN_rp (hl i (List.mem_cons_self ..)), List.length_cons]
      omega
  exact this _ (fun i hi => (news_iff.1 hi).1)
/-- How many bytes there are behind it. -/
theorem cov_take {d : Dg} (h : Hd) {a n c : Nat} (hc : d.cov = 8 * cntU (cvU d) 21) (hn : a + n ≤ 21) : (takeD d h (8 * a) (rp n c)).cov = 8 * cntU (cvU (takeD d h (8 * a) (rp n c))) 21 ∧ d.cov + newN d.hv (8 * a) (8 * n) (newsL d.hv (8 * a) (8 * n)).length = 8 * cntU (cvU (takeD d h (8 * a) (rp n c))) 21 ∧ cntU (cvU (takeD d h (8 * a) (rp n c))) 21 ≤ 21 := by
  obtain ⟨f1, -, -, f4, -, -, -⟩ := take_facts d h a n c
  have e : cvU (takeD d h (8 * a) (rp n c)) = fun u => cvU d u || decide (a ≤ u ∧ u < a + n) := funext f1
  have k : cntU (cvU (takeD d h (8 * a) (rp n c))) 21 = cntU (cvU d) 21 + (newsL d.hv (8 * a) (8 * n)).length := by rw [e, cnt_run _ _ _ _ hn, news_len]
  refine ⟨?_, ?_, cnt_le _ _⟩
  · rw [f4, k]; omega
  · rw [newN_len, k]; omega

def ttlN (a t tn : Nat) : Nat := if a = 0 ∧ t = 0 then tn else t

/-- A piece more. -/
theorem Fs.take {d : Dg} {W : List Nat} {lf : Bool} {t : Nat} (h : Fs d W lf t) {a n c tn : Nat} (hn : a + n ≤ 20) (h0 : 0 < n) (hc : c ≠ 0) (htn : tn ≠ 0) : Fs (takeD d (ph a true tn) (8 * a) (rp n c)) (updT W (8 * a) (8 * (a + n)) c) lf (ttlN a t tn) := by
  obtain ⟨f1, f2, f3, f4, f5, f6, f7⟩ := take_facts d (ph a true tn) a n c
  have hw0 : ∀ j, j < 168 → ((updT W (8 * a) (8 * (a + n)) c).getD j 0 = 0 ↔ W.getD j 0 = 0 ∧ ¬ (8 * a ≤ j ∧ j < 8 * (a + n))) := fun j hj => by
    rw [updT_at hj]
    by_cases h1 : 8 * a ≤ j ∧ j < 8 * (a + n) ∧ W.getD j 0 = 0
    · rw [if_pos h1]
      exact ⟨fun e => absurd e hc, fun e => absurd ⟨h1.1, h1.2.1⟩ e.2⟩
    · rw [if_neg h1]
      exact ⟨fun e => ⟨e, fun e' => h1 ⟨e'.1, e'.2, e⟩⟩, fun e => e.1⟩
  have hcv0 : cvU d 0 = decide (W.getD 0 0 ≠ 0) := h.cv 0 (by omega)
  have hhw : headW d (ph a true tn) = if W.getD 0 0 ≠ 0 ∨ 0 < a then d.h else ph a true tn := by
    unfold headW
    have e1 : coversL d.hv 0 = decide (W.getD 0 0 ≠ 0) := hcv0
    have e2 : decide (0 < (ph a true tn).off) = decide (0 < a) := by
      congr 1
      apply propext
      show 0 < ((8 * a : Nat) : Int) ↔ _
      omega
    rw [e1, e2]
    by_cases h1 : W.getD 0 0 ≠ 0 ∨ 0 < a
    · rw [if_pos h1, if_pos (by simpa using h1)]
    · rw [if_neg h1, if_neg (by simpa using h1)]
  refine ⟨updT_len .., fun u hu => ?_, fun j hj => ?_, ?_, fun j hj hne => ?_, fun hl j h1 h2 => ?_, ?_, (cov_take _ h.cov (by omega)).1, ?_, fun hne => ?_, fun he => ?_, fun hne => ?_⟩
  · rw [f1, h.cv u hu, ← Bool.decide_or]
    congr 1
    apply propext
    have e := hw0 (8 * u) (by omega)
    constructor
    · rintro (h1 | h1) h2
      · exact h1 (e.1 h2).1
      · exact (e.1 h2).2 ⟨by omega, by omega⟩
    · intro h1
      by_cases h2 : W.getD (8 * u) 0 = 0
      · refine .inr ?_
        by_cases h3 : a ≤ u ∧ u < a + n
        · exact h3
        · exact absurd (e.2 ⟨h2, fun h4 => h3 ⟨by omega, by omega⟩⟩) h1
      · exact .inl h2
  · rw [hw0 j (by omega), hw0 (8 * (j / 8)) (by omega), h.un j hj]
    constructor
    · rintro ⟨h1, h2⟩
      exact ⟨h1, fun h3 => h2 ⟨by omega, by omega⟩⟩
    · rintro ⟨h1, h2⟩
      exact ⟨h1, fun h3 => h2 ⟨by omega, by omega⟩⟩
  · rw [f1, h.c20, decide_eq_false (by omega), Bool.or_false]
  · rw [f2, updT_at (by omega)]
    have hcj : cvU d (j / 8) = decide (W.getD j 0 ≠ 0) := by
      rw [h.cv _ (by omega)]
      congr 1
      exact propext (not_congr (h.un j hj).symm)
    by_cases h1 : 8 * a ≤ j ∧ j < 8 * (a + n) ∧ W.getD j 0 = 0
    · rw [if_pos h1, if_pos ⟨by omega, by omega, by rw [hcj, decide_eq_false (fun e => e h1.2.2)]⟩]
    · rw [if_neg h1]
      have hwj : W.getD j 0 ≠ 0 := fun e => hne ((hw0 j (by omega)).2 ⟨e, fun h2 => h1 ⟨h2.1, h2.2, e⟩⟩)
      rw [if_neg, h.bd j hj hwj]
      rintro ⟨-, -, h2⟩
      rw [hcj, decide_eq_true hwj] at h2
      cases h2
  · rw [f2, if_neg (by omega)]
    exact h.b20 hl j h1 h2
  · rw [f3]
    have := h.bl
    split <;> rename_i hl <;> simp only [hl] at this <;> simp at this <;> omega
  · rw [f7]
    show ((d.len : Int)).toNat = _
    rw [h.len]
    cases lf <;> rfl
  · rw [f6, hhw]
    by_cases h1 : W.getD 0 0 ≠ 0
    · rw [if_pos (.inl h1), h.hd h1]
      unfold ttlN
      rw [if_neg (fun e => h.t1 h1 e.2)]
    · have h2 := Decidable.not_not.1 h1
      have h3 : a = 0 := by
        by_cases h3 : a = 0
        · exact h3
        · exact absurd ((hw0 0 (by omega)).2 ⟨h2, by omega⟩) hne
      rw [if_neg (by rintro (h4 | h4); exact h1 h4; omega)]
      unfold ttlN
      rw [if_pos ⟨h3, h.t0 h2⟩, h3]
  · obtain ⟨h1, h2⟩ := (hw0 0 (by omega)).1 he
    unfold ttlN
    rw [if_neg (fun e => h2 ⟨by omega, by omega⟩)]
    exact h.t0 h1
  · unfold ttlN
    by_cases h1 : a = 0 ∧ t = 0
    · rw [if_pos h1]; exact htn
    · rw [if_neg h1]
      by_cases h2 : W.getD 0 0 = 0
      · exfalso
        refine hne ((hw0 0 (by omega)).2 ⟨h2, fun h3 => h1 ⟨by omega, h.t0 h2⟩⟩)
      · exact h.t1 h2

/-- The last piece comes first. -/
theorem Fs.last (k : Int) : Fs (takeD (setNum d0 k) (ph 20 false 9) (8 * 20) (rp 1 250)) (List.replicate 168 0) true 0 := by
  obtain ⟨f1, f2, f3, f4, f5, f6, f7⟩ := take_facts (setNum d0 k) (ph 20 false 9) 20 1 250
  refine ⟨List.length_replicate, fun u hu => ?_, fun j _ => by rw [zeros_at, zeros_at], ?_, fun j _ h => absurd (zeros_at j) h, fun _ j h1 h2 => ?_, ?_, (cov_take _ ?_ (by omega)).1, ?_, fun h => absurd (zeros_at 0) h, fun _ => rfl, fun h => absurd (zeros_at 0) h⟩
  · rw [f1, cv_d0, zeros_at, decide_eq_false (by omega)]
    rfl
  · rw [f1, cv_d0]
    rfl
  · rw [f2, if_pos ⟨by omega, by omega, cv_d0 k _⟩]
  · rw [f3]
    show max 0 _ ≤ _
    simp
  · exact (Fs.none k).cov
  · rw [f7]
    rfl

/-- All bytes but the last eight are there. -/
def allW (W : List Nat) : Bool := (List.range 160).all fun j => decide (W.getD j 0 ≠ 0)
theorem allW_iff {W : List Nat} : allW W = true ↔ ∀ j, j < 160 → W.getD j 0 ≠ 0 := by
  unfold allW
  rw [List.all_eq_true]
  constructor
  · intro h j hj
    exact of_decide_eq_true (h j (List.mem_range.2 hj))
  · intro h j hj
    exact decide_eq_true (h j (List.mem_range.1 hj))
/-- Is it whole? -/
theorem Fs.whole {d : Dg} {W : List Nat} {lf : Bool} {t : Nat} (h : Fs d W lf t) {a n c tn : Nat} (hn : a + n ≤ 20) (h0 : 0 < n) (hc : c ≠ 0) (htn : tn ≠ 0) : wholeW d (ph a true tn) (8 * a) (8 * n) = (lf && allW (updT W (8 * a) (8 * (a + n)) c)) := by
  have h' := h.take hn h0 hc htn
  obtain ⟨c1, c2, c3⟩ := cov_take (ph a true tn) (c := c) h.cov (show a + n ≤ 21 by omega)
  unfold wholeW
  have hl : lenW d (ph a true tn) (8 * n) = (d.len : Int) := rfl
  rw [hl, c2, h.len]
  cases lf with
  | false => rfl
  | true =>
    rw [Bool.true_and]
    have e1 : decide (0 < (((if true = true then 168 else 0 : Nat)) : Int)) = true := by decide
    rw [e1, Bool.true_and, Bool.eq_iff_iff, decide_eq_true_iff, allW_iff]
    have e2 : (((8 * cntU (cvU (takeD d (ph a true tn) (8 * a) (rp n c))) 21 : Nat)) : Int) = (((if true = true then 168 else 0 : Nat)) : Int) ↔ cntU (cvU (takeD d (ph a true tn) (8 * a) (rp n c))) 21 = 21 := by
      rw [if_pos rfl]
      omega
    rw [e2, cnt_all]
    constructor
    · intro hu j hj he
      have h1 := hu (j / 8) (by omega)
      rw [h'.cv _ (by omega)] at h1
      exact (of_decide_eq_true h1) ((h'.un j hj).1 he)
    · intro hj u hu
      by_cases hu20 : u = 20
      · rw [hu20, h'.c20]
      · rw [h'.cv u (by omega)]
        exact decide_eq_true (hj (8 * u) (by omega))

theorem Fs.clash {d : Dg} {W : List Nat} {lf : Bool} {t : Nat} (h : Fs d W lf t) {a n tn : Nat} (hn : a + n ≤ 20) : clash d (ph a true tn) (8 * n) = false := by
  unfold Go.Proofs.Ytdoeebbcieiimaa.clash
  rw [h.len]
  cases lf with
  | false => rfl
  | true =>
    rw [if_pos (by decide), if_pos rfl]
    show (decide (((168 : Nat) : Int) < ((8 * a : Nat) : Int) + ((8 * n : Nat) : Int)) || (!true && _)) = false
    rw [decide_eq_false (by omega)]
    rfl
/-- What comes out. -/
theorem Fs.join {d : Dg} {W : List Nat} {t : Nat} (h : Fs d W true t) {a n c tn : Nat} (hn : a + n ≤ 20) (h0 : 0 < n) (hc : c ≠ 0) (htn : tn ≠ 0) (hf : ∀ j, j < 160 → (updT W (8 * a) (8 * (a + n)) c).getD j 0 ≠ 0) :
    (joinL d (8 * a) (rp n c) 168).length = 168 ∧ (∀ j, j < 160 → (joinL d (8 * a) (rp n c) 168).getD j 0 = (updT W (8 * a) (8 * (a + n)) c).getD j 0) ∧ (∀ j, 160 ≤ j → j < 168 → (joinL d (8 * a) (rp n c) 168).getD j 0 = 250) ∧ headW d (ph a true tn) = ph 0 true (ttlN a t tn) := by
  have h' := h.take hn h0 hc htn
  obtain ⟨f1, f2, f3, f4, f5, f6, f7⟩ := take_facts d (ph a true tn) a n c
  obtain ⟨j1, j2⟩ := join_at d a n c 168 (by have := h.bl; simpa using this) (by omega)
  refine ⟨j1, fun j hj => ?_, fun j h1 h2 => ?_, ?_⟩
  · rw [j2, ← f2]
    exact h'.bd j hj (hf j hj)
  · rw [j2, ← f2]
    exact h'.b20 rfl j h1 h2
  · rw [← f6]
    exact h'.hd (hf 0 (by omega))

/-- The last piece comes last. -/
theorem Fs.end_ {d : Dg} {W : List Nat} {t : Nat} (h : Fs d W false t) (hf : ∀ j, j < 160 → W.getD j 0 ≠ 0) :
    wholeW d (ph 20 false 9) (8 * 20) (8 * 1) = true ∧ Go.Proofs.Ytdoeebbcieiimaa.clash d (ph 20 false 9) (8 * 1) = false ∧ lenW d (ph 20 false 9) (8 * 1) = 168 ∧ d.body.length ≤ 168 ∧
    (joinL d (8 * 20) (rp 1 250) 168).length = 168 ∧ (∀ j, j < 160 → (joinL d (8 * 20) (rp 1 250) 168).getD j 0 = W.getD j 0) ∧ (∀ j, 160 ≤ j → j < 168 → (joinL d (8 * 20) (rp 1 250) 168).getD j 0 = 250) ∧ headW d (ph 20 false 9) = ph 0 true t := by
  obtain ⟨c1, c2, c3⟩ := cov_take (ph 20 false 9) (a := 20) (n := 1) (c := 250) h.cov (by omega)
  obtain ⟨f1, f2, f3, f4, f5, f6, f7⟩ := take_facts d (ph 20 false 9) 20 1 250
  have hbl : d.body.length ≤ 160 := by have := h.bl; simpa using this
  obtain ⟨j1, j2⟩ := join_at d 20 1 250 168 (by omega) (by omega)
  have hcvu : ∀ u, u < 20 → cvU d u = true := fun u hu => by rw [h.cv u hu]; exact decide_eq_true (hf (8 * u) (by omega))
  have hall : cntU (cvU (takeD d (ph 20 false 9) (8 * 20) (rp 1 250))) 21 = 21 := by
    rw [cnt_all]
    intro u hu
    rw [f1]
    by_cases h20 : u = 20
    · rw [h20, decide_eq_true (by omega), Bool.or_true]
    · rw [hcvu u (by omega), Bool.true_or]
  refine ⟨?_, ?_, rfl, by omega, j1, fun j hj => ?_, fun j h1 h2 => ?_, ?_⟩
  · unfold wholeW
    rw [c2, hall]
    rfl
  · unfold Go.Proofs.Ytdoeebbcieiimaa.clash
    rw [h.len]
    show (!false && decide (((8 * 20 : Nat) : Int) + ((8 * 1 : Nat) : Int) < (d.body.length : Int))) = false
    rw [decide_eq_false (by omega)]
    rfl
  · rw [j2, if_neg (by omega)]
    exact h.bd j hj (hf j hj)
  · have h20 : cvU d (j / 8) = false := by rw [show j / 8 = 20 by omega]; exact h.c20
    rw [j2, if_pos ⟨by omega, by omega, h20⟩]
  · unfold headW
    rw [if_pos, h.hd (hf 0 (by omega))]
    have : coversL d.hv 0 = true := hcvu 0 (by omega)
    rw [this]
    exact Bool.true_or _
end Go.Proofs.Ytdoeebbcieiimaa

namespace Go.Proofs.Ytdoeebbcieiimaa
open Go.ChangeShapes Go.WideShapes Go.ChangeAt Go.RowKit
set_option maxHeartbeats 4000000
set_option maxRecDepth 100000

/-- A block being filled. -/
def fillN (N c k : Nat) : List Nat := List.replicate k c ++ List.replicate (N - k) 0
theorem fillN_len {N c k : Nat} (h : k ≤ N) : (fillN N c k).length = N := by unfold fillN; simp; omega
theorem fillN_set {N c k : Nat} (h : k < N) : (fillN N c k).set k c = fillN N c (k + 1) := by
  unfold fillN
  rw [List.set_append_right _ _ (by simp), List.length_replicate, Nat.sub_self]
  obtain ⟨m, hm⟩ : ∃ m, N - k = m + 1 := ⟨N - k - 1, by omega⟩
  rw [hm, List.replicate_succ, List.set_cons_zero, show N - (k + 1) = m by omega, List.replicate_succ', List.append_assoc]
  rfl

theorem piece_any (a n c t : Nat) (mf : Bool) (w : World) (ha : a ≤ 21) (hn : n ≤ 21) (_hc : c < 256) (_ht : t < 256) :
    Calls Try.prog 15 #[.int .u16 5, .int .i64 (a : Int), .int .i64 (n : Int), .int .u8 (c : Int), .bool mf, .int .u8 (t : Int)] w fun e w' => ∃ g, e = .returned (.agg (pkCells (ph a mf t) (.slice none 0 0) (.slice (some ⟨g, 0, none⟩) (8 * n) (8 * n)))) ∧ Blk w' g (rp n c) ∧ w.heap.size ≤ g ∧ Below w.heap.size w w' := by
  obtain ⟨w1, hw1⟩ : ∃ w1, w1 = w.alloc (.cells Z29 29) := ⟨_, rfl⟩
  have hb1 : Below w.heap.size w w1 := by rw [hw1]; exact (Below.refl _ _).alloc (Nat.le_refl _) _
  have hs1 : w1.heap.size = w.heap.size + 1 := by rw [hw1]; simp
  have hk1 : w1.heap[w.heap.size]? = some (.cells Z29 29) := by rw [hw1]; exact heap_alloc_new w _
  obtain ⟨N, hN⟩ : ∃ N, N = 8 * n := ⟨_, rfl⟩
  obtain ⟨A, hA⟩ : ∃ A, A = 8 * a := ⟨_, rfl⟩
  obtain ⟨w2, hw2⟩ : ∃ w2, w2 = w1.alloc (.cells (madeCells #[.int .u8 0] N) 5) := ⟨_, rfl⟩
  have hmk := make_bytes N (by omega) w1
  rw [← hw2] at hmk
  have hb2 : Below w1.heap.size w1 w2 := by rw [hw2]; exact (Below.refl _ _).alloc (Nat.le_refl _) _
  have hg2 : Blk w2 w1.heap.size (fillN N c 0) := by
    unfold Blk
    rw [hw2, heap_alloc_new, made_one]
    unfold fillN
    simp [bs]
  have hNI : (8 : Int) * (n : Int) = (N : Int) := by omega
  have hAI : (8 : Int) * (a : Int) = (A : Int) := by omega
  have HN := hid hN
  have HA := hid hA
  have HW1 := hid hw1
  have HB1 := hid hb1
  have HS1 := hid hs1
  have HK1 := hid hk1
  have HB2 := hid hb2
  have HG2 := hid hg2
  have hN168 : N ≤ 168 := by omega
  have hA168 : A ≤ 168 := by omega
  obtain ⟨g, hg⟩ : ∃ g, g = w1.heap.size := ⟨_, rfl⟩
  rw [← hg] at hmk HG2
  have HG := hid hg
  clear hw1 hb1 hs1 hk1 hw2 hb2 hg2 hN hA hg ha hn
  go_enter Try.func15, Try.ntmps15
  go_upto_region 1 with fail
  have e0 : w.alloc (.cells Z29 29) = w1 := HW1.out.symm
  unfold Z29 at e0
  rw [e0]
  clear e0
  go_wp2_with fail
  go_loopw [14] (fun i wr => ∃ k : Nat, i = .int .i64 (k : Int) ∧ k ≤ N ∧ Hid (Blk wr g (fillN N c k)) ∧ Hid (Below g w1 wr)) (fun i _ => N - (intOf i).toNat)
  case atStart => exact ⟨0, rfl, Nat.zero_le _, HG2, by unfold Hid; rw [HG.out]; exact HB2.out⟩
  case round =>
    obtain ⟨k, rfl, hk, HK, HB⟩ := hrel
    by_cases hlt : k < N
    · have c0 := HK.out.cell k (by rw [fillN_len hk]; exact hlt)
      have z0 := HK.out.free k
      have m0 := HK.out.lt
      have b0 : (k : Int) < (N : Int) := by omega
      have b1 : (0 : Int) ≤ (k : Int) := by omega
      generalize byt (fillN N c k) k = bb at *
      go_wp2_with fail
      have hK2 : Blk (wr.setCell ⟨g, k, none⟩ (.int .u8 (c : Int))) g (fillN N c (k + 1)) := by
        rw [← fillN_set hlt]
        exact HK.out.set k c
      have hB2 : Below g w1 (wr.setCell ⟨g, k, none⟩ (.int .u8 (c : Int))) := HB.out.setCell (p := ⟨g, k, none⟩) (Nat.le_refl _) _
      have HK2 := hid hK2
      have HBB := hid hB2
      generalize wr.setCell ⟨g, k, none⟩ (.int .u8 (c : Int)) = wz at HK2 HBB ⊢
      clear hK2 hB2 c0 z0 m0
      go_wp2_with fail
      go_roundw
      case rel => exact ⟨k + 1, by go_num, by omega, HK2, HBB⟩
      case measure => simp [intOf]; omega
    · obtain rfl : k = N := by omega
      have hbl : fillN k c k = rp n c := by unfold fillN rp; rw [Nat.sub_self, HN.out]; simp
      have b0 : ¬ (k : Int) < (k : Int) := by omega
      obtain ⟨zz, hzz⟩ : ∃ zz, zz = pkCells ⟨0, 5, false, mf, (A : Int), t, 17, 1, 2, []⟩ (.slice none 0 0) (.slice (some ⟨g, 0, none⟩) k k) := ⟨_, rfl⟩
      have HZZ := hid hzz
      have HALL : Hid (zz.all (·.oneCell') = true) := by unfold Hid; rw [hzz]; exact all_pk _ _ _ _ _ _ _
      have HSZ : Hid (zz.size = 11) := by unfold Hid; rw [hzz]; rfl
      have HK3 : Hid (wr.heap[w.heap.size]? = some (.cells Z29 29)) := (HB.out.block _ (by have := HS1.out; have := HG.out; omega)).trans HK1.out
      have HBL := hid hbl
      clear hzz hbl
      go_wp2_with (first | (refine wpList_st rfl 29 (.tmp 12) (.tmp 35) rfl w.heap.size zz rfl (by rw [HZZ.out]; rfl) 29 Z29 HK3.out (by rw [HSZ.out]; exact sz29) (by rw [HSZ.out]; rfl) HALL.out ?_) | fail)
      intro w5 hk5 hbut5
      rw [HZZ.out] at hk5
      have HL5 := hid (pk_var hk5)
      go_wp2_with fail
      refine bodyPost_ret (v := .agg (pkCells ⟨0, 5, false, mf, (A : Int), t, 17, 1, 2, []⟩ (.slice none 0 0) (.slice (some ⟨g, 0, none⟩) k k))) (by simp [results, Try.results15, asAddr, HL5.out]) rfl ?_
      have hBw : Below w.heap.size w wr := HB1.out.trans (HB.out.mono (by rw [HG.out]; exact HB1.out.size))
      have hgw : w.heap.size < g := by have := HS1.out; have := HG.out; omega
      refine ⟨g, ?_, ?_, by omega, hbut5.below hBw hBw.size (Nat.le_refl _)⟩
      · unfold ph
        rw [← HA.out, ← HN.out]
      · rw [← HBL.out]
        exact (hbut5.block g HK.out.lt (by omega)).trans HK.out

theorem own_cell {w : World} {base g c : Nat} {X : List Nat} (h : OwnB w base (.slice (some ⟨g, 0, none⟩) 168 c) X) (hX : X.length = 168) {j : Nat} (hj : j < 168) : w.cell? ⟨g, j, none⟩ = some (.int .u8 ((X.getD j 0 : Nat) : Int)) := by
  have h' : w.ownsRow base 5 1 (.slice (some ⟨g, 0, none⟩) 168 c) 168 (bs X) := by unfold OwnB at h; rwa [hX] at h
  rw [World.ownsRow.cellAt h' j (by omega)]
  simp [bs, hX, hj]
/-- A packet that is as it should be. -/
theorem matches_any (t : Nat) (X W : List Nat) (g n c : Nat) (vo : Value) (w : World) (hX : X.length = 168) (hW : W.length = 168) (base : Nat) (hb : OwnB w base (.slice (some ⟨g, 0, none⟩) n c) X) (h1 : ∀ j, j < 160 → X.getD j 0 = W.getD j 0) (h2 : ∀ j, 160 ≤ j → j < 168 → X.getD j 0 = 250) (hn : n = 168) (hvo : ∃ a n c, vo = .slice a n c) :
    Calls Try.prog 17 #[.agg (pkCells (ph 0 false t) vo (.slice (some ⟨g, 0, none⟩) n c)), .agg (bs W).toArray, .int .u8 (t : Int)] w fun e w' => e = .returned (.bool true) ∧ Below w.heap.size w w' := by
  subst hn
  obtain ⟨a9, n9, c9, rfl⟩ := hvo
  obtain ⟨pk, hpk⟩ : ∃ pk, pk = pkCells (ph 0 false t) (.slice a9 n9 c9) (.slice (some ⟨g, 0, none⟩) 168 c) := ⟨_, rfl⟩
  obtain ⟨wv, hwv⟩ : ∃ wv, wv = (bs W).toArray := ⟨_, rfl⟩
  obtain ⟨w1, hw1⟩ : ∃ w1, w1 = (w.alloc (.cells pk 29)).alloc (.cells wv 43) := ⟨_, rfl⟩
  have s0 : (w.alloc (.cells pk 29)).heap.size = w.heap.size + 1 := by simp
  have hba : Below w.heap.size w (w.alloc (.cells pk 29)) := (Below.refl _ _).alloc (Nat.le_refl _) _
  have hbb : Below (w.heap.size + 1) (w.alloc (.cells pk 29)) w1 := by rw [hw1]; exact (Below.refl _ _).alloc (by simp) _
  have hb1 : Below w.heap.size w w1 := hba.trans (hbb.mono (by omega))
  have r1 : w1.heap[w.heap.size]? = some (.cells pk 29 (0, 0)) := (hbb.block _ (by omega)).trans (heap_alloc_new w _)
  have r2 : w1.heap[w.heap.size + 1]? = some (.cells wv 43 (0, 0)) := by rw [hw1, ← s0]; exact heap_alloc_new _ _
  have hg1 := hb.below hb1
  have HF : Hid (∀ u : Beh w1, u.wd.cell? ⟨w.heap.size, 10, none⟩ = some (.slice (some ⟨g, 0, none⟩) 168 c) ∧ ∀ j, j < 168 → u.wd.cell? ⟨g, j, none⟩ = some (.int .u8 ((X.getD j 0 : Nat) : Int)) ∧ u.wd.cell? ⟨w.heap.size + 1, j, none⟩ = some (.int .u8 ((W.getD j 0 : Nat) : Int))) := fun u => by
    have k1 := (u.ok.block _ (Array.getElem?_eq_some_iff.1 r1).1).trans r1
    have k2 := (u.ok.block _ (Array.getElem?_eq_some_iff.1 r2).1).trans r2
    have k3 := hg1.below u.ok
    rw [hpk] at k1
    refine ⟨pk_at k1 10 (by omega), fun j hj => ⟨own_cell k3 hX hj, ?_⟩⟩
    rw [cell_of_row _ _ _ _ _ _ k2, hwv]
    simp [bs, hW, hj]
  rw [hpk] at r1
  have p10 : w1.cell? ⟨w.heap.size, 10, none⟩ = some (.slice (some ⟨g, 0, none⟩) 168 c) := pk_at r1 10 (by omega)
  have p5 : w1.cell? ⟨w.heap.size, 5, none⟩ = some (.int .u8 (t : Int)) := pk_at r1 5 (by omega)
  have p3 : w1.cell? ⟨w.heap.size, 3, none⟩ = some (.bool false) := pk_at r1 3 (by omega)
  have p4 : w1.cell? ⟨w.heap.size, 4, none⟩ = some (.int .i64 0) := pk_at r1 4 (by omega)
  have p1 : w1.cell? ⟨w.heap.size, 1, none⟩ = some (.int .u16 5) := pk_at r1 1 (by omega)
  have m0 := (Array.getElem?_eq_some_iff.1 r1).1
  have HW1 := hid hw1
  have HB1 := hid hb1
  have H1 := hid h1
  have H2 := hid h2
  rw [← hpk, ← hwv]
  clear hw1 hba hbb hb1 r1 r2 hg1 hb hX hW h1 h2 s0 hpk hwv
  go_enter Try.func17, Try.ntmps17
  go_upto_region 1 with fail
  rw [← HW1.out]
  go_wp2_with fail
  clear p10 p5 p3 p4 p1
  go_loopw [7] (fun i wr => ∃ k : Nat, i = .int .i64 (k : Int) ∧ k ≤ 168 ∧ ∃ u : Beh w1, wr = u.wd) (fun i _ => 168 - (intOf i).toNat)
  case atStart => exact ⟨0, rfl, Nat.zero_le _, ⟨w1, Below.refl _ _⟩, rfl⟩
  case round =>
    obtain ⟨k, rfl, hk, u, rfl⟩ := hrel
    by_cases hlt : k < 168
    · have b0 : (k : Int) < 168 := by omega
      have b1 : (0 : Int) ≤ (k : Int) := by omega
      have b2 : decide ((k : Int) < 0) = false := by simp
      by_cases h160 : k < 160
      · have d0 : (k : Int) < 160 := by omega
        have d1 : decide ((k : Int) < 160) = true := by simp; omega
        have d2 : decide ((160 : Int) ≤ (k : Int)) = false := by simp; omega
        have d3 : decide (160 ≤ k) = false := by simp; omega
        have d4 : decide (k < 160) = true := by simp; omega
        obtain ⟨x, hx⟩ : ∃ x, x = W.getD k 0 := ⟨_, rfl⟩
        have f0 : ∀ v : Beh u.wd, v.wd.cell? ⟨w.heap.size, 10, none⟩ = some (.slice (some ⟨g, 0, none⟩) 168 c) := fun v => (HF.out ⟨v.wd, u.ok.trans (v.ok.mono u.ok.size)⟩).1
        have f1 : ∀ v : Beh u.wd, v.wd.cell? ⟨g, k, none⟩ = some (.int .u8 (x : Int)) := fun v => by rw [hx, ← H1.out k h160]; exact ((HF.out ⟨v.wd, u.ok.trans (v.ok.mono u.ok.size)⟩).2 k hlt).1
        have f2 : ∀ v : Beh u.wd, v.wd.cell? ⟨w.heap.size + 1, k, none⟩ = some (.int .u8 (x : Int)) := fun v => by rw [hx]; exact ((HF.out ⟨v.wd, u.ok.trans (v.ok.mono u.ok.size)⟩).2 k hlt).2
        clear hx
        go_upto_region 6 with fail
        refine wp_region_beh (by kernel_rfl) (by kernel_rfl) ?_
        repeat (go_big_quiet_step (fail))
        refine wpQuiet_nil ?_
        rintro _ ⟨v, rfl⟩
        have HV : Hid (Below w1.heap.size w1 v.wd) := u.ok.trans (v.ok.mono u.ok.size)
        generalize v.wd = wz at HV ⊢
        clear f0 f1 f2
        go_wp2_with fail
        go_roundw
        case rel => exact ⟨k + 1, by go_num, by omega, ⟨wz, HV.out⟩, rfl⟩
        case measure => simp [intOf]; omega
      · have d0 : ¬ (k : Int) < 160 := by omega
        have d1 : decide ((k : Int) < 160) = false := by simp; omega
        have d2 : decide ((160 : Int) ≤ (k : Int)) = true := by simp; omega
        have d3 : decide (160 ≤ k) = true := by simp; omega
        have d4 : decide (k < 160) = false := by simp; omega
        have f0 : ∀ v : Beh u.wd, v.wd.cell? ⟨w.heap.size, 10, none⟩ = some (.slice (some ⟨g, 0, none⟩) 168 c) := fun v => (HF.out ⟨v.wd, u.ok.trans (v.ok.mono u.ok.size)⟩).1
        have f1 : ∀ v : Beh u.wd, v.wd.cell? ⟨g, k, none⟩ = some (.int .u8 250) := fun v => by have h := ((HF.out ⟨v.wd, u.ok.trans (v.ok.mono u.ok.size)⟩).2 k hlt).1; rw [H2.out k (by omega) hlt] at h; exact h
        go_upto_region 6 with fail
        refine wp_region_beh (by kernel_rfl) (by kernel_rfl) ?_
        repeat (go_big_quiet_step (fail))
        refine wpQuiet_nil ?_
        rintro _ ⟨v, rfl⟩
        have HV : Hid (Below w1.heap.size w1 v.wd) := u.ok.trans (v.ok.mono u.ok.size)
        generalize v.wd = wz at HV ⊢
        clear f0 f1
        go_wp2_with fail
        go_roundw
        case rel => exact ⟨k + 1, by go_num, by omega, ⟨wz, HV.out⟩, rfl⟩
        case measure => simp [intOf]; omega
    · have b0 : ¬ (k : Int) < 168 := by omega
      have HE : Hid (Below w.heap.size w u.wd) := HB1.out.trans (u.ok.mono HB1.out.size)
      generalize u.wd = wz at HE ⊢
      go_wp2_with fail
      go_ret
      exact ⟨rfl, HE.out⟩
end Go.Proofs.Ytdoeebbcieiimaa

namespace Go.Proofs.Ytdoeebbcieiimaa
open Go.ChangeShapes Go.WideShapes Go.ChangeAt Go.RowKit
set_option maxHeartbeats 4000000
set_option maxRecDepth 100000

def kk : Key := ⟨1, 2, 17, 5⟩
theorem key_ph (a : Nat) (mf : Bool) (t : Nat) : keyH (ph a mf t) = kk := rfl

/-- What stays as it was. -/
structure Kp (K : Nat → Prop) (u u' : World) : Prop where
  os : u'.os = u.os
  tape : u'.tape = u.tape
  output : u'.output = u.output
  size : u.heap.size ≤ u'.heap.size
  block : ∀ k, k < u.heap.size → K k → u'.heap[k]? = u.heap[k]?
theorem Kp.fr {K : Nat → Prop} {F : List Nat} {u u' : World} (h : Tm.Fr F u u') (hF : ∀ x ∈ F, ¬ K x) : Kp K u u' := ⟨h.os, h.tape, h.output, h.size, fun k hk hK => h.block k hk (fun hx => hF k hx hK)⟩
theorem Kp.of {K : Nat → Prop} {u u' : World} (h : Below u.heap.size u u') : Kp K u u' := ⟨h.os, h.tape, h.output, h.size, fun k hk _ => h.block k hk⟩
theorem Kp.trans {K : Nat → Prop} {a b c : World} (h : Kp K a b) (h' : Kp K b c) : Kp K a c := ⟨h'.os.trans h.os, h'.tape.trans h.tape, h'.output.trans h.output, Nat.le_trans h.size h'.size, fun k hk hK => (h'.block k (Nat.lt_of_lt_of_le hk h.size) hK).trans (h.block k hk hK)⟩

/-- An assembler that holds nothing. -/
def Em (u : World) (a : Nat) (K : Nat → Prop) : Prop := ∃ bm tb tm tg S, AsmAt u a 3 50 0 0 bm (fun _ => none) 0 tb tm tg S ∧ (fpA a bm tb tm tg).Nodup ∧ ∀ x ∈ fpA a bm tb tm tg, ¬ K x
/-- One that holds a datagram. -/
def Hl (u : World) (a : Nat) (K : Nat → Prop) (d : Dg) : Prop := ∃ bm tb tm tg S b do_ db dh, AsmAt u a 3 50 0 1 bm (putK (fun _ => none) kk b) 1 tb tm tg S ∧ (fpA a bm tb tm tg).Nodup ∧ DgAt u b d do_ db dh ∧ d.num = 1 ∧ (∀ x ∈ fpA a bm tb tm tg ++ (b :: (blkL do_ ++ (blkL db ++ blkL dh))), ¬ K x ∧ x < u.heap.size)

theorem Em.below {u u' : World} {a : Nat} {K : Nat → Prop} (h : Em u a K) (hb : Below u.heap.size u u') : Em u' a K := by
  obtain ⟨bm, tb, tm, tg, S, h1, h2, h3⟩ := h
  exact ⟨bm, tb, tm, tg, S, h1.below hb, h2, h3⟩
theorem Hl.below {u u' : World} {a : Nat} {K : Nat → Prop} {d : Dg} (h : Hl u a K d) (hb : Below u.heap.size u u') : Hl u' a K d := by
  obtain ⟨bm, tb, tm, tg, S, b, do_, db, dh, h1, h2, h3, h4, h5⟩ := h
  exact ⟨bm, tb, tm, tg, S, b, do_, db, dh, h1.below hb, h2, h3.below hb, h4, fun x hx => ⟨(h5 x hx).1, Nat.lt_of_lt_of_le (h5 x hx).2 hb.size⟩⟩
theorem Hl.but {u u' : World} {a g : Nat} {K : Nat → Prop} {d : Dg} (h : Hl u a K d) (hb : But g u u') (hg : K g) : Hl u' a K d := by
  obtain ⟨bm, tb, tm, tg, S, b, do_, db, dh, h1, h2, h3, h4, h5⟩ := h
  have hF : Tm.Fr [g] u u' := ⟨hb.os, hb.tape, hb.output, hb.size, fun k hk hn => hb.block k hk (fun e => hn (by simp [e]))⟩
  have hne : ∀ x ∈ fpA a bm tb tm tg ++ (b :: (blkL do_ ++ (blkL db ++ blkL dh))), x ≠ g := fun x hx e => (h5 x hx).1 (e ▸ hg)
  refine ⟨bm, tb, tm, tg, S, b, do_, db, dh, h1.fr hF (fun x hx hm => ?_), h2, h3.fr hF ?_ ?_ ?_ ?_, h4, fun x hx => ⟨(h5 x hx).1, Nat.lt_of_lt_of_le (h5 x hx).2 hb.size⟩⟩
  · simp only [List.mem_singleton] at hx
    exact hne x (List.mem_append_left _ hm) hx
  · simp only [List.mem_singleton]
    exact hne b (by simp)
  · intro x hx
    simp only [List.mem_singleton]
    exact hne x (by simp [blkL, hx])
  · intro x hx
    simp only [List.mem_singleton]
    exact hne x (by simp [blkL, hx])
  · intro x hx
    simp only [List.mem_singleton]
    exact hne x (by simp [blkL, hx])
theorem Em.but {u u' : World} {a g : Nat} {K : Nat → Prop} (h : Em u a K) (hb : But g u u') (hg : K g) : Em u' a K := by
  obtain ⟨bm, tb, tm, tg, S, h1, h2, h3⟩ := h
  have hF : Tm.Fr [g] u u' := ⟨hb.os, hb.tape, hb.output, hb.size, fun k hk hn => hb.block k hk (fun e => hn (by simp [e]))⟩
  refine ⟨bm, tb, tm, tg, S, h1.fr hF (fun x hx hm => ?_), h2, h3⟩
  simp only [List.mem_singleton] at hx
  exact h3 x hm (hx ▸ hg)

theorem Em.more {u u' : World} {a g : Nat} {K : Nat → Prop} (h : Em u a K) (hb : Below u.heap.size u u') (hg : u.heap.size ≤ g) : Em u' a (fun x => K x ∨ x = g) := by
  obtain ⟨bm, tb, tm, tg, S, h1, h2, h3⟩ := h
  exact ⟨bm, tb, tm, tg, S, h1.below hb, h2, fun x hx e => e.elim (h3 x hx) (fun e => by have := h1.lt x hx; omega)⟩
theorem Hl.more {u u' : World} {a g : Nat} {K : Nat → Prop} {d : Dg} (h : Hl u a K d) (hb : Below u.heap.size u u') (hg : u.heap.size ≤ g) : Hl u' a (fun x => K x ∨ x = g) d := by
  obtain ⟨bm, tb, tm, tg, S, b, do_, db, dh, h1, h2, h3, h4, h5⟩ := h
  exact ⟨bm, tb, tm, tg, S, b, do_, db, dh, h1.below hb, h2, h3.below hb, h4, fun x hx => ⟨fun e => e.elim (h5 x hx).1 (fun e => by have := (h5 x hx).2; omega), Nat.lt_of_lt_of_le (h5 x hx).2 hb.size⟩⟩
theorem Hl.less {u : World} {a : Nat} {K K' : Nat → Prop} {d : Dg} (h : Hl u a K' d) (hk : ∀ x, K x → K' x) : Hl u a K d := by
  obtain ⟨bm, tb, tm, tg, S, b, do_, db, dh, h1, h2, h3, h4, h5⟩ := h
  exact ⟨bm, tb, tm, tg, S, b, do_, db, dh, h1, h2, h3, h4, fun x hx => ⟨fun e => (h5 x hx).1 (hk x e), (h5 x hx).2⟩⟩
theorem Kp.less {K K' : Nat → Prop} {u u' : World} (h : Kp K' u u') (hk : ∀ x, K x → K' x) : Kp K u u' := ⟨h.os, h.tape, h.output, h.size, fun k hl e => h.block k hl (hk k e)⟩

theorem fp_new {a bm tb tm N : Nat} {tg tg' : Option Nat} (hnd : (fpA a bm tb tm tg).Nodup) (hlt : ∀ x ∈ fpA a bm tb tm tg, x < N) (h : ∀ x ∈ tg'.toList, x ∈ tg.toList ∨ N ≤ x) : (fpA a bm tb tm tg').Nodup ∧ ∀ x ∈ fpA a bm tb tm tg', x ∈ fpA a bm tb tm tg ∨ N ≤ x := by
  unfold fpA Tm.fp at *
  cases tg' with
  | none =>
    simp only [Option.toList_none]
    refine ⟨?_, fun x hx => .inl ?_⟩
    · have := (List.nodup_append.1 (show (([a, bm, tb, tm] : List Nat) ++ tg.toList).Nodup from hnd)).1
      exact this
    · simp at hx ⊢
      omega
  | some g =>
    have hg := h g (by simp)
    have h4 := (List.nodup_append.1 (show (([a, bm, tb, tm] : List Nat) ++ tg.toList).Nodup from hnd))
    refine ⟨?_, fun x hx => ?_⟩
    · show (([a, bm, tb, tm] : List Nat) ++ [g]).Nodup
      refine List.nodup_append.2 ⟨h4.1, by simp, fun x hx y hy => ?_⟩
      simp only [List.mem_singleton] at hy
      subst hy
      rcases hg with hg | hg
      · exact h4.2.2 x hx y hg
      · have := hlt x (by simp at hx ⊢; omega)
        omega
    · simp only [Option.toList_some, List.mem_cons, List.not_mem_nil, or_false] at hx
      rcases hx with rfl | rfl | rfl | rfl | rfl
      · exact .inl (by simp)
      · exact .inl (by simp)
      · exact .inl (by simp)
      · exact .inl (by simp)
      · rcases hg with hg | hg
        · exact .inl (by simp [hg])
        · exact .inr hg
theorem own_lt {w : World} {B k n : Nat} {v : Value} {cs : List Value} {T : TypeId} (h : w.ownsRow B T k v n cs) {g : Nat} (hg : v.ownBlock = some g) : g < w.heap.size := (World.ownsRow.lt h g hg).2

theorem rp_bytes {n c : Nat} (hc : c < 256) : ∀ x ∈ rp n c, x < 256 := fun x hx => by
  unfold rp at hx
  rw [(List.mem_replicate.1 hx).2]
  exact hc
theorem rp_sees {u u' : World} {F : List Nat} {g n c : Nat} (hb : Blk u g (rp n c)) (hc : c < 256) (hn : n ≤ 21) (hF : Tm.Fr F u u') (hg : g ∉ F) : SeesB u' (.slice (some ⟨g, 0, none⟩) (8 * n) (8 * n)) (rp n c) :=
  sees_blk ((hF.block g hb.lt hg).trans hb) (rp_len n c) (by omega) (rp_bytes hc)

/-- The first piece. -/
theorem add_new {u : World} {a : Nat} {K : Nat → Prop} (h : Em u a K) (hK : ∀ x, K x → x < u.heap.size) {p n c t g : Nat} {mf : Bool} (hp : p + n ≤ 21) (hn0 : 0 < n) (hc : c < 256) (ht : t < 256) (hb : Blk u g (rp n c)) (hKg : K g) (hw : isWh (ph p mf t) = false) (hww : wholeW d0 (ph p mf t) (8 * p) (8 * n) = false) :
    Calls Try.prog 16 #[.pointer (some ⟨a, 0, none⟩), .agg (pkCells (ph p mf t) (.slice none 0 0) (.slice (some ⟨g, 0, none⟩) (8 * n) (8 * n)))] u fun e u' => e = .returned (.tuple #[.agg Z29, .int .i64 52]) ∧ Hl u' a K (takeD (setNum d0 1) (ph p mf t) (8 * p) (rp n c)) ∧ Kp K u u' := by
  obtain ⟨bm, tb, tm, tg, S, h1, h2, h3⟩ := h
  have hgn : g ∉ fpA a bm tb tm tg := fun hm => h3 g hm hKg
  have hlt := h1.lt
  have hre := ph_re (a := p) (t := t) (mf := mf) hp hn0
  have hnl := newN_len d0 p n
  have hcl := cov_take (d := d0) (ph p mf t) (a := p) (n := n) (c := c) (by rw [show cvU d0 = fun _ => false from rfl, cnt_zero]; rfl) hp
  refine (add_first a 3 50 0 0 bm _ 0 tb tm tg S (ph p mf t) _ _ (rp n c) (8 * p) u h1 h2 ⟨by decide, by decide⟩ (by omega) (by omega) rfl (by omega) (by omega) (by omega) (ph_ok (by omega) ht) (fun _ _ => sees_nil _) (fun u' hF => rp_sees hb hc (by omega) hF hgn) rfl (by rw [rp_len]; omega) (by show (0 : Nat) ≤ 40; omega) (by rw [rp_len]; exact hre) hw (by rw [rp_len]; exact hww) ?_).mono ?_
  · rw [rp_len]
    have e : (0 : Nat) + newN ([] : List Bool) (8 * p) (8 * n) (newsL [] (8 * p) (8 * n)).length = 8 * cntU (cvU (takeD d0 (ph p mf t) (8 * p) (rp n c))) 21 := hcl.2.1
    have := hcl.2.2
    omega
  rintro e u' ⟨rfl, b, tg', V, vb', vh', hA, hD, htg, hF, hbN, hV, hvb, hvh⟩
  obtain ⟨n1, n2⟩ := fp_new h2 hlt htg
  have hnk : ∀ x, u.heap.size ≤ x → ¬ K x := fun x hx hk => by have := hK x hk; omega
  obtain ⟨-, -, -, -, f5, -, -⟩ := take_facts (setNum d0 1) (ph p mf t) p n c
  refine ⟨rfl, ⟨bm, tb, tm, tg', _, b, V, vb', vh', hA, n1, hD, f5, fun x hx => ?_⟩, Kp.fr hF h3⟩
  rcases List.mem_append.1 hx with hx | hx
  · exact ⟨(n2 x hx).elim (h3 x) (hnk x), hA.lt x hx⟩
  rcases List.mem_cons.1 hx with rfl | hx
  · exact ⟨hnk _ hbN, (Array.getElem?_eq_some_iff.1 hD.blk).1⟩
  rcases List.mem_append.1 hx with hx | hx
  · have e : V.ownBlock = some x := by simpa [blkL] using hx
    exact ⟨hnk _ (hV x e), own_lt hD.opts e⟩
  rcases List.mem_append.1 hx with hx | hx
  · have e : vb'.ownBlock = some x := by simpa [blkL] using hx
    exact ⟨hnk _ (hvb x e), own_lt hD.body e⟩
  · have e : vh'.ownBlock = some x := by simpa [blkL] using hx
    exact ⟨hnk _ (hvh x e), own_lt hD.hv e⟩

/-- One more. -/
theorem add_mid {u : World} {a : Nat} {K : Nat → Prop} {d : Dg} (h : Hl u a K d) (hK : ∀ x, K x → x < u.heap.size) {p n c t g : Nat} {mf : Bool} (hp : p + n ≤ 21) (hn0 : 0 < n) (hc : c < 256) (ht : t < 256) (hb : Blk u g (rp n c)) (hKg : K g) (hw : isWh (ph p mf t) = false) (hcl : clash d (ph p mf t) (8 * n) = false) (hww : wholeW d (ph p mf t) (8 * p) (8 * n) = false) (hcv : d.cov + newN d.hv (8 * p) (8 * n) (newsL d.hv (8 * p) (8 * n)).length ≤ 65535) :
    Calls Try.prog 16 #[.pointer (some ⟨a, 0, none⟩), .agg (pkCells (ph p mf t) (.slice none 0 0) (.slice (some ⟨g, 0, none⟩) (8 * n) (8 * n)))] u fun e u' => e = .returned (.tuple #[.agg Z29, .int .i64 52]) ∧ Hl u' a K (takeD d (ph p mf t) (8 * p) (rp n c)) ∧ Kp K u u' := by
  obtain ⟨bm, tb, tm, tg, S, b, do_, db, dh, h1, h2, h3, h4, h5⟩ := h
  have hgn : ∀ x ∈ fpA a bm tb tm tg ++ (b :: (blkL do_ ++ (blkL db ++ blkL dh))), x ≠ g := fun x hx e => (h5 x hx).1 (e ▸ hKg)
  have hlt := h1.lt
  have hre := ph_re (a := p) (t := t) (mf := mf) hp hn0
  have hkf : putK (fun _ => none) kk b (keyH (ph p mf t)) = some b := by rw [key_ph]; unfold putK; rw [if_pos rfl]
  refine (add_more a 3 50 0 1 bm _ 1 tb tm tg S b d do_ db dh (ph p mf t) _ _ (rp n c) (8 * p) u h1 h2 ⟨by decide, by decide⟩ (by omega) (by omega) hkf h3 (by rw [h4]; exact ⟨by decide, by decide⟩) (ph_ok (by omega) ht) (sees_nil _) (fun u' hF => rp_sees hb hc (by omega) hF (fun hm => hgn g (List.mem_append_right _ (by
    rcases List.mem_cons.1 hm with rfl | hm
    · exact List.mem_cons_self ..
    · exact List.mem_cons_of_mem _ (List.mem_append_right _ hm))) rfl)) rfl (by rw [rp_len]; omega) (by show (0 : Nat) ≤ 40; omega) (by rw [rp_len]; exact hre) hw (by rw [rp_len]; exact hcl) (by rw [rp_len]; exact hww) (by rw [rp_len]; exact hcv)).mono ?_
  rintro e u' ⟨rfl, tg', V, vb', vh', hA, hD, htg, hF, hV, hvb, hvh⟩
  obtain ⟨n1, n2⟩ := fp_new h2 hlt htg
  have hnk : ∀ x, u.heap.size ≤ x → ¬ K x := fun x hx hk => by have := hK x hk; omega
  have hold : ∀ x ∈ fpA a bm tb tm tg ++ (b :: (blkL do_ ++ (blkL db ++ blkL dh))), ¬ K x := fun x hx => (h5 x hx).1
  obtain ⟨-, -, -, -, f5, -, -⟩ := take_facts d (ph p mf t) p n c
  refine ⟨rfl, ⟨bm, tb, tm, tg', _, b, V, vb', vh', hA, n1, hD, f5.trans h4, fun x hx => ?_⟩, Kp.fr hF (fun x hx => ?_)⟩
  · rcases List.mem_append.1 hx with hx | hx
    · exact ⟨(n2 x hx).elim (fun hm => hold x (List.mem_append_left _ hm)) (hnk x), hA.lt x hx⟩
    rcases List.mem_cons.1 hx with rfl | hx
    · exact ⟨hold _ (by simp), (Array.getElem?_eq_some_iff.1 hD.blk).1⟩
    rcases List.mem_append.1 hx with hx | hx
    · have e : V.ownBlock = some x := by simpa [blkL] using hx
      exact ⟨hnk _ (hV x e), own_lt hD.opts e⟩
    rcases List.mem_append.1 hx with hx | hx
    · have e : vb'.ownBlock = some x := by simpa [blkL] using hx
      refine ⟨?_, own_lt hD.body e⟩
      rcases hvb with e' | ⟨y, e', hy⟩
      · exact hold x (by simp [blkL, ← e', e])
      · rw [e] at e'
        cases e'
        exact hnk _ hy
    · have e : vh'.ownBlock = some x := by simpa [blkL] using hx
      refine ⟨?_, own_lt hD.hv e⟩
      rcases hvh with e' | ⟨y, e', hy⟩
      · exact hold x (by simp [blkL, ← e', e])
      · rw [e] at e'
        cases e'
        exact hnk _ hy
  · rcases List.mem_append.1 hx with hx | hx
    · exact hold x (List.mem_append_left _ hx)
    · refine hold x (List.mem_append_right _ ?_)
      rcases List.mem_cons.1 hx with rfl | hx
      · exact List.mem_cons_self ..
      · exact List.mem_cons_of_mem _ (List.mem_append_right _ hx)

/-- The one that makes it whole. -/
theorem add_fin {u : World} {a : Nat} {K : Nat → Prop} {d : Dg} (h : Hl u a K d) {p n c t g : Nat} {mf : Bool} (hp : p + n ≤ 21) (hn0 : 0 < n) (hc : c < 256) (ht : t < 256) (hb : Blk u g (rp n c)) (hKg : K g) (hw : isWh (ph p mf t) = false) (hcl : clash d (ph p mf t) (8 * n) = false) (hww : wholeW d (ph p mf t) (8 * p) (8 * n) = true) (hL : lenW d (ph p mf t) (8 * n) = 168) (hbl : d.body.length ≤ 168) {T : Nat} (hhd : headW d (ph p mf t) = ph 0 true T) :
    Calls Try.prog 16 #[.pointer (some ⟨a, 0, none⟩), .agg (pkCells (ph p mf t) (.slice none 0 0) (.slice (some ⟨g, 0, none⟩) (8 * n) (8 * n)))] u fun e u' => ∃ V g' c', e = .returned (.tuple #[.agg (pkCells (ph 0 false T) V (.slice (some ⟨g', 0, none⟩) 168 c')), .int .i64 0]) ∧ (∃ x y z, V = .slice x y z) ∧ OwnB u' u.heap.size (.slice (some ⟨g', 0, none⟩) 168 c') (joinL d (8 * p) (rp n c) 168) ∧ Kp K u u' := by
  obtain ⟨bm, tb, tm, tg, S, b, do_, db, dh, h1, h2, h3, h4, h5⟩ := h
  have hgn : g ∉ fpA a bm tb tm tg := fun hm => (h5 g (List.mem_append_left _ hm)).1 hKg
  have hre := ph_re (a := p) (t := t) (mf := mf) hp hn0
  have hkf : putK (fun _ => none) kk b (keyH (ph p mf t)) = some b := by rw [key_ph]; unfold putK; rw [if_pos rfl]
  have hgd : refE { headW d (ph p mf t) with mf := false } 168 = 0 := by
    rw [hhd]
    exact ph_re (a := 0) (n := 21) (t := T) (mf := false) (by omega) (by omega)
  have hjl := (join_at d p n c 168 hbl (by omega)).1
  refine (add_done a 3 50 0 1 bm _ 1 tb tm tg S b d do_ db dh (ph p mf t) _ _ (rp n c) (8 * p) u h1 h2 hkf h3 (by rw [h4]; exact ⟨by decide, by decide⟩) (ph_ok (by omega) ht) (fun _ _ => sees_nil _) (fun u' hF => rp_sees hb hc (by omega) hF hgn) rfl (by rw [rp_len]; omega) (by show (0 : Nat) ≤ 40; omega) (by rw [rp_len]; exact hre) hw (by rw [rp_len]; exact hcl) (by rw [rp_len]; exact hww) 168 (by rw [rp_len, hL]; rfl) (by rw [rp_len]; omega) hbl (by omega) hgd).mono ?_
  rintro e u' ⟨V, vB, rfl, hA, hV, hB, hF⟩
  obtain ⟨x, y, hVs⟩ := hV.shape
  rcases hB.2 with ⟨rfl, e0⟩ | ⟨g', cap, cur, rfl, hx⟩
  · rw [hjl] at e0
    cases e0
  refine ⟨V, g', cap, ?_, ⟨x, _, y, hVs⟩, ?_, Kp.fr hF (fun x hx => (h5 x (List.mem_append_left _ hx)).1)⟩
  · rw [hhd, hjl]
    rfl
  · rw [hjl] at hB
    exact hB
end Go.Proofs.Ytdoeebbcieiimaa

namespace Go.Proofs.Ytdoeebbcieiimaa
open Go.ChangeShapes Go.WideShapes Go.ChangeAt Go.RowKit
set_option maxHeartbeats 4000000
set_option maxRecDepth 100000

def Zw : List Nat := List.replicate 168 0
/-- What the assembler holds when the bytes W are wanted. -/
def Asm (u : World) (a : Nat) (K : Nat → Prop) (W : List Nat) (lf : Bool) (t : Nat) : Prop := (Em u a K ∧ W = Zw ∧ lf = false ∧ t = 0) ∨ ∃ d, Hl u a K d ∧ Fs d W lf t
theorem Asm.wl {u : World} {a : Nat} {K : Nat → Prop} {W : List Nat} {lf : Bool} {t : Nat} (h : Asm u a K W lf t) : W.length = 168 := by
  rcases h with ⟨-, rfl, -, -⟩ | ⟨d, -, h⟩
  · exact List.length_replicate
  · exact h.wl
theorem Asm.below {u u' : World} {a : Nat} {K : Nat → Prop} {W : List Nat} {lf : Bool} {t : Nat} (h : Asm u a K W lf t) (hb : Below u.heap.size u u') : Asm u' a K W lf t := by
  rcases h with ⟨h, h1⟩ | ⟨d, h, h1⟩
  · exact .inl ⟨h.below hb, h1⟩
  · exact .inr ⟨d, h.below hb, h1⟩
theorem Asm.but {u u' : World} {a g : Nat} {K : Nat → Prop} {W : List Nat} {lf : Bool} {t : Nat} (h : Asm u a K W lf t) (hb : But g u u') (hg : K g) : Asm u' a K W lf t := by
  rcases h with ⟨h, h1⟩ | ⟨d, h, h1⟩
  · exact .inl ⟨h.but hb hg, h1⟩
  · exact .inr ⟨d, h.but hb hg, h1⟩
theorem Asm.more {u u' : World} {a g : Nat} {K : Nat → Prop} {W : List Nat} {lf : Bool} {t : Nat} (h : Asm u a K W lf t) (hb : Below u.heap.size u u') (hg : u.heap.size ≤ g) : Asm u' a (fun x => K x ∨ x = g) W lf t := by
  rcases h with ⟨h, h1⟩ | ⟨d, h, h1⟩
  · exact .inl ⟨h.more hb hg, h1⟩
  · exact .inr ⟨d, h.more hb hg, h1⟩

theorem Asm.less {u : World} {a : Nat} {K K' : Nat → Prop} {W : List Nat} {lf : Bool} {t : Nat} (h : Asm u a K' W lf t) (hk : ∀ x, K x → K' x) : Asm u a K W lf t := by
  rcases h with ⟨⟨bm, tb, tm, tg, S, h1, h2, h3⟩, h4⟩ | ⟨d, h, h1⟩
  · exact .inl ⟨⟨bm, tb, tm, tg, S, h1, h2, fun x hx e => h3 x hx (hk x e)⟩, h4⟩
  · exact .inr ⟨d, h.less hk, h1⟩
/-- The first of them are there. -/
def upW (W : List Nat) (k : Nat) : Bool := (List.range k).all fun j => decide (W.getD j 0 ≠ 0)
theorem upW_succ (W : List Nat) (k : Nat) : upW W (k + 1) = (upW W k && decide (W.getD k 0 ≠ 0)) := by
  unfold upW
  rw [List.range_succ, List.all_append]
  simp
theorem upW_all (W : List Nat) : upW W 160 = allW W := rfl
theorem allW_zero : allW Zw = false := by
  rw [Bool.eq_false_iff]
  intro h
  exact allW_iff.1 h 0 (by omega) (zeros_at 0)
theorem allW_full {W : List Nat} {c : Nat} (hc : c ≠ 0) : allW (updT W (8 * 0) (8 * (0 + 20)) c) = true := by
  rw [allW_iff]
  intro j hj
  rw [updT_at (by omega)]
  by_cases h : W.getD j 0 = 0
  · rw [if_pos ⟨by omega, by omega, h⟩]; exact hc
  · rw [if_neg (fun h1 => h h1.2.2)]; exact h
/-- The bytes of what comes out. -/
def Good (X W : List Nat) : Prop := X.length = 168 ∧ (∀ j, j < 160 → X.getD j 0 = W.getD j 0) ∧ ∀ j, 160 ≤ j → j < 168 → X.getD j 0 = 250

/-- A piece comes: not yet whole. -/
theorem add_some {u : World} {a : Nat} {K : Nat → Prop} {W : List Nat} {lf : Bool} {t : Nat} (hM : Asm u a K W lf t) (hK' : ∀ x, K x → x < u.heap.size) {p n c tn g : Nat} (hp : p + n ≤ 20) (hn0 : 0 < n) (hc : c < 256) (hc0 : c ≠ 0) (ht : tn < 256) (ht0 : tn ≠ 0) (hb : Blk u g (rp n c)) (hg : K g) (hww : (lf && allW (updT W (8 * p) (8 * (p + n)) c)) = false) :
    Calls Try.prog 16 #[.pointer (some ⟨a, 0, none⟩), .agg (pkCells (ph p true tn) (.slice none 0 0) (.slice (some ⟨g, 0, none⟩) (8 * n) (8 * n)))] u fun e u' => e = .returned (.tuple #[.agg Z29, .int .i64 52]) ∧ Asm u' a K (updT W (8 * p) (8 * (p + n)) c) lf (ttlN p t tn) ∧ Kp K u u' := by
  have hwh : isWh (ph p true tn) = false := by unfold isWh; simp [ph]
  rcases hM with ⟨hE, rfl, rfl, rfl⟩ | ⟨d, hH, hF⟩
  · have hF0 := Fs.none 1
    refine (add_new hE hK' (p := p) (n := n) (c := c) (t := tn) (mf := true) (by omega) hn0 hc ht hb hg hwh (by unfold wholeW; rfl)).mono ?_
    rintro e u' ⟨rfl, h1, h2⟩
    exact ⟨rfl, .inr ⟨_, h1, hF0.take hp hn0 hc0 ht0⟩, h2⟩
  · have hwl := hF.whole hp hn0 hc0 ht0
    rw [hww] at hwl
    have hcv := cov_take (ph p true tn) (c := c) hF.cov (show p + n ≤ 21 by omega)
    refine (add_mid hH hK' (p := p) (n := n) (c := c) (t := tn) (mf := true) (by omega) hn0 hc ht hb hg hwh (hF.clash hp) hwl (by rw [hcv.2.1]; have := hcv.2.2; omega)).mono ?_
    rintro e u' ⟨rfl, h1, h2⟩
    exact ⟨rfl, .inr ⟨_, h1, hF.take hp hn0 hc0 ht0⟩, h2⟩
/-- A piece comes, and all is there. -/
theorem add_all {u : World} {a : Nat} {K : Nat → Prop} {W : List Nat} {lf : Bool} {t : Nat} (hM : Asm u a K W lf t) {p n c tn g : Nat} (hp : p + n ≤ 20) (hn0 : 0 < n) (hc : c < 256) (hc0 : c ≠ 0) (ht : tn < 256) (ht0 : tn ≠ 0) (hb : Blk u g (rp n c)) (hg : K g) (hww : (lf && allW (updT W (8 * p) (8 * (p + n)) c)) = true) :
    Calls Try.prog 16 #[.pointer (some ⟨a, 0, none⟩), .agg (pkCells (ph p true tn) (.slice none 0 0) (.slice (some ⟨g, 0, none⟩) (8 * n) (8 * n)))] u fun e u' => ∃ V g' c' X, e = .returned (.tuple #[.agg (pkCells (ph 0 false (ttlN p t tn)) V (.slice (some ⟨g', 0, none⟩) 168 c')), .int .i64 0]) ∧ (∃ x y z, V = .slice x y z) ∧ OwnB u' u.heap.size (.slice (some ⟨g', 0, none⟩) 168 c') X ∧ Good X (updT W (8 * p) (8 * (p + n)) c) ∧ Kp K u u' := by
  have hwh : isWh (ph p true tn) = false := by unfold isWh; simp [ph]
  rw [Bool.and_eq_true] at hww
  obtain ⟨hlf, hall⟩ := hww
  subst hlf
  rcases hM with ⟨-, -, hx, -⟩ | ⟨d, hH, hF⟩
  · cases hx
  · have hwl := hF.whole hp hn0 hc0 ht0
    rw [hall] at hwl
    obtain ⟨j1, j2, j3, j4⟩ := hF.join hp hn0 hc0 ht0 (allW_iff.1 hall)
    have hl : lenW d (ph p true tn) (8 * n) = 168 := by
      show (d.len : Int) = 168
      rw [hF.len]
      rfl
    have hbl : d.body.length ≤ 168 := by have := hF.bl; simpa using this
    refine (add_fin hH (p := p) (n := n) (c := c) (t := tn) (mf := true) (by omega) hn0 hc ht hb hg hwh (hF.clash hp) hwl hl hbl j4).mono ?_
    rintro e u' ⟨V, g', c', rfl, hV, hO, hk⟩
    exact ⟨V, g', c', _, rfl, hV, hO, ⟨j1, j2, j3⟩, hk⟩
/-- The last piece comes first. -/
theorem add_last0 {u : World} {a : Nat} {K : Nat → Prop} (h : Em u a K) (hK : ∀ x, K x → x < u.heap.size) {g : Nat} (hb : Blk u g (rp 1 250)) (hg : K g) :
    Calls Try.prog 16 #[.pointer (some ⟨a, 0, none⟩), .agg (pkCells (ph 20 false 9) (.slice none 0 0) (.slice (some ⟨g, 0, none⟩) 8 8))] u fun e u' => e = .returned (.tuple #[.agg Z29, .int .i64 52]) ∧ Asm u' a K Zw true 0 ∧ Kp K u u' := by
  refine (add_new h hK (p := 20) (n := 1) (c := 250) (t := 9) (mf := false) (by omega) (by omega) (by omega) (by omega) hb hg rfl ?_).mono ?_
  · have hc := cov_take (d := d0) (ph 20 false 9) (a := 20) (n := 1) (c := 250) (by rw [show cvU d0 = fun _ => false from rfl, cnt_zero]; rfl) (by omega)
    unfold wholeW
    rw [Bool.and_eq_false_iff]
    refine .inr (decide_eq_false ?_)
    rw [newN_len]
    have : (newsL d0.hv (8 * 20) (8 * 1)).length ≤ 1 := by
      unfold newsL
      rw [steps_rp]
      exact Nat.le_trans (List.length_filter_le ..) (by simp)
    show ¬ ((0 + 8 * (newsL d0.hv (8 * 20) (8 * 1)).length : Nat) : Int) = 168
    omega
  · rintro e u' ⟨rfl, h1, h2⟩
    exact ⟨rfl, .inr ⟨_, h1, Fs.last 1⟩, h2⟩
/-- The last piece comes last. -/
theorem add_last1 {u : World} {a : Nat} {K : Nat → Prop} {W : List Nat} {t : Nat} (h : Asm u a K W false t) {g : Nat} (hb : Blk u g (rp 1 250)) (hg : K g) (hall : allW W = true) :
    Calls Try.prog 16 #[.pointer (some ⟨a, 0, none⟩), .agg (pkCells (ph 20 false 9) (.slice none 0 0) (.slice (some ⟨g, 0, none⟩) 8 8))] u fun e u' => ∃ V g' c' X, e = .returned (.tuple #[.agg (pkCells (ph 0 false t) V (.slice (some ⟨g', 0, none⟩) 168 c')), .int .i64 0]) ∧ (∃ x y z, V = .slice x y z) ∧ OwnB u' u.heap.size (.slice (some ⟨g', 0, none⟩) 168 c') X ∧ Good X W ∧ Kp K u u' := by
  rcases h with ⟨-, rfl, -, -⟩ | ⟨d, hH, hF⟩
  · rw [allW_zero] at hall
    cases hall
  · obtain ⟨e1, e2, e3, e4, e5, e6, e7, e8⟩ := hF.end_ (allW_iff.1 hall)
    refine (add_fin hH (p := 20) (n := 1) (c := 250) (t := 9) (mf := false) (by omega) (by omega) (by omega) (by omega) hb hg rfl e2 e1 e3 e4 e8).mono ?_
    rintro e u' ⟨V, g', c', rfl, hV, hO, hk⟩
    exact ⟨V, g', c', _, rfl, hV, hO, ⟨e5, e6, e7⟩, hk⟩

/-- The law's own blocks: the bytes that are wanted, the last piece and its body. -/
structure Ws (w u : World) (p7 p9 gl : Nat) (W : List Nat) : Prop where
  want : u.heap[p7]? = some (.cells (bs W).toArray 43 (0, 0))
  last : u.heap[p9]? = some (.cells (pkCells (ph 20 false 9) (.slice none 0 0) (.slice (some ⟨gl, 0, none⟩) 8 8)) 29 (0, 0))
  body : Blk u gl (rp 1 250)
  be : Below w.heap.size w u
  l7 : w.heap.size ≤ p7
  n79 : p7 ≠ p9
  n7g : p7 ≠ gl
def KK (w : World) (p7 p9 gl : Nat) (x : Nat) : Prop := x < w.heap.size ∨ x = p7 ∨ x = p9 ∨ x = gl
theorem Ws.lt {w u : World} {p7 p9 gl : Nat} {W : List Nat} (h : Ws w u p7 p9 gl W) : ∀ x, KK w p7 p9 gl x → x < u.heap.size := fun x hx => by
  rcases hx with hx | rfl | rfl | rfl
  · exact Nat.lt_of_lt_of_le hx h.be.size
  · exact (Array.getElem?_eq_some_iff.1 h.want).1
  · exact (Array.getElem?_eq_some_iff.1 h.last).1
  · exact h.body.lt
theorem Ws.kp {w u u' : World} {p7 p9 gl : Nat} {W : List Nat} (h : Ws w u p7 p9 gl W) (hk : Kp (KK w p7 p9 gl) u u') : Ws w u' p7 p9 gl W :=
  ⟨(hk.block _ (Array.getElem?_eq_some_iff.1 h.want).1 (.inr (.inl rfl))).trans h.want, (hk.block _ (Array.getElem?_eq_some_iff.1 h.last).1 (.inr (.inr (.inl rfl)))).trans h.last, (hk.block _ h.body.lt (.inr (.inr (.inr rfl)))).trans h.body,
    ⟨hk.os.trans h.be.os, hk.tape.trans h.be.tape, hk.output.trans h.be.output, Nat.le_trans h.be.size hk.size, fun k hl => (hk.block k (Nat.lt_of_lt_of_le hl h.be.size) (.inl hl)).trans (h.be.block k hl)⟩, h.l7, h.n79, h.n7g⟩
theorem Ws.below {w u u' : World} {p7 p9 gl : Nat} {W : List Nat} (h : Ws w u p7 p9 gl W) (hb : Below u.heap.size u u') : Ws w u' p7 p9 gl W := h.kp (Kp.of hb)
theorem Ws.cell {w u : World} {p7 p9 gl : Nat} {W : List Nat} (h : Ws w u p7 p9 gl W) (hW : W.length = 168) {j : Nat} (hj : j < 168) : u.cell? ⟨p7, j, none⟩ = some (.int .u8 ((W.getD j 0 : Nat) : Int)) ∧ u.frozen? ⟨p7, j, none⟩ = false ∧ p7 < u.heap.size := by
  refine ⟨?_, frozen_of_row _ _ _ _ _ h.want, (Array.getElem?_eq_some_iff.1 h.want).1⟩
  rw [cell_of_row _ _ _ _ _ _ h.want]
  simp [bs, hW, hj]
theorem Ws.set {w u : World} {p7 p9 gl : Nat} {W : List Nat} (h : Ws w u p7 p9 gl W) (j c : Nat) : Ws w (u.setCell ⟨p7, j, none⟩ (.int .u8 (c : Int))) p7 p9 gl (W.set j c) ∧ But p7 u (u.setCell ⟨p7, j, none⟩ (.int .u8 (c : Int))) := by
  have hb : But p7 u (u.setCell ⟨p7, j, none⟩ (.int .u8 (c : Int))) := ⟨rfl, rfl, rfl, by simp [World.setCell], fun i hi hn => by simp [World.setCell, Array.getElem?_modify, Ne.symm hn]⟩
  refine ⟨⟨?_, (hb.block _ (Array.getElem?_eq_some_iff.1 h.last).1 h.n79.symm).trans h.last, (hb.block _ h.body.lt h.n7g.symm).trans h.body, hb.below h.be h.be.size h.l7, h.l7, h.n79, h.n7g⟩, hb⟩
  have h1 := heap_setCell_same u p7 j _ 43 (.int .u8 (c : Int)) h.want
  rw [h1]
  simp [bs, List.map_set]
end Go.Proofs.Ytdoeebbcieiimaa

namespace Go.Proofs.Ytdoeebbcieiimaa
open Go.ChangeShapes Go.WideShapes Go.ChangeAt Go.RowKit
set_option maxHeartbeats 16000000
set_option maxRecDepth 100000

theorem zero43 : Try.zeroCells43 = (bs Zw).toArray := by kernel_rfl
theorem sz43 : (Try.prog.info? 43).map (·.size) = some 168 := by kernel_rfl

theorem want_load {u : World} {p : Nat} {W : List Nat} (hW : W.length = 168) (h : u.heap[p]? = some (.cells (bs W).toArray 43 (0, 0))) : (Instr.loadAt 43 (.pointer (some ⟨p, 0, none⟩))).run Try.prog u = .ok (.agg (bs W).toArray) u := by
  refine run_loadAt_mid u p 0 43 (bs W) (.array 168 5) (fun j v hv => ?_) Try.underlying43 rfl (by rw [bs, List.length_map, hW]; exact sz43)
  rw [Nat.zero_add, cell_of_row _ _ _ _ _ _ h, ← hv]
  simp
theorem wrap_nat' {a : Nat} (h : a < 256) : wrap64 (a : Int) = (a : Int) := by
  unfold wrap64; omega

theorem first_walk (v : Value) (L : List Nat) (lf : Bool) (w : World) (hv : SeesB w v L) :
    Calls Try.prog 4 #[v, .bool lf] w fun e w' => e = .returned (.bool true) ∧ Below w.heap.size w w' := by
  obtain ⟨av, nv, cv, rfl, HNV, hv1, hv2⟩ := hv.shape
  unfold maxLen at hv2
  have HV := hid hv
  have hcutH : nv > 40 → ∃ ao', Hid (SeesB w (.slice ao' 40 cv) (L.take 40)) ∧ ∀ u : World, (Instr.sliceAt 22 (.slice av nv cv) none (some (.int .i64 40)) none).run Try.prog u = .ok (.slice ao' 40 cv) u := fun h => HV.out.high 40 40 rfl (by omega)
  have HCH := hid hcutH
  have HNA := hid (newA_good 3 50 w (by decide) (by decide) (by decide) (by decide))
  clear hv hcutH
  go_enter Try.func4, Try.ntmps4
  go_upto_if 25 with fail
  go_cut [0] from 23 (fun p wx => ∃ x, x = wx ∧ (∃ a m c, p = .slice a m c) ∧ Hid (SeesB w p (L.take 40)) ∧ x = w)
  case first =>
    by_cases hn : 40 < nv
    · obtain ⟨ao', HS, hcut⟩ := HCH.out hn
      go_wp2_with fail
      go_meet
      case rel => exact ⟨_, rfl, ⟨_, _, _, rfl⟩, HS, rfl⟩
    · have HS : Hid (SeesB w (.slice av nv cv) (L.take 40)) := by
        unfold Hid; rw [List.take_of_length_le (by have := HNV.out; omega)]; exact HV.out
      go_wp2_with fail
      go_meet
      case rel => exact ⟨_, rfl, ⟨_, _, _, rfl⟩, HS, rfl⟩
  case rest =>
  obtain ⟨x, rfl, ⟨ap, np, cp, rfl⟩, HS, rfl⟩ := hcut
  obtain ⟨O, hO⟩ : ∃ O, O = L.take 40 := ⟨_, rfl⟩
  have hO40 : O.length ≤ 40 := by rw [hO, List.length_take]; omega
  rw [← hO] at HS
  have hnp : np = O.length := by obtain ⟨_, _, h1, _⟩ := HS.out; simp at h1; exact h1.2.1
  have hnp40 : np ≤ 40 := by omega
  have HNP := hid hnp
  clear hO hO40 hnp HCH HV HNV hv1 hv2
  go_wp2_with fail
  refine HNA.out.mono ?_
  rintro _ w1 ⟨a, bm, tb, tm, rfl, hA, hfp, hnd, hb1⟩
  obtain ⟨p7, hp7⟩ : ∃ p7, p7 = w1.heap.size := ⟨_, rfl⟩
  obtain ⟨w2, hw2⟩ : ∃ w2, w2 = w1.alloc (.cells Try.zeroCells43 43) := ⟨_, rfl⟩
  have hb2 : Below w1.heap.size w1 w2 := by rw [hw2]; exact (Below.refl _ _).alloc (Nat.le_refl _) _
  have hr2 : w2.heap[p7]? = some (.cells (bs Zw).toArray 43 (0, 0)) := by rw [hw2, hp7, ← zero43]; exact heap_alloc_new _ _
  have HPI : Hid (Calls Try.prog 15 #[.int .u16 5, .int .i64 20, .int .i64 1, .int .u8 250, .bool false, .int .u8 9] w2 fun e w' => ∃ g, e = .returned (.agg (pkCells (ph 20 false 9) (.slice none 0 0) (.slice (some ⟨g, 0, none⟩) 8 8))) ∧ Blk w' g (rp 1 250) ∧ w2.heap.size ≤ g ∧ Below w2.heap.size w2 w') := piece_any 20 1 250 9 false w2 (by omega) (by omega) (by omega) (by omega)
  have HA := hid hA
  have HFP := hid hfp
  have HND := hid hnd
  have HB1 := hid hb1
  have HB2 := hid hb2
  have HR2 := hid hr2
  have HP7 := hid hp7
  have HW2 := hid hw2
  have hsz2 : w2.heap.size = w1.heap.size + 1 := by rw [hw2]; simp
  have HSZ2 := hid hsz2
  clear hA hfp hnd hb1 hb2 hr2 hw2 hp7 hsz2 HNA
  go_upto_region 8 with fail
  rw [← HW2.out, ← HP7.out]
  go_wp2_with fail
  refine HPI.out.mono ?_
  rintro _ w3 ⟨gl, rfl, hgl, hgl2, hb3⟩
  obtain ⟨qc, hqc⟩ : ∃ qc, qc = pkCells (ph 20 false 9) (.slice none 0 0) (.slice (some ⟨gl, 0, none⟩) 8 8) := ⟨_, rfl⟩
  have HQC := hid hqc
  have HALQ : Hid (qc.all (·.oneCell') = true) := by unfold Hid; rw [hqc]; exact all_pk _ _ _ _ _ _ _
  have HSZQ : Hid (qc.size = 11) := by unfold Hid; rw [hqc]; rfl
  have HZQ : Hid ((w3.alloc (.cells Z29 29)).heap[w3.heap.size]? = some (.cells Z29 29)) := heap_alloc_new w3 _
  have HGL := hid hgl
  have HGL2 := hid hgl2
  have HB3 := hid hb3
  rw [← hqc]
  clear hqc hgl hgl2 hb3 HPI
  go_upto_if 39 with (first | (refine wpList_st rfl 29 (.tmp 9) (.tmp 38) rfl w3.heap.size qc rfl rfl 29 Z29 HZQ.out (by rw [HSZQ.out]; exact sz29) (by rw [HSZQ.out]; rfl) HALQ.out ?_; intro w4 hk4 hbut4) | fail)
  obtain ⟨p9, hp9⟩ : ∃ p9, p9 = w3.heap.size := ⟨_, rfl⟩
  have hbut4 : But w3.heap.size (w3.alloc (.cells Z29 29)) w4 := hbut4
  rw [← hp9] at hk4 hbut4 ⊢
  obtain ⟨K, hK⟩ : ∃ K, K = KK x p7 p9 gl := ⟨_, rfl⟩
  have hb23 : Below w2.heap.size w2 (w3.alloc (.cells Z29 29)) := HB3.out.alloc HB3.out.size _
  have hb24 : Below w2.heap.size w2 w4 := hbut4.below hb23 hb23.size (by rw [hp9]; exact HB3.out.size)
  have hb14 : Below w1.heap.size w1 w4 := HB2.out.trans (hb24.mono HB2.out.size)
  have hs2 := HSZ2.out
  have hs3 := HB3.out.size
  have hp7' := HP7.out
  have hgll := HGL.out.lt
  have hgl2 := HGL2.out
  have hs1 := HB1.out.size
  have hb34 : Below w3.heap.size w3 (w3.alloc (.cells Z29 29)) := (Below.refl _ _).alloc (Nat.le_refl _) _
  have HWS : Hid (Ws x w4 p7 p9 gl Zw) := by
    refine ⟨?_, by rw [hk4, HQC.out], (hbut4.block gl (by have := hb34.size; omega) (by omega)).trans ((hb34.block gl hgll).trans HGL.out), HB1.out.trans (hb14.mono hs1), by omega, by omega, by omega⟩
    exact (hb24.block p7 (by omega)).trans HR2.out
  have HEM : Hid (Em w4 a K) := by
    refine ⟨bm, tb, tm, none, [], HA.out.below hb14, HND.out, fun y hy => ?_⟩
    have h1 := HFP.out y hy
    have h2 := HA.out.lt y hy
    rw [hK]
    rintro (h3 | h3 | h3 | h3) <;> omega
  have HK := hid hK
  clear hk4 hbut4 hp9 hK hb23 hb24 hb14 hs2 hs3 hp7' hgll hgl2 hs1 hb34 HZQ HALQ HSZQ HB3 HGL HGL2 HA HFP HND HB1 HB2 HR2 HP7 HW2 HSZ2 HQC
  go_cut [10, 11] from 39 (fun _ _ wx => ∃ u, u = wx ∧ Hid (Ws x u p7 p9 gl Zw) ∧ Hid (Asm u a K Zw lf 0))
  case first =>
    cases lf with
    | false =>
      go_wp2_with fail
      go_meet
      case rel => exact ⟨_, rfl, HWS, .inl ⟨HEM.out, rfl, rfl, rfl⟩⟩
    | true =>
      have HL9 := hid (pk_load HWS.out.last)
      have HAD := hid (add_last0 HEM.out (by rw [HK.out]; exact HWS.out.lt) HWS.out.body (by rw [HK.out]; exact .inr (.inr (.inr rfl))))
      obtain ⟨qd, hqd⟩ : ∃ qd, qd = pkCells (ph 20 false 9) (.slice none 0 0) (.slice (some ⟨gl, 0, none⟩) 8 8) := ⟨_, rfl⟩
      obtain ⟨zz, hzz⟩ : ∃ zz, zz = Z29 := ⟨_, rfl⟩
      rw [← hqd] at HL9 HAD
      rw [← hzz] at HAD
      have HZZ := hid hzz
      clear hqd hzz
      go_wp2_with (first | (refine wpList_ld 29 ⟨p9, 0, none⟩ (.tmp 9) rfl rfl HL9.out rfl ?_) | fail)
      refine HAD.out.mono ?_
      rintro _ w5 ⟨rfl, hA5, hk5⟩
      have HZ5 : Hid ((w5.alloc (.cells Z29 29)).heap[w5.heap.size]? = some (.cells Z29 29)) := heap_alloc_new w5 _
      have HW5 : Hid (Ws x w5 p7 p9 gl Zw) := HWS.out.kp (by rw [← HK.out]; exact hk5)
      have HA5 := hid hA5
      clear hA5 hk5
      go_wp2_with (first | (refine wpList_st rfl 29 (.tmp 10) (.tmp 44) rfl w5.heap.size zz rfl rfl 29 Z29 HZ5.out (by rw [HZZ.out]; exact sz29) (by rw [HZZ.out]) (by rw [HZZ.out]; simp [Z29, Value.oneCell']) ?_; intro w6 hk6 hbut6; clear hk6) | fail)
      have hb56 : Below w5.heap.size w5 w6 := hbut6.below ((Below.refl _ _).alloc (Nat.le_refl _) _) (by simp) (Nat.le_refl _)
      have H6 : Hid (Ws x w6 p7 p9 gl Zw) := HW5.out.below hb56
      have HA6 : Hid (Asm w6 a K Zw true 0) := HA5.out.below hb56
      clear hbut6 hb56
      go_wp2_with fail
      go_meet
      case rel => exact ⟨_, rfl, H6, HA6⟩
  case rest =>
  obtain ⟨u0, hu0, HW0, HA0⟩ := hcut
  rw [← hu0]
  clear hu0 HWS HEM
  go_wp2_with fail
  go_loopw [8, 12, 13, 14, 15, 16, 17, 18, 19, 20] (fun t8 i _ _ _ _ _ _ _ _ wx => ∃ (k tt : Nat) (W : List Nat), t8 = .int .u8 (tt : Int) ∧ i = .int .i64 (k : Int) ∧ k ≤ np + 1 ∧ tt < 256 ∧ Hid (Ws x wx p7 p9 gl W) ∧ Hid (Asm wx a K W lf tt) ∧ Hid (k = np + 1 → lf = false ∧ allW W = true)) (fun _ i _ _ _ _ _ _ _ _ _ => np + 1 - (intOf i).toNat)
  case atStart => exact ⟨0, 0, Zw, rfl, rfl, Nat.zero_le _, by omega, HW0, HA0, fun h => by omega⟩
  case round =>
    obtain ⟨k, tt, W, rfl, rfl, hk, htt, HW, HAs, HE⟩ := hrel
    clear HW0 HA0
    by_cases hlt : k ≤ np
    · have b0 : (k : Int) ≤ (np : Int) := by omega
      have b00 : k ≤ np := hlt
      go_upto_if 57 with fail
      go_cut [13, 14] from 48 to 143 (fun o m wx => ∃ p q : Nat, o = .int .i64 (p : Int) ∧ m = .int .i64 (q : Int) ∧ p ≤ 18 ∧ 0 < q ∧ q ≤ 20 ∧ Hid (k = np → p = 0 ∧ q = 20) ∧ wx = wr)
      case first =>
        by_cases hk2 : k < np
        · obtain ⟨g, off, rfl, hg, hc⟩ := (HS.out.below HW.out.be).atB k hk2
          obtain ⟨xx, hxx⟩ : ∃ xx, xx = byt O k := ⟨_, rfl⟩
          have hx256 : xx < 256 := by rw [hxx]; exact byt_lt HS.out.bytes k
          rw [← hxx] at hc
          obtain ⟨P, hP⟩ : ∃ P, P = xx % 19 := ⟨_, rfl⟩
          obtain ⟨Dq, hDq⟩ : ∃ Dq, Dq = xx / 19 := ⟨_, rfl⟩
          obtain ⟨Eq', hEq⟩ : ∃ E, E = Dq % 4 := ⟨_, rfl⟩
          obtain ⟨Q, hQ⟩ : ∃ Q, Q = 1 + Eq' := ⟨_, rfl⟩
          have e1 : Int.tmod (xx : Int) 19 = (P : Int) := by rw [hP]; rfl
          have e2 : Int.tdiv (xx : Int) 19 = (Dq : Int) := by rw [hDq]; rfl
          have e3 : Int.tmod (Dq : Int) 4 = (Eq' : Int) := by rw [hEq]; rfl
          have e4 : (1 : Int) + (Eq' : Int) = (Q : Int) := by omega
          have d0 : (k : Int) < (np : Int) := by omega
          have d1 : (0 : Int) ≤ (k : Int) := by omega
          have HR : Hid (P ≤ 18 ∧ 0 < Q ∧ Q ≤ 20) := by unfold Hid; omega
          have HNE : Hid (k ≠ np) := by unfold Hid; omega
          have hPb : P < 256 := by omega
          have hDb : Dq < 256 := by omega
          have hEb : Eq' < 256 := by omega
          have hQb : Q < 256 := by omega
          have g0 := wrap_nat' hx256
          have g1 := wrap_nat' hDb
          have g2 := wrap_nat' hQb
          have g3 := wrap_nat' hPb
          have g4 := wrap_nat' hEb
          have G2 := hid g2
          have G3 := hid g3
          clear hxx hP hDq hEq hQ hx256 hPb hDb hEb hQb
          go_wp2_with fail
          go_meet
          case rel => exact ⟨P, Q, by first | rfl | rw [G3.out], by first | rfl | rw [G2.out], HR.out.1, HR.out.2.1, HR.out.2.2, fun h => absurd h HNE.out, rfl⟩
        · have d0 : ¬ (k : Int) < (np : Int) := by omega
          go_wp2_with fail
          go_meet
          case rel => exact ⟨0, 20, rfl, rfl, by omega, by omega, by omega, fun _ => ⟨rfl, rfl⟩, rfl⟩
      case rest =>
      obtain ⟨p, q, rfl, rfl, hp18, hq0, hq20, HKN, hwx⟩ := hcut
      rw [hwx]
      clear hwx
      go_upto_if 75 with fail
      go_cut [14] from 48 to 143 (fun m wx => ∃ n : Nat, m = .int .i64 (n : Int) ∧ p + n ≤ 20 ∧ 0 < n ∧ Hid (k = np → n = 20) ∧ wx = wr)
      case first =>
        obtain ⟨s, hs⟩ : ∃ s, s = p + q := ⟨_, rfl⟩
        have e1 : (p : Int) + (q : Int) = (s : Int) := by omega
        by_cases h20 : 20 < s
        · obtain ⟨r, hr⟩ : ∃ r, r = 20 - p := ⟨_, rfl⟩
          have e2 : (20 : Int) - (p : Int) = (r : Int) := by omega
          have d0 : (20 : Int) < (s : Int) := by omega
          have HR : Hid (p + r ≤ 20 ∧ 0 < r ∧ (k = np → r = 20)) := ⟨by omega, by omega, fun h => by have := HKN.out h; omega⟩
          clear hs hr
          go_wp2_with fail
          go_meet
          case rel => exact ⟨r, rfl, HR.out.1, HR.out.2.1, HR.out.2.2, rfl⟩
        · have d0 : ¬ (20 : Int) < (s : Int) := by omega
          have HR : Hid (p + q ≤ 20) := by unfold Hid; omega
          clear hs
          go_wp2_with fail
          go_meet
          case rel => exact ⟨q, rfl, HR.out, hq0, fun h => (HKN.out h).2, rfl⟩
      case rest =>
      obtain ⟨n, rfl, hpn, hn0, HKN2, hwx⟩ := hcut
      rw [hwx]
      clear hwx hq0 hq20 hp18
      obtain ⟨c, hc⟩ : ∃ c, c = 1 + k := ⟨_, rfl⟩
      obtain ⟨tn, htn⟩ : ∃ tn, tn = 100 + k := ⟨_, rfl⟩
      obtain ⟨N, hN⟩ : ∃ N, N = 8 * n := ⟨_, rfl⟩
      have HPC := hid (piece_any p n c tn true wr (by omega) (by omega) (by omega) (by omega))
      rw [← hN] at HPC
      have e1 : (1 : Int) + (k : Int) = (c : Int) := by omega
      have e2 : (100 : Int) + (k : Int) = (tn : Int) := by omega
      have g1 : (c : Int) % 256 = (c : Int) := by omega
      have g2 : (tn : Int) % 256 = (tn : Int) := by omega
      have HC : Hid (c < 256 ∧ c ≠ 0 ∧ tn < 256 ∧ tn ≠ 0) := ⟨by omega, by omega, by omega, by omega⟩
      have HCE := hid hc
      have HTE := hid htn
      have HNE := hid hN
      clear hc htn hN
      go_wp2_with fail
      refine HPC.out.mono ?_
      rintro _ w7 ⟨g, rfl, hg7, hg72, hb7⟩
      obtain ⟨qc, hqc⟩ : ∃ qc, qc = pkCells (ph p true tn) (.slice none 0 0) (.slice (some ⟨g, 0, none⟩) N N) := ⟨_, rfl⟩
      have HQC := hid hqc
      have HALQ : Hid (qc.all (·.oneCell') = true) := by unfold Hid; rw [hqc]; exact all_pk _ _ _ _ _ _ _
      have HSZQ : Hid (qc.size = 11) := by unfold Hid; rw [hqc]; rfl
      have HZQ : Hid ((w7.alloc (.cells Z29 29)).heap[w7.heap.size]? = some (.cells Z29 29)) := heap_alloc_new w7 _
      have HG7 := hid hg7
      have HG72 := hid hg72
      have HB7 := hid hb7
      rw [← hqc]
      clear hqc hg7 hg72 hb7 HPC e1 e2 g1 g2
      go_upto_region 23 with (first | (refine wpList_st rfl 29 (.tmp 15) (.tmp 86) rfl w7.heap.size qc rfl rfl 29 Z29 HZQ.out (by rw [HSZQ.out]; exact sz29) (by rw [HSZQ.out]; rfl) HALQ.out ?_; intro w8 hk8 hbut8) | fail)
      obtain ⟨pq, hpq⟩ : ∃ pq, pq = w7.heap.size := ⟨_, rfl⟩
      have hbut8 : But w7.heap.size (w7.alloc (.cells Z29 29)) w8 := hbut8
      rw [← hpq] at hk8 hbut8 ⊢
      have hb78 : Below w7.heap.size w7 (w7.alloc (.cells Z29 29)) := (Below.refl _ _).alloc (Nat.le_refl _) _
      have hb7r : Below wr.heap.size wr (w7.alloc (.cells Z29 29)) := HB7.out.trans (hb78.mono HB7.out.size)
      have hb8 : Below wr.heap.size wr w8 := hbut8.below hb7r hb7r.size (by rw [hpq]; exact HB7.out.size)
      obtain ⟨K', hK'⟩ : ∃ K' : Nat → Prop, K' = fun y => K y ∨ y = g := ⟨_, rfl⟩
      have hgl7 := HG7.out.lt
      have h78 := hb78.size
      have hws := HW.out.lt
      have hp7l := hws p7 (.inr (.inl rfl))
      have hgr := HG72.out
      have h7r := HB7.out.size
      have HA8 : Hid (Asm w8 a K' W lf tt) := by rw [hK']; exact HAs.out.more hb8 HG72.out
      have HW8 : Hid (Ws x w8 p7 p9 gl W) := HW.out.below hb8
      have HG8 : Hid (Blk w8 g (rp n c)) := (hbut8.block g (by omega) (by omega)).trans ((hb78.block g hgl7).trans HG7.out)
      have HQ8 : Hid (w8.heap[pq]? = some (.cells qc 29 (0, 0))) := hk8
      have HN7 : Hid (p7 ≠ pq ∧ p7 ≠ g) := ⟨by omega, by omega⟩
      have HKK := hid hK'
      clear hk8 hbut8 hpq hb78 hb7r hb8 hK' hgl7 h78 hws hp7l hgr h7r HZQ HALQ HSZQ HB7 HG7 HG72
      obtain ⟨A, hA⟩ : ∃ A, A = 8 * p := ⟨_, rfl⟩
      obtain ⟨pn, hpn'⟩ : ∃ pn, pn = p + n := ⟨_, rfl⟩
      obtain ⟨E, hE⟩ : ∃ E, E = 8 * pn := ⟨_, rfl⟩
      have HAE : Hid (A = 8 * p ∧ E = 8 * (p + n) ∧ A ≤ E ∧ E ≤ 160) := ⟨hA, by rw [hE, hpn'], by omega, by omega⟩
      have f1 : (8 : Int) * (p : Int) = (A : Int) := by omega
      have f2 : (p : Int) + (n : Int) = (pn : Int) := by omega
      have f3 : (8 : Int) * (pn : Int) = (E : Int) := by omega
      have hE160 : E ≤ 160 := by omega
      have hAE : A ≤ E := by omega
      have f4 : (1 : Int) + (k : Int) = (c : Int) := by have := HCE.out; omega
      have f5 : (c : Int) % 256 = (c : Int) := by have := HC.out; omega
      clear hA hpn' hE
      go_wp2_with fail
      go_loopw [16] (fun i wx => ∃ j : Nat, i = .int .i64 (j : Int) ∧ A ≤ j ∧ j ≤ E ∧ Hid (Ws x wx p7 p9 gl (updT W A j c)) ∧ Hid (Asm wx a K' W lf tt) ∧ Hid (Blk wx g (rp n c)) ∧ Hid (wx.heap[pq]? = some (.cells qc 29 (0, 0)))) (fun i _ => E - (intOf i).toNat)
      case atStart => exact ⟨A, rfl, Nat.le_refl _, hAE, by rw [updT_start HAs.out.wl]; exact HW8, HA8, HG8, HQ8⟩
      case round =>
        obtain ⟨j, rfl, hj1, hj2, HWj, HAj, HGj, HQj⟩ := hrel
        clear HW8 HA8 HG8 HQ8
        by_cases hj : j < E
        · have d0 : (j : Int) < (E : Int) := by omega
          have d1 : (0 : Int) ≤ (j : Int) := by omega
          have d2 : (j : Int) < 168 := by omega
          obtain ⟨c7, z7, m7⟩ := HWj.out.cell (updT_len ..) (show j < 168 by omega)
          have hwj : (updT W A j c).getD j 0 = W.getD j 0 := by rw [updT_at (by omega), if_neg (by omega)]
          rw [hwj] at c7
          clear hwj
          by_cases hz : W.getD j 0 = 0
          · rw [hz] at c7
            have HUP : Hid ((updT W A j c).set j c = updT W A (j + 1) c) := updT_zero hj1 hz
            clear hz
            go_upto_region 25 with fail
            obtain ⟨h1, h2⟩ := HWj.out.set j c
            rw [HUP.out] at h1
            generalize wr.setCell ⟨p7, j, none⟩ (.int .u8 (c : Int)) = wz at h1 h2 ⊢
            have H1 := hid h1
            have H2 : Hid (Asm wz a K' W lf tt) := HAj.out.but h2 (by rw [HKK.out, HK.out]; exact .inl (.inr (.inl rfl)))
            have H3 : Hid (Blk wz g (rp n c)) := (h2.block g HGj.out.lt HN7.out.2.symm).trans HGj.out
            have H4 : Hid (wz.heap[pq]? = some (.cells qc 29 (0, 0))) := (h2.block pq (Array.getElem?_eq_some_iff.1 HQj.out).1 HN7.out.1.symm).trans HQj.out
            clear h1 h2 c7 z7 m7 f1 f2 f3 f4 f5 d0 d1 d2
            go_wp2_with fail
            go_roundw
            case rel => exact ⟨j + 1, by go_num, by omega, by omega, H1, H2, H3, H4⟩
            case measure => simp [intOf]; omega
          · obtain ⟨bb, hbb⟩ : ∃ bb, bb = W.getD j 0 := ⟨_, rfl⟩
            rw [← hbb] at c7 hz
            have q0 : ((bb : Int) == 0) = false := by simp; omega
            have H1 : Hid (Ws x wr p7 p9 gl (updT W A (j + 1) c)) := by
              unfold Hid
              rw [← updT_skip (by rw [← hbb]; exact hz)]
              exact HWj.out
            clear hbb hz
            go_upto_region 25 with fail
            clear f1 f2 f3 f4 f5 d0 d1 d2 q0 c7 z7 m7
            go_wp2_with fail
            go_roundw
            case rel => exact ⟨j + 1, by go_num, by omega, by omega, H1, HAj, HGj, HQj⟩
            case measure => simp [intOf]; omega
        · obtain rfl : j = E := by omega
          have d0 : ¬ (j : Int) < (j : Int) := by omega
          obtain ⟨W', hW'⟩ : ∃ W', W' = updT W A j c := ⟨_, rfl⟩
          rw [← hW'] at HWj
          have HWU : Hid (W' = updT W (8 * p) (8 * (p + n)) c) := by unfold Hid; rw [hW', HAE.out.1, HAE.out.2.1]
          have HWL : Hid (W'.length = 168) := by unfold Hid; rw [hW']; exact updT_len ..
          clear hW' hj hj1 hj2
          go_upto_region 28 with fail
          clear f1 f2 f3 f4 f5 d0
          go_cut [111] from 48 to 143 (fun cn wx => cn = .bool (decide (p = 0 ∧ tt = 0)) ∧ Hid (Ws x wx p7 p9 gl W') ∧ Hid (Asm wx a K' W lf tt) ∧ Hid (Blk wx g (rp n c)) ∧ Hid (wx.heap[pq]? = some (.cells qc 29 (0, 0))))
          case first =>
            by_cases h0 : p = 0
            · have q1 : ((p : Int) == 0) = true := by simp [h0]
              by_cases h1 : tt = 0
              · have q2 : ((tt : Int) == 0) = true := by simp [h1]
                have HR : Hid (decide (p = 0 ∧ tt = 0) = true) := decide_eq_true ⟨h0, h1⟩
                clear h0 h1
                go_wp2_with fail
                go_meet
                case rel => exact ⟨by rw [HR.out], HWj, HAj, HGj, HQj⟩
              · have q2 : ((tt : Int) == 0) = false := by simp; omega
                have HR : Hid (decide (p = 0 ∧ tt = 0) = false) := decide_eq_false (fun h => h1 h.2)
                clear h0 h1
                go_wp2_with fail
                go_meet
                case rel => exact ⟨by rw [HR.out], HWj, HAj, HGj, HQj⟩
            · have q1 : ((p : Int) == 0) = false := by simp; omega
              have HR : Hid (decide (p = 0 ∧ tt = 0) = false) := decide_eq_false (fun h => h0 h.1)
              clear h0
              go_wp2_with fail
              go_meet
              case rel => exact ⟨by rw [HR.out], HWj, HAj, HGj, HQj⟩
          case rest =>
          clear HWj HAj HGj HQj
          obtain ⟨hcn, HWj, HAj, HGj, HQj⟩ := hcut
          rw [hcn]
          clear hcn
          go_upto_if 111 with fail
          go_cut [8] from 48 to 143 (fun t8 wx => t8 = .int .u8 ((ttlN p tt tn : Nat) : Int) ∧ Hid (Ws x wx p7 p9 gl W') ∧ Hid (Asm wx a K' W lf tt) ∧ Hid (Blk wx g (rp n c)) ∧ Hid (wx.heap[pq]? = some (.cells qc 29 (0, 0))))
          case first =>
            have f6 : (100 : Int) + (k : Int) = (tn : Int) := by have := HTE.out; omega
            have f7 : (tn : Int) % 256 = (tn : Int) := by have := HC.out; omega
            by_cases h0 : p = 0 ∧ tt = 0
            · have HR : Hid (ttlN p tt tn = tn) := by unfold Hid ttlN; rw [if_pos h0]
              rw [decide_eq_true h0]
              clear h0
              go_wp2_with fail
              go_meet
              case rel => exact ⟨by rw [HR.out], HWj, HAj, HGj, HQj⟩
            · have HR : Hid (ttlN p tt tn = tt) := by unfold Hid ttlN; rw [if_neg h0]
              rw [decide_eq_false h0]
              clear h0
              go_wp2_with fail
              go_meet
              case rel => exact ⟨by rw [HR.out], HWj, HAj, HGj, HQj⟩
          case rest =>
          clear HWj HAj HGj HQj
          obtain ⟨ht8, HWj, HAj, HGj, HQj⟩ := hcut
          rw [ht8]
          clear ht8
          obtain ⟨t', ht'⟩ : ∃ t', t' = ttlN p tt tn := ⟨_, rfl⟩
          have HT' : Hid (t' = ttlN p tt tn ∧ t' < 256) := ⟨ht', by rw [ht']; unfold ttlN; have := HC.out; split <;> omega⟩
          rw [← ht']
          clear ht'
          go_wp2_with fail
          go_loopw [17, 18] (fun f i wx => ∃ m : Nat, i = .int .i64 (m : Int) ∧ m ≤ 160 ∧ f = .bool (lf && upW W' m) ∧ Hid (Ws x wx p7 p9 gl W') ∧ Hid (Asm wx a K' W lf tt) ∧ Hid (Blk wx g (rp n c)) ∧ Hid (wx.heap[pq]? = some (.cells qc 29 (0, 0)))) (fun _ i _ => 160 - (intOf i).toNat)
          case atStart => exact ⟨0, rfl, Nat.zero_le _, by simp [upW], HWj, HAj, HGj, HQj⟩
          case round =>
            obtain ⟨m, rfl, hm, rfl, HW3, HA3, HG3, HQ3⟩ := hrel
            clear HWj HAj HGj HQj
            by_cases hml : m < 160
            · have d0 : (m : Int) < 160 := by omega
              have d1 : (0 : Int) ≤ (m : Int) := by omega
              have d2 : (m : Int) < 168 := by omega
              obtain ⟨c7, z7, m7⟩ := HW3.out.cell HWL.out (show m < 168 by omega)
              have hsu := upW_succ W' m
              cases hf : (lf && upW W' m) with
              | false =>
                have HNX : Hid (false = (lf && upW W' (m + 1))) := by unfold Hid; rw [hsu, ← Bool.and_assoc, hf]; rfl
                clear hsu hf
                go_wp2_with fail
                go_roundw
                case rel => exact ⟨m + 1, by go_num, by omega, by rw [← HNX.out], HW3, HA3, HG3, HQ3⟩
                case measure => simp [intOf]; omega
              | true =>
                by_cases hz : W'.getD m 0 = 0
                · have HNX : Hid (false = (lf && upW W' (m + 1))) := by unfold Hid; rw [hsu, ← Bool.and_assoc, hf, decide_eq_false (fun h => h hz)]; rfl
                  rw [hz] at c7
                  clear hsu hf hz
                  go_wp2_with fail
                  go_roundw
                  case rel => exact ⟨m + 1, by go_num, by omega, by rw [← HNX.out], HW3, HA3, HG3, HQ3⟩
                  case measure => simp [intOf]; omega
                · have HNX : Hid (true = (lf && upW W' (m + 1))) := by unfold Hid; rw [hsu, ← Bool.and_assoc, hf, decide_eq_true hz]; rfl
                  obtain ⟨bb, hbb⟩ : ∃ bb, bb = W'.getD m 0 := ⟨_, rfl⟩
                  rw [← hbb] at c7 hz
                  have q0 : decide ((0 : Int) < (bb : Int)) = true := by simp; omega
                  have q1 : (0 : Int) < (bb : Int) := by omega
                  have Q2 : Hid (decide (0 < bb) = true) := decide_eq_true (by omega)
                  clear hsu hf hbb hz
                  go_wp2_with fail
                  go_roundw
                  case rel => exact ⟨m + 1, by go_num, by omega, by rw [← HNX.out, Q2.out], HW3, HA3, HG3, HQ3⟩
                  case measure => simp [intOf]; omega
            · obtain rfl : m = 160 := by omega
              rw [upW_all]
              clear hml hm
              have d0 : ¬ ((160 : Nat) : Int) < 160 := by omega
              have HLQ : Hid ((Instr.loadAt 29 (.pointer (some ⟨pq, 0, none⟩))).run Try.prog wr = .ok (.agg qc) wr) := by
                have h := HQ3.out
                unfold Hid
                rw [HQC.out] at h ⊢
                exact pk_load h
              have HKG : Hid (K' g) := by unfold Hid; rw [HKK.out]; exact .inr rfl
              have HKS : Hid (∀ y, KK x p7 p9 gl y → K' y) := fun y hy => by rw [HKK.out]; exact .inl (by rw [HK.out]; exact hy)
              cases hf : (lf && allW W') with
              | true =>
                have HAD : Hid (Calls Try.prog 16 #[.pointer (some ⟨a, 0, none⟩), .agg qc] wr fun e u' => ∃ V g' c' X, e = .returned (.tuple #[.agg (pkCells (ph 0 false t') V (.slice (some ⟨g', 0, none⟩) 168 c')), .int .i64 0]) ∧ (∃ x y z, V = .slice x y z) ∧ OwnB u' wr.heap.size (.slice (some ⟨g', 0, none⟩) 168 c') X ∧ Good X W' ∧ Kp K' wr u') := by
                  rw [HWU.out] at hf
                  unfold Hid
                  rw [HQC.out, HNE.out, HWU.out, HT'.out.1]
                  exact add_all HA3.out hpn hn0 HC.out.1 HC.out.2.1 HC.out.2.2.1 HC.out.2.2.2 HG3.out HKG.out hf
                clear hf
                go_wp2_with (first | (refine wpList_ld 29 ⟨pq, 0, none⟩ (.tmp 15) rfl rfl HLQ.out rfl ?_) | fail)
                refine HAD.out.mono ?_
                rintro _ w9 ⟨V, g', c', X, rfl, hV, hO, hG, hkp⟩
                obtain ⟨rc, hrc⟩ : ∃ rc, rc = pkCells (ph 0 false t') V (.slice (some ⟨g', 0, none⟩) 168 c') := ⟨_, rfl⟩
                have HRC := hid hrc
                have HALR : Hid (rc.all (·.oneCell') = true) := by unfold Hid; obtain ⟨v1, v2, v3, rfl⟩ := hV; rw [hrc]; exact all_pk _ _ _ _ _ _ _
                have HSZR : Hid (rc.size = 11) := by unfold Hid; rw [hrc]; rfl
                have HZR : Hid ((w9.alloc (.cells Z29 29)).heap[w9.heap.size]? = some (.cells Z29 29)) := heap_alloc_new w9 _
                have HVV := hid hV
                have HO := hid hO
                have HG := hid hG
                have HW9 : Hid (Ws x w9 p7 p9 gl W') := HW3.out.kp (hkp.less HKS.out)
                rw [← hrc]
                clear hrc hV hO hG hkp HA3 HG3 HQ3 HLQ HAD d0
                go_upto_region 37 with (first | (refine wpList_st rfl 29 (.tmp 19) (.tmp 131) rfl w9.heap.size rc rfl rfl 29 Z29 HZR.out (by rw [HSZR.out]; exact sz29) (by rw [HSZR.out]; rfl) HALR.out ?_; intro w10 hk10 hbut10) | fail)
                have hbut10 : But w9.heap.size (w9.alloc (.cells Z29 29)) w10 := hbut10
                have hb910 : Below w9.heap.size w9 w10 := hbut10.below ((Below.refl _ _).alloc (Nat.le_refl _) _) (by simp) (Nat.le_refl _)
                have H10 : Hid (Ws x w10 p7 p9 gl W') := HW9.out.below hb910
                have HO10 := HO.out.below hb910
                have HM := hid (matches_any t' X W' g' 168 c' V w10 HG.out.1 HWL.out _ HO10 HG.out.2.1 HG.out.2.2 rfl HVV.out)
                rw [← HRC.out] at HM
                have HLR : Hid ((Instr.loadAt 29 (.pointer (some ⟨w9.heap.size, 0, none⟩))).run Try.prog w10 = .ok (.agg rc) w10) := by
                  unfold Hid
                  rw [HRC.out] at hk10 ⊢
                  exact pk_load hk10
                have HLW := hid (want_load HWL.out H10.out.want)
                obtain ⟨wv, hwv⟩ : ∃ wv, wv = (bs W').toArray := ⟨_, rfl⟩
                rw [← hwv] at HM HLW
                clear hk10 hbut10 hb910 HO10 hwv
                go_wp2_with (first | (refine wpList_ld 29 ⟨w9.heap.size, 0, none⟩ (.tmp 19) rfl rfl HLR.out rfl ?_) | (refine wpList_ld 43 ⟨p7, 0, none⟩ (.tmp 7) rfl rfl HLW.out rfl ?_) | fail)
                refine HM.out.mono ?_
                rintro _ w11 ⟨rfl, hb11⟩
                have HF : Hid (Below x.heap.size x w11) := (H10.out.below hb11).be
                clear hb11
                go_wp2_with fail
                go_ret
                exact ⟨rfl, HF.out⟩
              | false =>
                have HLT : Hid (∀ y, K' y → y < wr.heap.size) := fun y hy => by
                  rw [HKK.out] at hy
                  rcases hy with hy | rfl
                  · rw [HK.out] at hy; exact HW3.out.lt y hy
                  · exact HG3.out.lt
                have HNX : Hid (k = np → lf = false ∧ allW W' = true) := fun h => by
                  have h3 : allW W' = true := by rw [HWU.out, (HKN.out h).1, HKN2.out h]; exact allW_full HC.out.2.1
                  rw [h3, Bool.and_true] at hf
                  exact ⟨hf, h3⟩
                have HAD : Hid (Calls Try.prog 16 #[.pointer (some ⟨a, 0, none⟩), .agg qc] wr fun e u' => e = .returned (.tuple #[.agg Z29, .int .i64 52]) ∧ Asm u' a K' W' lf t' ∧ Kp K' wr u') := by
                  rw [HWU.out] at hf
                  unfold Hid
                  rw [HQC.out, HNE.out, HWU.out, HT'.out.1]
                  exact add_some HA3.out HLT.out hpn hn0 HC.out.1 HC.out.2.1 HC.out.2.2.1 HC.out.2.2.2 HG3.out HKG.out hf
                clear hf
                obtain ⟨zz, hzz⟩ : ∃ zz, zz = Z29 := ⟨_, rfl⟩
                rw [← hzz] at HAD
                have HZZ := hid hzz
                clear hzz
                go_wp2_with (first | (refine wpList_ld 29 ⟨pq, 0, none⟩ (.tmp 15) rfl rfl HLQ.out rfl ?_) | fail)
                refine HAD.out.mono ?_
                rintro _ w9 ⟨rfl, hA9, hk9⟩
                have HZ9 : Hid ((w9.alloc (.cells Z29 29)).heap[w9.heap.size]? = some (.cells Z29 29)) := heap_alloc_new w9 _
                have HW9 : Hid (Ws x w9 p7 p9 gl W') := HW3.out.kp (hk9.less HKS.out)
                have HA9 : Hid (Asm w9 a K W' lf t') := hA9.less (fun y hy => by rw [HKK.out]; exact .inl hy)
                clear hA9 hk9 HA3 HG3 HQ3 HLQ HAD d0
                go_wp2_with (first | (refine wpList_st rfl 29 (.tmp 19) (.tmp 131) rfl w9.heap.size zz rfl rfl 29 Z29 HZ9.out (by rw [HZZ.out]; exact sz29) (by rw [HZZ.out]) (by rw [HZZ.out]; simp [Z29, Value.oneCell']) ?_; intro w10 hk10 hbut10; clear hk10) | fail)
                have hb910 : Below w9.heap.size w9 w10 := hbut10.below ((Below.refl _ _).alloc (Nat.le_refl _) _) (by simp) (Nat.le_refl _)
                have H10 : Hid (Ws x w10 p7 p9 gl W') := HW9.out.below hb910
                have HA10 : Hid (Asm w10 a K W' lf t') := HA9.out.below hb910
                clear hbut10 hb910
                go_wp2_with fail
                go_roundw
                case rel => exact ⟨k + 1, t', W', rfl, by go_num, by omega, HT'.out.2, H10, HA10, fun h => HNX.out (by omega)⟩
                case measure => simp [intOf]; omega
    · have b0 : ¬ (k : Int) ≤ (np : Int) := by omega
      obtain ⟨hlf, hall⟩ := HE.out (by omega)
      have hA0 : Asm wr a K W false tt := by rw [← hlf]; exact HAs.out
      have HWL : Hid (W.length = 168) := HAs.out.wl
      have HAD := hid (add_last1 hA0 HW.out.body (by rw [HK.out]; exact .inr (.inr (.inr rfl))) hall)
      have HL9 := hid (pk_load HW.out.last)
      obtain ⟨qd, hqd⟩ : ∃ qd, qd = pkCells (ph 20 false 9) (.slice none 0 0) (.slice (some ⟨gl, 0, none⟩) 8 8) := ⟨_, rfl⟩
      rw [← hqd] at HL9 HAD
      clear hqd hlf hall hA0
      go_wp2_with (first | (refine wpList_ld 29 ⟨p9, 0, none⟩ (.tmp 9) rfl rfl HL9.out rfl ?_) | fail)
      refine HAD.out.mono ?_
      rintro _ w9 ⟨V, g', c', X, rfl, hV, hO, hG, hkp⟩
      obtain ⟨rc, hrc⟩ : ∃ rc, rc = pkCells (ph 0 false tt) V (.slice (some ⟨g', 0, none⟩) 168 c') := ⟨_, rfl⟩
      have HRC := hid hrc
      have HALR : Hid (rc.all (·.oneCell') = true) := by unfold Hid; obtain ⟨v1, v2, v3, rfl⟩ := hV; rw [hrc]; exact all_pk _ _ _ _ _ _ _
      have HSZR : Hid (rc.size = 11) := by unfold Hid; rw [hrc]; rfl
      have HZR : Hid ((w9.alloc (.cells Z29 29)).heap[w9.heap.size]? = some (.cells Z29 29)) := heap_alloc_new w9 _
      have HVV := hid hV
      have HO := hid hO
      have HG := hid hG
      have HW9 : Hid (Ws x w9 p7 p9 gl W) := HW.out.kp (by rw [← HK.out]; exact hkp)
      rw [← hrc]
      clear hrc hV hO hG hkp HL9 HAD b0
      go_upto_region 41 with (first | (refine wpList_st rfl 29 (.tmp 21) (.tmp 148) rfl w9.heap.size rc rfl rfl 29 Z29 HZR.out (by rw [HSZR.out]; exact sz29) (by rw [HSZR.out]; rfl) HALR.out ?_; intro w10 hk10 hbut10) | fail)
      have hbut10 : But w9.heap.size (w9.alloc (.cells Z29 29)) w10 := hbut10
      have hb910 : Below w9.heap.size w9 w10 := hbut10.below ((Below.refl _ _).alloc (Nat.le_refl _) _) (by simp) (Nat.le_refl _)
      have H10 : Hid (Ws x w10 p7 p9 gl W) := HW9.out.below hb910
      have HO10 := HO.out.below hb910
      have HM := hid (matches_any tt X W g' 168 c' V w10 HG.out.1 HWL.out _ HO10 HG.out.2.1 HG.out.2.2 rfl HVV.out)
      rw [← HRC.out] at HM
      have HLR : Hid ((Instr.loadAt 29 (.pointer (some ⟨w9.heap.size, 0, none⟩))).run Try.prog w10 = .ok (.agg rc) w10) := by
        unfold Hid
        rw [HRC.out] at hk10 ⊢
        exact pk_load hk10
      have HLW := hid (want_load HWL.out H10.out.want)
      obtain ⟨wv, hwv⟩ : ∃ wv, wv = (bs W).toArray := ⟨_, rfl⟩
      rw [← hwv] at HM HLW
      clear hk10 hbut10 hb910 HO10 hwv
      go_wp2_with (first | (refine wpList_ld 29 ⟨w9.heap.size, 0, none⟩ (.tmp 21) rfl rfl HLR.out rfl ?_) | (refine wpList_ld 43 ⟨p7, 0, none⟩ (.tmp 7) rfl rfl HLW.out rfl ?_) | fail)
      refine HM.out.mono ?_
      rintro _ w11 ⟨rfl, hb11⟩
      have HF : Hid (Below x.heap.size x w11) := (H10.out.below hb11).be
      clear hb11
      go_wp2_with fail
      go_ret
      exact ⟨rfl, HF.out⟩
end Go.Proofs.Ytdoeebbcieiimaa
