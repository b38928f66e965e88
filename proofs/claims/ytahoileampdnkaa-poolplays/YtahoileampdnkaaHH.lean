/-
  The law's plays: one step on a pool and on the reference's.
-/
import Derived.Test.YtahoileampdnkaaHG
import Derived.Test.YtahoileampdnkaaMEO
namespace Go.Proofs.Ytahoileampdnkaa
open Go.ChangeShapes Go.WideShapes Go.ChangeAt Go.RowKit Ru N Tri
set_option maxHeartbeats 4000000
set_option maxRecDepth 100000

/-- What a step changes. -/
def Fpt (pb rb : Nat) (vt vt' : Value) (k : Nat) : Prop := k = pb ∨ vt.ownBlock = some k ∨ k = rb ∨ vt'.ownBlock = some k

/-- What a step leaves. -/
structure Pd (w : World) (pb rb x : Nat) (y : Int) (sub plo phi lo0 hi0 : Nat) (L : List (Nat × Int)) (ks : List R) (vk vt vk' vt' : Value) (W : World) (v2 v2' : Value) (ts2 : List R) (T2 : List Nat) : Prop where
  pool : PoolAt W pb vk v2 sub plo phi ks ts2
  ref : RAt W rb x y sub lo0 hi0 vk' v2' (L.map (·.1)) T2
  pr : PR x y sub plo phi lo0 hi0 L ks ts2 T2
  n1 : NwB vt v2 w.heap.size
  n2 : NwB vt' v2' w.heap.size
  ke : Keeps (Fpt pb rb vt vt') w W

section
variable {w : World} {pb rb x : Nat} {y : Int} {sub plo phi lo0 hi0 : Nat} {L : List (Nat × Int)} {ks ts : List R} {vk vt vk' vt' : Value} {T : List Nat}

theorem Pd.more {W W' : World} {v2 v2' : Value} {ts2 : List R} {T2 : List Nat} (h : Pd w pb rb x y sub plo phi lo0 hi0 L ks vk vt vk' vt' W v2 v2' ts2 T2) (hb : Below W.heap.size W W') : Pd w pb rb x y sub plo phi lo0 hi0 L ks vk vt vk' vt' W' v2 v2' ts2 T2 :=
  ⟨h.pool.below hb, h.ref.below hb, h.pr, h.n1, h.n2, h.ke.trans (Keeps.of hb)⟩

theorem own_ne_r {B b : Nat} {v : Value} {rs : List R} {cs : Array Value} (h : OwnR w B v rs) (hp : w.heap[b]? = some (.cells cs 77 (0, 0))) : v.ownBlock ≠ some b := by
  intro e
  rcases h.2 with ⟨rfl, _⟩ | ⟨g', cap', cur', rfl, _, hgg, _⟩
  · cases e
  · simp [Value.ownBlock] at e
    rw [e, hp] at hgg
    simp at hgg

theorem ownN_ne_q {B b : Nat} {v : Value} {A : List Nat} {cs : Array Value} (h : OwnN w B v A) (hp : w.heap[b]? = some (.cells cs 68 (0, 0))) : v.ownBlock ≠ some b := by
  intro e
  rcases h.2 with ⟨rfl, _⟩ | ⟨g', cap', cur', rfl, _, hgg, _⟩
  · cases e
  · simp [Value.ownBlock] at e
    rw [e, hp] at hgg
    simp at hgg

theorem ownN_ne_run {B B' k : Nat} {v v' : Value} {A : List Nat} {rs : List R} (h : OwnN w B v A) (h' : OwnR w B' v' rs) (hk : v.ownBlock = some k) : v'.ownBlock ≠ some k := by
  intro e
  rcases h.2 with ⟨rfl, _⟩ | ⟨g', cap', cur', rfl, _, hgg, _⟩
  · cases hk
  · rcases h'.2 with ⟨rfl, _⟩ | ⟨g2, cap2, cur2, rfl, _, hg2, _⟩
    · cases e
    · simp [Value.ownBlock] at hk e
      rw [hk] at hgg
      rw [e, hgg] at hg2
      simp at hg2

/-- The reference stays while the pool is turned. -/
theorem RAt.turned {u : World} {A : List Nat} {ts' : List R} {v2 : Value} (hr : RAt w rb x y sub lo0 hi0 vk' vt' A T) (hp : PoolAt w pb vk vt sub plo phi ks ts) (ht : Turned pb vk vt sub plo phi ks w u v2 ts') : RAt u rb x y sub lo0 hi0 vk' vt' A T := by
  refine hr.keeps ht.keeps ?_ ?_ ?_
  · rintro (e | e)
    · have := hp.row
      rw [← e, hr.row] at this
      simp at this
    · exact own_ne_r hp.ot hr.row e
  · rintro k hk (e | e)
    · exact ownN_ne_q hr.ok hp.row (by rw [hk, e])
    · exact ownN_ne_run hr.ok hp.ot hk e
  · rintro k hk (e | e)
    · exact ownN_ne_q hr.ot hp.row (by rw [hk, e])
    · exact ownN_ne_run hr.ot hp.ot hk e

theorem PoolAt.rturn {u : World} {A T' : List Nat} {v2' : Value} (hp : PoolAt w pb vk vt sub plo phi ks ts) (hr : RAt w rb x y sub lo0 hi0 vk' vt' A T) (ht : RTurn rb x y sub lo0 hi0 vk' vt' A w u v2' T') : PoolAt u pb vk vt sub plo phi ks ts := by
  refine hp.keeps ht.keeps ?_ ?_ ?_
  · rintro (e | e)
    · have := hp.row
      rw [e, hr.row] at this
      simp at this
    · exact ownN_ne_q hr.ot hp.row e
  · rintro k hk (e | e)
    · exact own_ne_r hp.ok hr.row (by rw [hk, e])
    · exact ownN_ne_run hr.ot hp.ok e hk
  · rintro k hk (e | e)
    · exact own_ne_r hp.ot hr.row (by rw [hk, e])
    · exact ownN_ne_run hr.ot hp.ot e hk

theorem Pd.same (hp : PoolAt w pb vk vt sub plo phi ks ts) (hr : RAt w rb x y sub lo0 hi0 vk' vt' (L.map (·.1)) T) (h : PR x y sub plo phi lo0 hi0 L ks ts T) {W : World} (hb : Below w.heap.size w W) : Pd w pb rb x y sub plo phi lo0 hi0 L ks vk vt vk' vt' W vt vt' ts T :=
  ⟨hp.below hb, hr.below hb, h, fun _ hg => .inl hg, fun _ hg => .inl hg, Keeps.of hb⟩

/-- Both are turned, one behind the other. -/
theorem Pd.both {u1 u2 W : World} {v2 v2' : Value} {ts2 : List R} {T2 : List Nat} (hp : PoolAt w pb vk vt sub plo phi ks ts) (hr : RAt w rb x y sub lo0 hi0 vk' vt' (L.map (·.1)) T) (h1 : Turned pb vk vt sub plo phi ks w u1 v2 ts2) (hb : Below u1.heap.size u1 u2) (h2 : RTurn rb x y sub lo0 hi0 vk' vt' (L.map (·.1)) u2 W v2' T2) (hpr : PR x y sub plo phi lo0 hi0 L ks ts2 T2) : Pd w pb rb x y sub plo phi lo0 hi0 L ks vk vt vk' vt' W v2 v2' ts2 T2 := by
  have h3 := h1.more hb
  have hr2 := hr.turned hp h3
  refine ⟨h3.pool.rturn hr2 h2, h2.pool, hpr, NewBlk.nw h1.new, fun g hg => (h2.new g hg).imp id fun h => Nat.le_trans h3.keeps.size h, ?_⟩
  exact (h3.keeps.mono fun k _ hk => hk.elim .inl fun h => .inr (.inl h)).trans (h2.keeps.mono fun k _ hk => hk.elim (fun h => .inr (.inr (.inl h))) fun h => .inr (.inr (.inr h)))
end

theorem plays_any (o : Stp) (w : World) (pb rb x : Nat) (y : Int) (sub plo phi lo0 hi0 : Nat) (L : List (Nat × Int)) (ks ts : List R) (vk vt vk' vt' : Value) (T : List Nat) (hp : PoolAt w pb vk vt sub plo phi ks ts) (hr : RAt w rb x y sub lo0 hi0 vk' vt' (L.map (·.1)) T) (hpr : PR x y sub plo phi lo0 hi0 L ks ts T) (ho : o.a < 4294967296) :
    Calls Try.prog 26 #[.pointer (some ⟨pb, 0, none⟩), .pointer (some ⟨rb, 0, none⟩), .agg o.cells] w fun e W => e = .returned (.bool true) ∧ ∃ v2 v2' ts2 T2, Pd w pb rb x y sub plo phi lo0 hi0 L ks vk vt vk' vt' W v2 v2' ts2 T2 := by
  obtain ⟨okk, oo, oa, ol⟩ := o
  unfold Stp.cells
  simp only at ho ⊢
  obtain ⟨w0, HW0⟩ : ∃ w0, Hid (w0 = w.alloc (.cells #[.int .i64 okk, .int .i64 oo, .int .u32 (oa : Int), .int .i64 ol] 46)) := ⟨_, rfl⟩
  have hb0 : Below w.heap.size w w0 := by rw [HW0.out]; exact (Below.refl _ _).alloc (Nat.le_refl _) _
  have r0 : w0.heap[w.heap.size]? = some (.cells #[.int .i64 okk, .int .i64 oo, .int .u32 (oa : Int), .int .i64 ol] 46 (0, 0)) := by rw [HW0.out]; exact heap_alloc_new w _
  obtain ⟨ob, HOB⟩ : ∃ ob, Hid (ob = w.heap.size) := ⟨_, rfl⟩
  rw [← HOB.out] at r0
  have R0 := hid r0
  have HCO : Hid (∀ u : World, u.heap[ob]? = some (.cells #[.int .i64 okk, .int .i64 oo, .int .u32 (oa : Int), .int .i64 ol] 46 (0, 0)) → u.cell? ⟨ob, 0, none⟩ = some (.int .i64 okk) ∧ u.cell? ⟨ob, 2, none⟩ = some (.int .u32 (oa : Int)) ∧ u.cell? ⟨ob, 3, none⟩ = some (.int .i64 ol)) := fun u hr => by
    refine ⟨?_, ?_, ?_⟩ <;> (rw [cell_of_row _ _ _ _ _ _ hr]; rfl)
  have HB0 := hid hb0
  have HP := hid (hp.below hb0)
  have HR := hid (hr.below hb0)
  have HPR := hid hpr
  have HOA := hid ho
  have HPD : Hid (∀ (W : World) (v2 v2' : Value) (ts2 : List R) (T2 : List Nat), Pd w0 pb rb x y sub plo phi lo0 hi0 L ks vk vt vk' vt' W v2 v2' ts2 T2 → Pd w pb rb x y sub plo phi lo0 hi0 L ks vk vt vk' vt' W v2 v2' ts2 T2) := fun W v2 v2' ts2 T2 h =>
    ⟨h.pool, h.ref, h.pr, fun g hg => (h.n1 g hg).imp id fun h => Nat.le_trans HB0.out.size h, fun g hg => (h.n2 g hg).imp id fun h => Nat.le_trans HB0.out.size h, (Keeps.of HB0.out).trans h.ke⟩
  obtain ⟨c0, c2, c3⟩ := HCO.out w0 r0
  clear hp hr hpr ho hb0 r0
  go_enter Try.func26, Try.ntmps26
  go_upto_region 1 with fail
  rw [← HW0.out, ← HOB.out]
  go_upto_region 2 with fail
  clear c0
  by_cases k1 : okk = 1
  · subst k1
    as_aux_lemma =>
      have HTP := hid (take_any pb sub plo phi vk vt ks ts w0 HP.out)
      clear c2 c3
      go_wp2_with fail
      refine HTP.out.mono ?_
      rintro e w1 (⟨a, v2, ts2, rfl, t1, t2, t3, t4, t5, ht, t6⟩ | ⟨rfl, hall, hb1⟩)
      · obtain ⟨aa, HAA⟩ : ∃ aa, Hid (aa = adr sub a) := ⟨_, rfl⟩
        rw [← HAA.out]
        have HF := hid (And.intro t1 (And.intro t2 (And.intro t3 (And.intro t4 (And.intro t5 t6)))))
        have HT := hid ht
        obtain ⟨xb, HXB⟩ : ∃ xb, Hid (xb = w1.heap.size) := ⟨_, rfl⟩
        obtain ⟨w2, HW2⟩ : ∃ w2, Hid (w2 = w1.alloc (.cells #[.int .u32 (aa : Int), .int .i64 (sub : Int)] 25)) := ⟨_, rfl⟩
        have hb2 : Below w1.heap.size w1 w2 := by rw [HW2.out]; exact (Below.refl _ _).alloc (Nat.le_refl _) _
        have r2 : w2.heap[xb]? = some (.cells #[.int .u32 (aa : Int), .int .i64 (sub : Int)] 25 (0, 0)) := by rw [HW2.out, HXB.out]; exact heap_alloc_new w1 _
        have HR2 := hid (HR.out.turned HP.out (ht.more hb2))
        have X2 := hid r2
        have HB2 := hid hb2
        have HTR := hid (takeR rb x y sub lo0 hi0 vk' vt' (L.map (·.1)) T w2 HR2.out HPR.out.nodup)
        clear t1 t2 t3 t4 t5 t6 ht hb2 r2 HTP
        go_upto_region 4 with fail
        rw [← HW2.out, ← HXB.out]
        go_wp2_with fail
        refine HTR.out.mono ?_
        rintro e w3 (⟨k, v2', s1, s2, s3, s4, rfl, hrt⟩ | ⟨hall, rfl, hb3⟩)
        rotate_left
        · exfalso
          obtain ⟨t1, t2, t3, t4, -, -⟩ := HF.out
          have hs := HPR.out.step (a - plo)
          rw [show plo + (a - plo) = a by omega] at hs
          rcases hall (a - plo) (by rw [hs]; exact ((HPR.out.row a).2 ⟨t1, t2⟩).2) with h | h
          · rw [hs, HPR.out.kept] at h; exact t3 h
          · rw [hs, HPR.out.taken] at h; exact t4 h
        obtain rfl : a = plo + k := by
          obtain ⟨t1, t2, t3, t4, t5, -⟩ := HF.out
          rw [HPR.out.step] at s1 s2 s3
          rw [HPR.out.kept] at s2
          rw [HPR.out.taken] at s3
          rcases Nat.lt_trichotomy a (plo + k) with h | h | h
          · have h1 := s4 (a - plo) (by omega)
            rw [HPR.out.step, show plo + (a - plo) = a by omega, HPR.out.kept, HPR.out.taken] at h1
            rcases h1 with h1 | h1
            · exact absurd h1 t3
            · exact absurd h1 t4
          · exact h
          · rcases t5 (plo + k) (by omega) h with h1 | h1
            · exact absurd h1 s2
            · exact absurd h1 s3
        have hsk := HPR.out.step k
        rw [hsk] at hrt ⊢
        rw [← HAA.out]
        have x3 : w3.heap[xb]? = some (.cells #[.int .u32 (aa : Int), .int .i64 (sub : Int)] 25 (0, 0)) := by
          refine (hrt.keeps.block xb (Array.getElem?_eq_some_iff.1 X2.out).1 ?_).trans X2.out
          rintro (e | e)
          · have := HR2.out.row
            rw [← e, X2.out] at this
            simp at this
          · exact ownN_ne_p HR2.out.ot X2.out e
        have HPDW := hid (Pd.both HP.out HR.out HT.out HB2.out hrt (HPR.out.add HT.out.pool.rt HF.out.2.2.2.1 HF.out.2.2.2.2.2))
        clear s1 s2 s3 s4 hrt hsk HTR
        obtain ⟨zb, HZB⟩ : ∃ zb, Hid (zb = w3.heap.size) := ⟨_, rfl⟩
        obtain ⟨w4, HW4⟩ : ∃ w4, Hid (w4 = w3.alloc (.cells #[.int .u32 (aa : Int), .int .i64 (sub : Int)] 25)) := ⟨_, rfl⟩
        have hb4 : Below w3.heap.size w3 w4 := by rw [HW4.out]; exact (Below.refl _ _).alloc (Nat.le_refl _) _
        have r4 : w4.heap[zb]? = some (.cells #[.int .u32 (aa : Int), .int .i64 (sub : Int)] 25 (0, 0)) := by rw [HW4.out, HZB.out]; exact heap_alloc_new w3 _
        have y4 := below_keeps hb4 x3 (Array.getElem?_eq_some_iff.1 x3).1
        have d0 : w4.cell? ⟨xb, 0, none⟩ = some (.int .u32 (aa : Int)) := by rw [cell_of_row _ _ _ _ _ _ y4]; rfl
        have d1 : w4.cell? ⟨xb, 1, none⟩ = some (.int .i64 (sub : Int)) := by rw [cell_of_row _ _ _ _ _ _ y4]; rfl
        have d2 : w4.cell? ⟨zb, 0, none⟩ = some (.int .u32 (aa : Int)) := by rw [cell_of_row _ _ _ _ _ _ r4]; rfl
        have d3 : w4.cell? ⟨zb, 1, none⟩ = some (.int .i64 (sub : Int)) := by rw [cell_of_row _ _ _ _ _ _ r4]; rfl
        have HFN := hid (HPDW.out.more hb4)
        clear hb4 r4 y4 x3
        go_upto_region 5 with fail
        rw [← HW4.out, ← HZB.out]
        go_wp2_with fail
        go_ret
        exact ⟨ret_bool (by simp), _, _, _, _, HPD.out _ _ _ _ _ HFN.out⟩
      · have HALL := hid hall
        obtain ⟨xb, HXB⟩ : ∃ xb, Hid (xb = w1.heap.size) := ⟨_, rfl⟩
        obtain ⟨w2, HW2⟩ : ∃ w2, Hid (w2 = w1.alloc (.cells #[.int .u32 0, .int .i64 0] 25)) := ⟨_, rfl⟩
        have hb2 : Below w1.heap.size w1 w2 := by rw [HW2.out]; exact (Below.refl _ _).alloc (Nat.le_refl _) _
        have r2 : w2.heap[xb]? = some (.cells #[.int .u32 0, .int .i64 0] 25 (0, 0)) := by rw [HW2.out, HXB.out]; exact heap_alloc_new w1 _
        have HBW : Hid (Below w0.heap.size w0 w2) := hb1.trans (hb2.mono hb1.size)
        have HR2 := hid (HR.out.below HBW.out)
        have X2 := hid r2
        have HTR := hid (takeR rb x y sub lo0 hi0 vk' vt' (L.map (·.1)) T w2 HR2.out HPR.out.nodup)
        clear hall hb1 hb2 r2 HTP
        go_upto_region 4 with fail
        rw [← HW2.out, ← HXB.out]
        go_wp2_with fail
        refine HTR.out.mono ?_
        rintro e w3 (⟨k, v2', s1, s2, s3, s4, rfl, hrt⟩ | ⟨hall, rfl, hb3⟩)
        · exfalso
          rw [HPR.out.step] at s1 s2 s3
          rw [HPR.out.kept] at s2
          rw [HPR.out.taken] at s3
          have h1 := (HPR.out.row (plo + k)).1 ⟨by rw [← HPR.out.lo, adr_le]; omega, s1⟩
          rcases HALL.out (plo + k) h1.1 h1.2 with h | h
          · exact s2 h
          · exact s3 h
        have x3 := below_keeps hb3 X2.out (Array.getElem?_eq_some_iff.1 X2.out).1
        have HPDW := hid (Pd.same HP.out HR.out HPR.out (HBW.out.trans (hb3.mono HBW.out.size)))
        clear hall hb3 HTR
        obtain ⟨zb, HZB⟩ : ∃ zb, Hid (zb = w3.heap.size) := ⟨_, rfl⟩
        obtain ⟨w4, HW4⟩ : ∃ w4, Hid (w4 = w3.alloc (.cells #[.int .u32 0, .int .i64 0] 25)) := ⟨_, rfl⟩
        have hb4 : Below w3.heap.size w3 w4 := by rw [HW4.out]; exact (Below.refl _ _).alloc (Nat.le_refl _) _
        have r4 : w4.heap[zb]? = some (.cells #[.int .u32 0, .int .i64 0] 25 (0, 0)) := by rw [HW4.out, HZB.out]; exact heap_alloc_new w3 _
        have y4 := below_keeps hb4 x3 (Array.getElem?_eq_some_iff.1 x3).1
        have d0 : w4.cell? ⟨xb, 0, none⟩ = some (.int .u32 0) := by rw [cell_of_row _ _ _ _ _ _ y4]; rfl
        have d1 : w4.cell? ⟨xb, 1, none⟩ = some (.int .i64 0) := by rw [cell_of_row _ _ _ _ _ _ y4]; rfl
        have d2 : w4.cell? ⟨zb, 0, none⟩ = some (.int .u32 0) := by rw [cell_of_row _ _ _ _ _ _ r4]; rfl
        have d3 : w4.cell? ⟨zb, 1, none⟩ = some (.int .i64 0) := by rw [cell_of_row _ _ _ _ _ _ r4]; rfl
        have HFN := hid (HPDW.out.more hb4)
        clear hb4 r4 y4 x3
        go_upto_region 5 with fail
        rw [← HW4.out, ← HZB.out]
        go_wp2_with fail
        go_ret
        exact ⟨ret_bool (by simp), _, _, _, _, HPD.out _ _ _ _ _ HFN.out⟩
  · by_cases k2 : okk = 2
    · subst k2
      as_aux_lemma =>
        have HTP := hid (claim_any pb sub plo phi oa ol vk vt ks ts w0 HP.out HOA.out)
        go_wp2_with fail
        refine HTP.out.mono ?_
        rintro e w1 (⟨a1, rfl, hb1⟩ | ⟨a1, a2, a3, rfl, hb1⟩ | ⟨a1, a2, a3, rfl, hb1⟩ | ⟨a1, a2, a3, rfl, v2, ts2, ht, hm⟩)
        · skip
          have r1 := below_keeps hb1 R0.out (Array.getElem?_eq_some_iff.1 R0.out).1
          obtain ⟨-, f2, f3⟩ := HCO.out w1 r1
          have HB1 := hid hb1
          have HTR := hid (claimR rb x y sub lo0 hi0 vk' vt' (L.map (·.1)) T oa ol w1 (HR.out.below hb1) HPR.out.x32 HPR.out.vx HOA.out HPR.out.nodup)
          clear c2 c3 hb1 r1 HTP
          go_wp2_with fail
          refine HTR.out.mono ?_
          rintro e w2 (⟨b1, rfl, hb2⟩ | ⟨b1, b2, rfl, hb2⟩ | ⟨b1, b2, b3, b4, rfl, hb2⟩ | ⟨b1, b2, b3, b4, rfl, v2', hrt⟩)
          · have HFN := hid (Pd.same HP.out HR.out HPR.out (HB1.out.trans (hb2.mono HB1.out.size)))
            clear hb2
            clear f2 f3 HTR
            go_wp2_with fail
            go_ret
            exact ⟨ret_bool (by simp), _, _, _, _, HPD.out _ _ _ _ _ HFN.out⟩
          · exfalso
            rw [a1] at b1; cases b1
          · exfalso
            rw [a1] at b1; cases b1
          · exfalso
            rw [a1] at b1; cases b1
        · skip
          have r1 := below_keeps hb1 R0.out (Array.getElem?_eq_some_iff.1 R0.out).1
          obtain ⟨-, f2, f3⟩ := HCO.out w1 r1
          have HB1 := hid hb1
          have HTR := hid (claimR rb x y sub lo0 hi0 vk' vt' (L.map (·.1)) T oa ol w1 (HR.out.below hb1) HPR.out.x32 HPR.out.vx HOA.out HPR.out.nodup)
          clear c2 c3 hb1 r1 HTP
          go_wp2_with fail
          refine HTR.out.mono ?_
          rintro e w2 (⟨b1, rfl, hb2⟩ | ⟨b1, b2, rfl, hb2⟩ | ⟨b1, b2, b3, b4, rfl, hb2⟩ | ⟨b1, b2, b3, b4, rfl, v2', hrt⟩)
          · exfalso
            rw [a1] at b1; cases b1
          · have HFN := hid (Pd.same HP.out HR.out HPR.out (HB1.out.trans (hb2.mono HB1.out.size)))
            clear hb2
            clear f2 f3 HTR
            go_wp2_with fail
            go_ret
            exact ⟨ret_bool (by simp), _, _, _, _, HPD.out _ _ _ _ _ HFN.out⟩
          · exfalso
            rcases b3 with h | h
            · exact a2 ((HPR.out.rowA a1).1 h)
            · exact a3 ((HPR.out.keptA a1).1 h)
          · exfalso
            rcases b3 with h | h
            · exact a2 ((HPR.out.rowA a1).1 h)
            · exact a3 ((HPR.out.keptA a1).1 h)
        · skip
          have r1 := below_keeps hb1 R0.out (Array.getElem?_eq_some_iff.1 R0.out).1
          obtain ⟨-, f2, f3⟩ := HCO.out w1 r1
          have HB1 := hid hb1
          have HTR := hid (claimR rb x y sub lo0 hi0 vk' vt' (L.map (·.1)) T oa ol w1 (HR.out.below hb1) HPR.out.x32 HPR.out.vx HOA.out HPR.out.nodup)
          clear c2 c3 hb1 r1 HTP
          go_wp2_with fail
          refine HTR.out.mono ?_
          rintro e w2 (⟨b1, rfl, hb2⟩ | ⟨b1, b2, rfl, hb2⟩ | ⟨b1, b2, b3, b4, rfl, hb2⟩ | ⟨b1, b2, b3, b4, rfl, v2', hrt⟩)
          · exfalso
            rw [a1] at b1; cases b1
          · exfalso
            have hin : inN x y oa = true := by
              rcases a2 with h | h
              · obtain ⟨h1, h2⟩ := (HPR.out.rowA a1).2 h
                exact HPR.out.net oa h1 h2
              · obtain ⟨p, hp, e⟩ := List.mem_map.1 ((HPR.out.keptA a1).2 h)
                rw [← e]; exact HPR.out.ken p hp
            rcases b2 with h | ⟨h1, h2⟩
            · rw [hin] at h; cases h
            · rcases a2 with h | h
              · exact h1 ((HPR.out.rowA a1).2 h)
              · exact h2 ((HPR.out.keptA a1).2 h)
          · have HFN := hid (Pd.same HP.out HR.out HPR.out (HB1.out.trans (hb2.mono HB1.out.size)))
            clear hb2
            clear f2 f3 HTR
            go_wp2_with fail
            go_ret
            exact ⟨ret_bool (by simp), _, _, _, _, HPD.out _ _ _ _ _ HFN.out⟩
          · exfalso
            exact b4 ((HPR.out.takenA a1).2 a3)
        · skip
          have hr1 : w1.heap[ob]? = some (.cells #[.int .i64 2, .int .i64 oo, .int .u32 (oa : Int), .int .i64 ol] 46 (0, 0)) := by
            refine (ht.keeps.block ob (Array.getElem?_eq_some_iff.1 R0.out).1 ?_).trans R0.out
            rintro (e | e)
            · have := HP.out.row
              rw [← e, R0.out] at this
              simp at this
            · rcases HP.out.ot.2 with ⟨e0, _⟩ | ⟨g', cap', cur', e0, _, hgg, _⟩
              · rw [e0] at e; cases e
              · rw [e0] at e
                simp [Value.ownBlock] at e
                rw [e, R0.out] at hgg
                simp at hgg
          obtain ⟨-, f2, f3⟩ := HCO.out w1 hr1
          have HT := hid ht
          have HR1 := hid (HR.out.turned HP.out ht)
          have HTR := hid (claimR rb x y sub lo0 hi0 vk' vt' (L.map (·.1)) T oa ol w1 HR1.out HPR.out.x32 HPR.out.vx HOA.out HPR.out.nodup)
          clear c2 c3 hr1 ht HTP
          go_wp2_with fail
          refine HTR.out.mono ?_
          rintro e w2 (⟨b1, rfl, hb2⟩ | ⟨b1, b2, rfl, hb2⟩ | ⟨b1, b2, b3, b4, rfl, hb2⟩ | ⟨b1, b2, b3, b4, rfl, v2', hrt⟩)
          · exfalso
            rw [a1] at b1; cases b1
          · exfalso
            have hin : inN x y oa = true := by
              rcases a2 with h | h
              · obtain ⟨h1, h2⟩ := (HPR.out.rowA a1).2 h
                exact HPR.out.net oa h1 h2
              · obtain ⟨p, hp, e⟩ := List.mem_map.1 ((HPR.out.keptA a1).2 h)
                rw [← e]; exact HPR.out.ken p hp
            rcases b2 with h | ⟨h1, h2⟩
            · rw [hin] at h; cases h
            · rcases a2 with h | h
              · exact h1 ((HPR.out.rowA a1).2 h)
              · exact h2 ((HPR.out.keptA a1).2 h)
          · exfalso
            exact a3 ((HPR.out.takenA a1).1 b4)
          · have hT2 := HPR.out.add HT.out.pool.rt a3 hm
            rw [(alg_back a1).2] at hT2
            have HFN := hid (Pd.both HP.out HR.out HT.out (Below.refl _ _) hrt hT2)
            clear hrt hT2 hm
            clear f2 f3 HTR
            go_wp2_with fail
            go_ret
            exact ⟨ret_bool (by simp), _, _, _, _, HPD.out _ _ _ _ _ HFN.out⟩
    · by_cases k3 : okk = 3
      · subst k3
        as_aux_lemma =>
          have HTP := hid (free_any pb sub plo phi oa ol vk vt ks ts w0 HP.out HOA.out)
          go_wp2_with fail
          refine HTP.out.mono ?_
          rintro e w1 (⟨a1, rfl, hb1⟩ | ⟨a1, a2, rfl, v2, ts2, ht, hm⟩)
          · skip
            have r1 := below_keeps hb1 R0.out (Array.getElem?_eq_some_iff.1 R0.out).1
            obtain ⟨-, f2, f3⟩ := HCO.out w1 r1
            have HB1 := hid hb1
            have HTR := hid (freeR rb x y sub lo0 hi0 vk' vt' (L.map (·.1)) T oa ol w1 (HR.out.below hb1) HOA.out)
            clear c2 c3 hb1 r1 HTP
            go_wp2_with fail
            refine HTR.out.mono ?_
            rintro e w2 (⟨b1, rfl, hb2⟩ | ⟨b1, b2, rfl, v2', hrt⟩)
            · have HFN := hid (Pd.same HP.out HR.out HPR.out (HB1.out.trans (hb2.mono HB1.out.size)))
              clear hb2
              clear f2 f3 HTR
              go_wp2_with fail
              go_ret
              exact ⟨ret_bool (by simp), _, _, _, _, HPD.out _ _ _ _ _ HFN.out⟩
            · exfalso
              obtain ⟨N, hN, hO⟩ := HPR.out.tk
              rw [hN] at b2
              obtain ⟨m, hm, e⟩ := List.mem_map.1 b2
              have hal : alg sub oa ol = true := by rw [← e, b1]; exact alg_adr sub m
              rcases a1 with h | h
              · rw [hal] at h; cases h
              · refine h ?_
                rw [← e, num_adr]
                exact (hO.2 m).1 hm
          · skip
            have hr1 : w1.heap[ob]? = some (.cells #[.int .i64 3, .int .i64 oo, .int .u32 (oa : Int), .int .i64 ol] 46 (0, 0)) := by
              refine (ht.keeps.block ob (Array.getElem?_eq_some_iff.1 R0.out).1 ?_).trans R0.out
              rintro (e | e)
              · have := HP.out.row
                rw [← e, R0.out] at this
                simp at this
              · rcases HP.out.ot.2 with ⟨e0, _⟩ | ⟨g', cap', cur', e0, _, hgg, _⟩
                · rw [e0] at e; cases e
                · rw [e0] at e
                  simp [Value.ownBlock] at e
                  rw [e, R0.out] at hgg
                  simp at hgg
            obtain ⟨-, f2, f3⟩ := HCO.out w1 hr1
            have HT := hid ht
            have HR1 := hid (HR.out.turned HP.out ht)
            have HTR := hid (freeR rb x y sub lo0 hi0 vk' vt' (L.map (·.1)) T oa ol w1 HR1.out HOA.out)
            clear c2 c3 hr1 ht HTP
            go_wp2_with fail
            refine HTR.out.mono ?_
            rintro e w2 (⟨b1, rfl, hb2⟩ | ⟨b1, b2, rfl, v2', hrt⟩)
            · exfalso
              rcases b1 with h | h
              · exact h (alg_back a1).1
              · exact h ((HPR.out.takenA a1).2 a2)
            · have hT2 := HPR.out.drop HT.out.pool.rt a1 hm
              have HFN := hid (Pd.both HP.out HR.out HT.out (Below.refl _ _) hrt hT2)
              clear hrt hT2 hm
              clear f2 f3 HTR
              go_wp2_with fail
              go_ret
              exact ⟨ret_bool (by simp), _, _, _, _, HPD.out _ _ _ _ _ HFN.out⟩
      · by_cases k4 : okk = 4
        · subst k4
          as_aux_lemma =>
            have HTP := hid (taken_any pb sub plo phi vk vt ks ts w0 HP.out)
            clear c2 c3
            go_wp2_with fail
            refine HTP.out.mono ?_
            rintro e w1 ⟨va, rfl, ho1, hb1⟩
            have HO1 := hid ho1.sees
            have HB1 := hid hb1
            have HTR := hid (takenR rb x y sub lo0 hi0 vk' vt' (L.map (·.1)) T _ w1 (HR.out.below hb1) HPR.out.rise)
            rw [PR.list] at HTR
            clear ho1 hb1 HTP
            go_wp2_with fail
            refine HTR.out.mono ?_
            rintro e w2 ⟨vb, rfl, ho2, hb2⟩
            have HSM := hid (same_self va vb (tks sub (els ts)) w2 (HO1.out.below hb2) ho2.sees)
            have HB2 : Hid (Below w0.heap.size w0 w2) := HB1.out.trans (hb2.mono HB1.out.size)
            clear ho2 hb2 HTR
            go_wp2_with fail
            refine HSM.out.mono ?_
            rintro e w3 ⟨rfl, hb3⟩
            have HB3 : Hid (Below w0.heap.size w0 w3) := HB2.out.trans (hb3.mono HB2.out.size)
            clear hb3 HSM
            go_wp2_with fail
            go_ret
            exact ⟨rfl, _, _, _, _, HPD.out _ _ _ _ _ (Pd.same HP.out HR.out HPR.out HB3.out)⟩
        · by_cases k5 : okk = 5
          · subst k5
            as_aux_lemma =>
              have HTP := hid (room_any pb sub plo phi vk vt ks ts w0 HP.out)
              obtain ⟨rm, HRM⟩ : ∃ rm, Hid (rm = cnt ks ts plo (phi + 1)) := ⟨_, rfl⟩
              rw [← HRM.out] at HTP
              clear c2 c3
              go_wp2_with fail
              refine HTP.out.mono ?_
              rintro e w1 ⟨rfl, hb1⟩
              have HB1 := hid hb1
              have HTR := hid (roomR rb x y sub lo0 hi0 vk' vt' (L.map (·.1)) T w1 (HR.out.below hb1) HPR.out.le)
              rw [HPR.out.room, ← HRM.out] at HTR
              clear hb1 HTP
              go_wp2_with fail
              refine HTR.out.mono ?_
              rintro e w2 ⟨rfl, hb2⟩
              have HB2 : Hid (Below w0.heap.size w0 w2) := HB1.out.trans (hb2.mono HB1.out.size)
              clear hb2 HTR
              go_wp2_with fail
              go_ret
              exact ⟨ret_bool (by simp), _, _, _, _, HPD.out _ _ _ _ _ (Pd.same HP.out HR.out HPR.out HB2.out)⟩
          · have k1' : (okk == 1) = false := by simp [k1]
            have k2' : (okk == 2) = false := by simp [k2]
            have k3' : (okk == 3) = false := by simp [k3]
            have k4' : (okk == 4) = false := by simp [k4]
            have k5' : (okk == 5) = false := by simp [k5]
            go_wp2_with fail
            go_ret
            exact ⟨rfl, _, _, _, _, HPD.out _ _ _ _ _ (Pd.same HP.out HR.out HPR.out (Below.refl _ _))⟩
end Go.Proofs.Ytahoileampdnkaa
