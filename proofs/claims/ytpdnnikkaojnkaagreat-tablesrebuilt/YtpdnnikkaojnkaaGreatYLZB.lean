import Derived.Test.YtpdnnikkaojnkaaGreatYLS1
namespace Go.Proofs.YtpdnnikkaojnkaaGreat.Rt
open Go.Proofs.YtpdnnikkaojnkaaGreat Go.ChangeShapes Go.WideShapes Go.ChangeAt Go.RowKit Go.Maps Tri N
set_option maxHeartbeats 2000000
set_option maxRecDepth 100000
def SeesA (w : World) (a : Option Addr) (n : Nat) : Prop := n ≤ 9223372036854775807 ∧ ∀ j, j < n → ∃ g off, ∃ x : Nat, a = some ⟨g, off, none⟩ ∧ g < w.heap.size ∧ x < 4294967296 ∧ w.cell? ⟨g, off + j, none⟩ = some (.int .u32 (x : Int))
theorem SeesA.below {w w' : World} {a : Option Addr} {n : Nat} (h : SeesA w a n) (hb : Below w.heap.size w w') : SeesA w' a n := ⟨h.1, fun j hj => by
  obtain ⟨g, off, x, h1, h2, h3, h4⟩ := h.2 j hj
  exact ⟨g, off, x, h1, Nat.lt_of_lt_of_le h2 hb.size, h3, (hb.cell (p := ⟨g, off + j, none⟩) h2).trans h4⟩⟩
theorem uAds : Tryz.prog.underlying 25 = some (.slice 34) := by kernel_rfl
section
variable {H : Type} {enc : TypeId × Value → H} {W : World}
theorem open_ad {base : Nat} {v : Value} {d : DataW H} {ps : List MemPlace} (hval : Value.okWide Tryz.prog W .any base 25 v) (h : DataW.Trod enc Tryz.prog W 0 (fun _ => true) true 25 v d ps) :
    ∃ (a : Option Addr) (n c : Nat) (_ : Unit), v = .slice a n c ∧ SeesA W a n := by
  obtain ⟨a0, len, cap, rfl⟩ := okWide_slice uAds hval
  obtain ⟨fuel, hf⟩ := h
  rcases Go.Deep.open_slice uAds hf with ⟨h1, _⟩ | ⟨a, len', cap', m, n, D, Pl, h1, _, hlc, hcm, hm, hxx, hx⟩
  · simp [Value.cells] at h1
    obtain ⟨rfl, rfl, rfl⟩ := h1
    exact ⟨_, _, _, (), rfl, by decide, fun j hj => absurd hj (by omega)⟩
  · simp [Value.cells] at h1
    obtain ⟨rfl, rfl, rfl⟩ := h1
    simp at hm
    subst hm
    unfold maxLen at hcm
    have key : ∀ i, i < len → ∃ x : Nat, x < 4294967296 ∧ W.cell? (a.add i) = some (.int .u32 (x : Int)) := by
      intro i hi
      obtain ⟨cs', k1, k2⟩ := hx i (by omega)
      rw [cO1, Nat.mul_one] at k1
      obtain ⟨_, _, hc⟩ := World.cells?_some k1
      obtain ⟨z, e1, _, w1⟩ := DataW.trod_int uAd k2
      obtain ⟨x, rfl, h0⟩ := u32_wf w1
      refine ⟨x, h0, ?_⟩
      have := hc 0 (by omega)
      rw [e1] at this
      simpa [Addr.add] using this
    refine ⟨_, _, _, (), rfl, by omega, fun j hj => ?_⟩
    obtain ⟨x, h0, hc⟩ := key j hj
    obtain ⟨g, off, rfl, hg⟩ : ∃ g off, a = ⟨g, off, none⟩ ∧ g < W.heap.size := by
      obtain ⟨_, _, z0⟩ := key 0 (by omega)
      have e : a.add 0 = a := by simp [Addr.add]
      rw [e] at z0
      exact spot_none z0
    rw [Addr.add_mid] at hc
    exact ⟨g, off, x, rfl, hg, h0, hc⟩
end
theorem srt_nod {α κ : Type} {key : α → κ} {num : α → Nat} {S L : List α} (h : SrtK num S L) (hk : ∀ x y, key x = key y → num x = num y) : Nod key S := by
  have h1 : (S.map num).Pairwise (· < ·) := h.1
  unfold Nod
  rw [List.nodup_iff_pairwise_ne, List.pairwise_map]
  exact (List.pairwise_map.1 h1).imp fun hlt e => by have := hk _ _ e; omega
theorem lk_same {α κ : Type} [DecidableEq κ] {key : α → κ} {S L : List α} (hL : Nod key L) (h : ∀ e, e ∈ S ↔ e ∈ L) (k : κ) : lk key S k = lk key L k := by
  cases h1 : lk key S k with
  | none =>
    refine (lk_isNone fun e he => ?_).symm
    exact lk_none h1 e ((h e).2 he)
  | some e =>
    obtain ⟨h2, h3⟩ := lk_some h1
    exact ((lk_iff hL).2 ⟨(h e).1 h2, h3⟩).symm
theorem dump_ks {s : Ks} (hok : s.Ok) {A : List Vt} {B : List Nb} {C : List Fd} (h1 : SrtK Tri.Vt.num A s.R) (h2 : SrtK (fun e : Nb => e.ip) B s.N) (h3 : SrtK (fun e : Fd => e.mac.num) C s.F) :
    (⟨A, B, C, s.cr, s.cn, s.cf⟩ : Ks).Ok ∧ ∀ a r, LR A a r → LR s.R a r ∧ hopR ⟨A, B, C, s.cr, s.cn, s.cf⟩ r = hopR s r := by
  have n1 : Nod Tri.Vt.key A := srt_nod h1 fun x y e => by
    have e1 : x.x = y.x := congrArg Prod.fst e
    have e2 : x.n = y.n := congrArg Prod.snd e
    unfold Tri.Vt.num
    rw [e1, e2]
  have n2 : Nod Nb.ip B := srt_nod h2 fun x y e => e
  have n3 : Nod Fd.mac C := srt_nod h3 fun x y e => by rw [e]
  have l1 : A.length = s.R.length := h1.len ((List.pairwise_map.1 hok.rn).imp fun h e => h (by rw [e]))
  have l2 : B.length = s.N.length := h2.len ((List.pairwise_map.1 hok.nn).imp fun h e => h (by rw [e]))
  have l3 : C.length = s.F.length := h3.len ((List.pairwise_map.1 hok.fn).imp fun h e => h (by rw [e]))
  refine ⟨⟨n1, fun v hv => hok.rk v ((h1.2 v).1 hv), ⟨l1 ▸ hok.rl.1, hok.rl.2⟩, n2, fun v hv => hok.nk v ((h2.2 v).1 hv), ⟨l2 ▸ hok.nl.1, hok.nl.2⟩, n3, fun v hv => hok.fk v ((h3.2 v).1 hv), ⟨l3 ▸ hok.fl.1, hok.fl.2⟩⟩, fun a r hr => ⟨?_, ?_⟩⟩
  · cases r with
    | none => exact fun u hu => hr u ((h1.2 u).2 hu)
    | some v => exact ⟨(h1.2 v).1 hr.1, hr.2.1, fun u hu => hr.2.2 u ((h1.2 u).2 hu)⟩
  · have e2 : ∀ k, lk Nb.ip B k = lk Nb.ip s.N k := lk_same hok.nn h2.2
    have e3 : ∀ k, lk Fd.mac C k = lk Fd.mac s.F k := lk_same hok.fn h3.2
    unfold hopR
    simp only [e2, e3]
end Go.Proofs.YtpdnnikkaojnkaaGreat.Rt
