/-
  TrieOrderless's walk, up to the end of its changes.
-/
import Derived.Test.YtmnafocmbcgdiaaZA
import Derived.StillTailTactics
namespace Go.Proofs.Ytmnafocmbcgdiaa
open Go.ChangeShapes Go.WideShapes Go.ChangeAt Go.RowKit Go.Shelf Tri N
attribute [local go_sem] Oper.semAt_some
set_option maxHeartbeats 16000000
set_option maxRecDepth 100000

def SeesY (w : World) (v : Value) (L : List Nat) : Prop :=
  ∃ ao cap, v = .slice ao L.length cap ∧ L.length ≤ cap ∧ cap ≤ maxLen ∧
    ∀ j (h : j < L.length), ∃ g off, ao = some ⟨g, off, none⟩ ∧ g < w.heap.size ∧ w.cell? ⟨g, off + j, none⟩ = some (.int .u8 (L[j] : Int)) ∧ L[j] < 256

theorem SeesY.below {w w' : World} {v : Value} {L : List Nat} (h : SeesY w v L) (hb : Below w.heap.size w w') : SeesY w' v L := by
  obtain ⟨ao, cap, hv, h1, h2, h3⟩ := h
  refine ⟨ao, cap, hv, h1, h2, fun j hj => ?_⟩
  obtain ⟨g, off, ha, hg, c0, c1⟩ := h3 j hj
  exact ⟨g, off, ha, Nat.lt_of_lt_of_le hg hb.size, (hb.cell (p := ⟨g, _, none⟩) hg).trans c0, c1⟩

theorem SeesY.shape {w : World} {v : Value} {L : List Nat} (h : SeesY w v L) : ∃ ao n cap, v = .slice ao n cap ∧ Hid (n = L.length) ∧ n ≤ cap ∧ cap ≤ maxLen := by
  obtain ⟨ao, cap, hv, h1, h2, _⟩ := h
  exact ⟨ao, L.length, cap, hv, rfl, h1, h2⟩

theorem SeesY.at {w : World} {ao : Option Addr} {n cap : Nat} {L : List Nat} (h : SeesY w (.slice ao n cap) L) (j : Nat) (hj : j < n) : ∃ (g off a : Nat), ao = some ⟨g, off, none⟩ ∧ w.cell? ⟨g, off + j, none⟩ = some (.int .u8 (a : Int)) ∧ a < 256 := by
  obtain ⟨ao', cap', hv, h1, h2, h3⟩ := h
  simp at hv
  obtain ⟨rfl, rfl, rfl⟩ := hv
  obtain ⟨g, off, a, b, c, d⟩ := h3 j hj
  exact ⟨g, off, L[j], a, c, d⟩

/-- The value that a prefix gets. -/
def fV (p : K) : Int := (p.x : Int) + (p.n : Int)

/-- What s holds behind j puts. -/
def HSs (L : List K) (j : Nat) (S : Tr) : Prop := (Has S fun p x => p ∈ L.take j ∧ x = fV p) ∧ (ents S).length ≤ j
def HOo (O : List K) (j : Nat) (T : Tr) : Prop := Has T fun p x => p ∈ O.take j ∧ x = -5
def HMm (M O : List K) (j : Nat) (T : Tr) : Prop := Has T fun p x => (p ∈ M.drop j ∧ x = fV p) ∨ (p ∉ M.drop j ∧ p ∈ O ∧ x = -5)
def HDd (L O : List K) (j : Nat) (T : Tr) : Prop := Has T fun p x => (p ∈ L ∧ x = fV p) ∨ (p ∉ L ∧ p ∈ O ∧ p ∉ O.take j ∧ x = -5)

theorem mem_snoc {L : List K} {j : Nat} {k : K} (hk : L[j]? = some k) (p : K) : p ∈ L.take (j + 1) ↔ p = k ∨ p ∈ L.take j := by
  rw [take_snoc hk, List.mem_append, List.mem_singleton]
  exact ⟨fun h => h.elim .inr .inl, fun h => h.elim .inr .inl⟩

theorem HSs.step {L : List K} {j : Nat} {S : Tr} (h : HSs L j S) (hW : WF top.x (top.x + top.s) S) {k : K} (hk : L[j]? = some k) (hok : k.Ok) : HSs L (j + 1) (hang S k (some (fV k))) :=
  ⟨(Has.put h.1 hW hok (fV k)).iff fun p x => by
    rw [mem_snoc hk]
    constructor
    · rintro (⟨rfl, rfl⟩ | ⟨h1, h2, h3⟩)
      · exact ⟨.inl rfl, rfl⟩
      · exact ⟨.inr h2, h3⟩
    · rintro ⟨h1, h2⟩
      by_cases hp : p = k
      · exact .inl ⟨hp, by rw [h2, hp]⟩
      · exact .inr ⟨hp, h1.resolve_left hp, h2⟩, by have h1 := (hang_len hW hok (fV k)).1; have h2 := h.2; omega⟩

theorem HOo.step {O : List K} {j : Nat} {T : Tr} (h : HOo O j T) (hW : WF top.x (top.x + top.s) T) {k : K} (hk : O[j]? = some k) (hok : k.Ok) : HOo O (j + 1) (hang T k (some (-5))) :=
  (Has.put h hW hok (-5)).iff fun p x => by
    rw [mem_snoc hk]
    constructor
    · rintro (⟨rfl, rfl⟩ | ⟨h1, h2, h3⟩)
      · exact ⟨.inl rfl, rfl⟩
      · exact ⟨.inr h2, h3⟩
    · rintro ⟨h1, h2⟩
      by_cases hp : p = k
      · exact .inl ⟨hp, h2⟩
      · exact .inr ⟨hp, h1.resolve_left hp, h2⟩

theorem HOo.mid {L O : List K} {T : Tr} (h : HOo O O.length T) : HMm L O L.length T := h.iff fun p x => by
  rw [List.take_length, List.drop_length]
  simp

theorem HMm.step {M O : List K} {n k : Nat} {T : Tr} (h : HMm M O (n + 1) T) (hW : WF top.x (top.x + top.s) T) {x y : K} (hk : M[k]? = some x) (hkn : k ≤ n) (hn : n < M.length) (hok : x.Ok) : HMm (swp M k n x y) O n (hang T x (some (fV x))) :=
  (Has.put h hW hok (fV x)).iff fun p z => by
    rw [swp_drop hkn hn, List.mem_cons]
    constructor
    · rintro (⟨rfl, rfl⟩ | ⟨h1, (⟨h2, h3⟩ | ⟨h2, h3, h4⟩)⟩)
      · exact .inl ⟨.inl rfl, rfl⟩
      · exact .inl ⟨.inr h2, h3⟩
      · exact .inr ⟨fun hh => hh.elim h1 h2, h3, h4⟩
    · rintro (⟨h1, h2⟩ | ⟨h1, h2, h3⟩)
      · by_cases hp : p = x
        · exact .inl ⟨hp, by rw [h2, hp]⟩
        · exact .inr ⟨hp, .inl ⟨h1.resolve_left hp, h2⟩⟩
      · exact .inr ⟨fun hp => h1 (.inl hp), .inr ⟨fun hp => h1 (.inr hp), h2, h3⟩⟩

theorem HMm.end {L M O : List K} {T : Tr} (h : HMm M O 0 T) (hm : ∀ p, p ∈ M ↔ p ∈ L) : HDd L O 0 T := h.iff fun p x => by
  rw [List.drop_zero, List.take_zero, hm]
  simp

theorem HDd.del {L O : List K} {j : Nat} {T : Tr} (h : HDd L O j T) (hW : WF top.x (top.x + top.s) T) {k : K} (hk : O[j]? = some k) (hok : k.Ok) (hno : k ∉ L) : HDd L O (j + 1) (delT T k) :=
  (Has.del h hW hok).iff fun p x => by
    rw [mem_snoc hk]
    constructor
    · rintro ⟨h1, (⟨h2, h3⟩ | ⟨h2, h3, h4, h5⟩)⟩
      · exact .inl ⟨h2, h3⟩
      · exact .inr ⟨h2, h3, fun hh => hh.elim h1 h4, h5⟩
    · rintro (⟨h1, h2⟩ | ⟨h1, h2, h3, h4⟩)
      · exact ⟨fun hp => hno (hp ▸ h1), .inl ⟨h1, h2⟩⟩
      · exact ⟨fun hp => h3 (.inl hp), .inr ⟨h1, h2, fun hp => h3 (.inr hp), h4⟩⟩

theorem HDd.skip {L O : List K} {j : Nat} {T : Tr} (h : HDd L O j T) {k : K} (hk : O[j]? = some k) (hyes : k ∈ L) : HDd L O (j + 1) T :=
  h.iff fun p x => by
    rw [mem_snoc hk]
    constructor
    · rintro (⟨h2, h3⟩ | ⟨h2, h3, h4, h5⟩)
      · exact .inl ⟨h2, h3⟩
      · exact .inr ⟨h2, h3, fun hh => hh.elim (fun hp => h2 (hp ▸ hyes)) h4, h5⟩
    · rintro (⟨h1, h2⟩ | ⟨h1, h2, h3, h4⟩)
      · exact .inl ⟨h1, h2⟩
      · exact .inr ⟨h1, h2, fun hp => h3 (.inr hp), h4⟩

theorem HDd.end {L O : List K} {T : Tr} (h : HDd L O O.length T) : Has T fun p x => p ∈ L ∧ x = fV p := h.iff fun p x => by
  rw [List.take_length]
  constructor
  · rintro (h1 | ⟨_, h2, h3, _⟩)
    · exact h1
    · exact absurd h2 h3
  · exact .inl

theorem HSs.end {L : List K} {S : Tr} (h : HSs L L.length S) : Has S fun p x => p ∈ L ∧ x = fV p := h.1.iff fun p x => by rw [List.take_length]

theorem last_mem {L : List K} {p : K} : (lastTo L p L.length < 0) ↔ p ∉ L := by
  have h2 := (lastTo_lt L p L.length).2
  constructor
  · intro h hp
    obtain ⟨i, hi, he⟩ := List.mem_iff_getElem.1 hp
    exact lastTo_of (n := L.length) hi (by rw [List.getElem?_eq_getElem hi, he]) (by omega)
  · intro h
    by_cases h1 : lastTo L p L.length = -1
    · omega
    · obtain ⟨i, _, _, hi⟩ := lastTo_mem h1
      exact absurd (List.mem_of_getElem? hi) h

theorem drew_below (w : World) : Below w.heap.size w w.drew := ⟨rfl, rfl, rfl, Nat.le_refl _, fun _ _ => rfl⟩

theorem orl_new {w w1 w2 : World} {vl vo : Value} {L O : List K} (hl : w1.ownsRow w.heap.size 32 2 vl L.length (kcs L)) (hb1 : Below w.heap.size w w1) (ho : w2.ownsRow w1.heap.size 32 2 vo O.length (kcs O)) (hb2 : Below w1.heap.size w1 w2) :
    Orl w vl vo w2.heap.size (w2.heap.size + 1) L O .nil .nil ((w2.alloc (.cells #[.pointer none] 77)).alloc (.cells #[.pointer none] 77)) := by
  have hb3 : Below w2.heap.size w2 ((w2.alloc (.cells #[.pointer none] 77)).alloc (.cells #[.pointer none] 77)) := ((Below.refl _ _).alloc (Nat.le_refl _) _).alloc (by simp) _
  have hl1 : ∀ b, vl.ownBlock = some b → b < w1.heap.size := fun b hb => by obtain ⟨_, cs, h⟩ := row_own hl hb; exact (Array.getElem?_eq_some_iff.1 h).1
  have ho1 : ∀ b, vo.ownBlock = some b → w1.heap.size ≤ b ∧ b < w2.heap.size := fun b hb => by obtain ⟨h1, cs, h⟩ := row_own ho hb; exact ⟨h1, (Array.getElem?_eq_some_iff.1 h).1⟩
  have s1 := hb1.size
  have s2 := hb2.size
  have hlt : ∀ b, OX vl w2.heap.size (w2.heap.size + 1) b → b < ((w2.alloc (.cells #[.pointer none] 77)).alloc (.cells #[.pointer none] 77)).heap.size := fun b hb => by
    simp
    rcases hb with hb | hb | hb
    · omega
    · omega
    · have := hl1 b hb; omega
  refine ⟨hb1.trans ((hb2.mono s1).trans (hb3.mono (by omega))), ⟨by omega, by omega⟩, by omega, ⟨.inl rfl, hlt, ⟨.nil, ?_, rfl, trivial⟩, trivial⟩, ⟨.inr (.inl rfl), hlt, ⟨.nil, ?_, rfl, trivial⟩, trivial⟩, ?_, ?_, fun b hb => by have := hl1 b hb; omega, fun b hb hx => ?_⟩
  · rw [Below.heap_alloc _ _ _ (by simp)]; exact heap_alloc_new w2 _
  · have h := heap_alloc_new (w2.alloc (.cells #[.pointer none] 77)) (.cells #[.pointer none] 77)
    rw [World.size_alloc] at h
    exact h
  · exact row_chg (X := fun _ => False) (row_chg (X := fun _ => False) hl (Chg.of_below hb2) (fun _ _ h => h)) (Chg.of_below hb3) (fun _ _ h => h)
  · exact row_base (row_chg (X := fun _ => False) ho (Chg.of_below hb3) (fun _ _ h => h)) s1
  · have h1 := ho1 b hb
    rcases hx with hx | hx | hx
    · omega
    · omega
    · have := hl1 b hx; omega

theorem Orl.store' {w W : World} {vo : Value} {sb tb g n cap : Nat} {M O : List K} {S T : Tr} (hn : M.length = n) (h : Orl w (.slice (some ⟨g, 0, none⟩) n cap) vo sb tb M O S T W) {i : Nat} (q : K) (hi : i < n) :
    Orl w (.slice (some ⟨g, 0, none⟩) n cap) vo sb tb (M.set i q) O S T ((W.setCell ⟨g, i * 2, none⟩ (.int .u32 (q.x : Int))).setCell ⟨g, i * 2 + 1, none⟩ (.int .i64 (q.n : Int))) := by
  subst hn
  have h1 := h.store q hi
  rw [List.length_set] at h1
  exact h1

theorem Orl.rowg {w W : World} {vo : Value} {ao : Option Addr} {sb tb n cap : Nat} {M O : List K} {S T : Tr} (hn : M.length = n) (h : Orl w (.slice ao n cap) vo sb tb M O S T W) (h0 : 0 < n) : ∃ g cur, ao = some ⟨g, 0, none⟩ ∧ W.heap[g]? = some (.cells cur 32) := by
  rcases h.rl.2 with ⟨hv, h1⟩ | ⟨g, cap', cur, hv, _, hg, _⟩
  · omega
  · simp at hv
    exact ⟨g, cur, hv.1, hg⟩

theorem Orl.rowq {w W : World} {vo : Value} {g sb tb n cap : Nat} {M O : List K} {S T : Tr} (h : Orl w (.slice (some ⟨g, 0, none⟩) n cap) vo sb tb M O S T W) : ∃ cur, W.heap[g]? = some (.cells cur 32) := by
  obtain ⟨_, cs, hc⟩ := row_own h.rl (b := g) rfl
  exact ⟨cs, hc⟩

theorem cell_next {W : World} {g i : Nat} {v c : Value} {cur : Array Value} {T : TypeId} (hg : W.heap[g]? = some (.cells cur T)) (h : W.cell? ⟨g, i + 1, none⟩ = some c) : (W.setCell ⟨g, i, none⟩ v).cell? ⟨g, i + 1, none⟩ = some c := by
  rw [cell_of_row _ _ _ _ _ _ hg] at h
  rw [cell_of_row _ _ _ _ _ _ (set_row hg)]
  rw [Array.getElem?_setIfInBounds_ne (by omega)]
  exact h

theorem row_shape {W : World} {base : Nat} {e : TypeId} {size n : Nat} {v : Value} {xs : List Value} (h : W.ownsRow base e size v n xs) : ∃ a c, v = .slice a n c ∧ n ≤ c ∧ c ≤ maxLen := by
  rcases h.2 with ⟨hv, hn⟩ | ⟨g, cap, cur, hv, _, _, h1, h2, _⟩
  · exact ⟨none, 0, by rw [hv, hn], by omega, by unfold maxLen; omega⟩
  · exact ⟨_, _, hv, h1, h2⟩

theorem nodes_bounds {lo hi : Nat} {t : Tr} (h : WF lo hi t) : (ents t).length ≤ nodes t ∧ (ents t = [] → nodes t = 0) ∧ (0 < (ents t).length → nodes t + 1 ≤ 2 * (ents t).length) := by
  have h1 := nodes_fk t
  have h2 := fk_le h
  refine ⟨by omega, fun he => ?_, fun hp => ?_⟩
  · have h0 : (ents t).length = 0 := by rw [he]; rfl
    rcases h2 with h2 | h2 <;> omega
  · rcases h2 with h2 | h2 <;> omega

theorem ris_at {E : List (K × Int)} (h : Ris E) {j : Nat} {a b : K × Int} (ha : E[j]? = some a) (hb : E[j + 1]? = some b) : gtK b.1 a.1 := by
  have h1 := (List.getElem?_eq_some_iff.1 ha)
  have h2 := (List.getElem?_eq_some_iff.1 hb)
  have hl : j + 1 < (E.map Prod.fst).length := by rw [List.length_map]; exact h2.1
  have := List.pairwise_iff_getElem.1 h j (j + 1) (by omega) hl (by omega)
  rw [List.getElem_map, List.getElem_map, h1.2, h2.2] at this
  exact this

theorem Orl.atL {w W : World} {vo : Value} {sb tb g n cap : Nat} {M O : List K} {S T : Tr} (hn : M.length = n) (h : Orl w (.slice (some ⟨g, 0, none⟩) n cap) vo sb tb M O S T W) {i : Nat} {x : K} (hx : M[i]? = some x) : W.cell? ⟨g, i * 2, none⟩ = some (.int .u32 (x.x : Int)) ∧ W.cell? ⟨g, i * 2 + 1, none⟩ = some (.int .i64 (x.n : Int)) := by
  have hi := (List.getElem?_eq_some_iff.1 hx).1
  have hxe := (List.getElem?_eq_some_iff.1 hx).2
  obtain ⟨g', off, p, hao, hg, c0, c1, HQ⟩ := h.seesL.at i (by omega)
  simp at hao
  obtain ⟨rfl, rfl⟩ := hao
  rw [Nat.zero_add] at c0 c1
  obtain ⟨k, hk, rfl⟩ := kp_at HQ.out
  rw [hx] at hk
  obtain rfl := Option.some.inj hk
  exact ⟨c0, c1⟩

end Go.Proofs.Ytmnafocmbcgdiaa
