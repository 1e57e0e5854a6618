import PyProof.Rows.All
import Wide.All
import OpenK.AllK
import Wide.FinOn
import PyProof.EqAt
import PyProof.EqKinds
import PyProof.TupleCall
import KE.KExcInit
import KE.KExcIs
import KE.KExcLine
import HandS.ForMost
import HandS.Exc
import HandS.ExcInit
import HandS.ExcValue
import HandS.Defaults
import HandS.IsInst
import KE.GoesEnum
import HandS.Iter
import HandS.Star
import HandS.ClsMeth
import HandS.CallLocal
import HandS.SetFor
import HandS.Property
import HandS.SortInts
import HandS.SortRule
import HandS.Comp
import HandS.Flow
import HandS.Conv
import HandS.Style
import PyProof.ReprLen
import PyProof.ReprRoads
import PyProof.ReprNest
import PyProof.ReprHeadsEmpty
import HandS.TupAny
import KE.KRevSl
import KE.KTryMore
import HandS.WordsExc
import HandS.Zip
import HandS.RaiseMore
import HandS.List
import PyProof.AutoSeq1
import HandS.More
import HandS.Lambda
import HandS.MakeKwOnly
import KE.RegKTryMore
import PySem.Challenge.RW_treetrain_k41_trains_run
set_option Elab.async false
set_option linter.all false
set_option maxRecDepth 100000
set_option maxHeartbeats 4000000
/-! Trees given by a list of pairs: n pairs of stations up to n that connect all of them with 0. -/
namespace TR
abbrev E2 := Nat × Nat
def mx (e : E2) : Nat := max e.1 e.2
def mn (e : E2) : Nat := min e.1 e.2
def Adj (tr : List E2) (a b : Nat) : Prop := (a, b) ∈ tr ∨ (b, a) ∈ tr
theorem Adj.sym {tr : List E2} {a b : Nat} (h : Adj tr a b) : Adj tr b a := Or.symm h
/-- k steps from 0 -/
def WN (tr : List E2) : Nat → Nat → Prop
  | 0, v => v = 0
  | k + 1, v => ∃ u, WN tr k u ∧ Adj tr u v
structure TreeL (tr : List E2) : Prop where
  ne : ∀ e ∈ tr, e.1 ≠ e.2
  le : ∀ e ∈ tr, e.1 ≤ tr.length ∧ e.2 ≤ tr.length
  co : ∀ v, v ≤ tr.length → ∃ k, WN tr k v
theorem ex_min {P : Nat → Prop} : ∀ k, P k → ∃ m, P m ∧ ∀ j, j < m → ¬ P j := by
  intro k
  induction k using Nat.strongRecOn with
  | ind k ih =>
    intro h
    by_cases c : ∃ j, j < k ∧ P j
    · obtain ⟨j, hj, hp⟩ := c
      exact ih j hj hp
    · exact ⟨k, h, fun j hj hp => c ⟨j, hj, hp⟩⟩
theorem wn_min {tr : List E2} {v : Nat} (h : ∃ k, WN tr k v) : ∃ m, WN tr m v ∧ ∀ j, j < m → ¬ WN tr j v := h.elim fun k hk => ex_min k hk
noncomputable def dep (tr : List E2) (v : Nat) : Nat := open Classical in if h : ∃ k, WN tr k v then (wn_min h).choose else 1
theorem mn_lt {e : E2} (h : e.1 ≠ e.2) : mn e < mx e := by
  unfold mn mx
  omega
theorem ends (e : E2) : (e.1 = mx e ∧ e.2 = mn e) ∨ (e.1 = mn e ∧ e.2 = mx e) := by
  unfold mn mx
  omega
theorem dep_spec {tr : List E2} {v : Nat} (h : ∃ k, WN tr k v) : WN tr (dep tr v) v ∧ ∀ j, j < dep tr v → ¬ WN tr j v := by
  unfold dep
  rw [dif_pos h]
  exact (wn_min h).choose_spec
theorem dep_min {tr : List E2} {v k : Nat} (h : WN tr k v) : dep tr v ≤ k := by
  refine Nat.le_of_not_lt fun z => ?_
  exact (dep_spec ⟨k, h⟩).2 k z h
theorem dep_zero {tr : List E2} : dep tr 0 = 0 := by
  have := dep_min (tr := tr) (v := 0) (k := 0) rfl
  omega
theorem dep_par {tr : List E2} {v : Nat} (h : ∃ k, WN tr k v) (hv : 0 < v) : ∃ u, Adj tr u v ∧ dep tr v = dep tr u + 1 := by
  obtain ⟨h1, h2⟩ := dep_spec h
  cases e : dep tr v with
  | zero =>
    rw [e] at h1
    have : v = 0 := h1
    omega
  | succ k =>
    rw [e] at h1
    obtain ⟨u, hu, ha⟩ := h1
    refine ⟨u, ha, ?_⟩
    have a1 := dep_min hu
    have a2 := dep_min (tr := tr) (v := v) (k := dep tr u + 1) ⟨u, (dep_spec ⟨k, hu⟩).1, ha⟩
    omega
noncomputable def par (tr : List E2) (v : Nat) : Nat := open Classical in if h : ∃ u, Adj tr u v ∧ dep tr v = dep tr u + 1 then h.choose else 0
theorem par_spec {tr : List E2} {v : Nat} (h : ∃ k, WN tr k v) (hv : 0 < v) : Adj tr (par tr v) v ∧ dep tr v = dep tr (par tr v) + 1 := by
  unfold par
  rw [dif_pos (dep_par h hv)]
  exact (dep_par h hv).choose_spec
/-- injective on a list, into as many: all are met -/
theorem hit_all {n : Nat} {f : Nat → Nat} (hf : ∀ v, 1 ≤ v → v ≤ n → f v < n) (inj : ∀ v w, 1 ≤ v → v ≤ n → 1 ≤ w → w ≤ n → f v = f w → v = w) {i : Nat} (hi : i < n) : ∃ v, 1 ≤ v ∧ v ≤ n ∧ f v = i := by
  have hn : ((List.range' 1 n).map f).Nodup := by
    have h0 : (List.range' 1 n).Nodup := List.nodup_range' (step := 1) (h := by decide)
    refine List.Pairwise.map f (R := fun a b => (1 ≤ a ∧ a ≤ n) ∧ (1 ≤ b ∧ b ≤ n) ∧ a ≠ b) (fun a b h => fun z => h.2.2 (inj a b h.1.1 h.1.2 h.2.1.1 h.2.1.2 z)) ?_
    refine List.Pairwise.imp_of_mem (R := fun a b => a ≠ b) (fun {a b} ha hb hab => ?_) h0
    rw [List.mem_range'] at ha hb
    obtain ⟨x, hx, rfl⟩ := ha
    obtain ⟨y, hy, rfl⟩ := hb
    exact ⟨⟨by omega, by omega⟩, ⟨by omega, by omega⟩, hab⟩
  have hs : (List.range' 1 n).map f ⊆ List.range n := by
    intro x hx
    obtain ⟨a, ha, rfl⟩ := List.mem_map.mp hx
    rw [List.mem_range'] at ha
    obtain ⟨j, hj, rfl⟩ := ha
    exact List.mem_range.mpr (hf _ (by omega) (by omega))
  by_cases c : i ∈ (List.range' 1 n).map f
  · obtain ⟨a, ha, e⟩ := List.mem_map.mp c
    rw [List.mem_range'] at ha
    obtain ⟨j, hj, rfl⟩ := ha
    exact ⟨_, by omega, by omega, e⟩
  · exfalso
    have h2 : (i :: (List.range' 1 n).map f).Nodup := List.nodup_cons.mpr ⟨c, hn⟩
    have h3 : (i :: (List.range' 1 n).map f) ⊆ List.range n := by
      intro x hx
      rcases List.mem_cons.mp hx with rfl | hx
      · exact List.mem_range.mpr hi
      · exact hs hx
    have := h2.length_le_of_subset h3
    simp at this
    omega
namespace TreeL
variable {tr : List E2}
theorem lt1 (T : TreeL tr) {e : E2} (h : e ∈ tr) : e.1 < tr.length + 1 ∧ e.2 < tr.length + 1 := by
  have := T.le e h
  omega
theorem adj_le (T : TreeL tr) {a b : Nat} (h : Adj tr a b) : a ≤ tr.length ∧ b ≤ tr.length := by
  rcases h with h | h
  · exact T.le _ h
  · exact (T.le _ h).symm
theorem par_le (T : TreeL tr) (y : Nat) : par tr y ≤ tr.length := by
  by_cases h : ∃ u, Adj tr u y ∧ dep tr y = dep tr u + 1
  · have e : par tr y = h.choose := by
      unfold par
      rw [dif_pos h]
    rw [e]
    exact (T.adj_le h.choose_spec.1).1
  · have e : par tr y = 0 := by
      unfold par
      rw [dif_neg h]
    omega
end TreeL
theorem dep_succ {tr : List E2} (T : TreeL tr) {y : Nat} (h : 0 < y) : dep tr y = dep tr (par tr y) + 1 := by
  by_cases c : ∃ k, WN tr k y
  · exact (par_spec c h).2
  · have e : par tr y = 0 := by
      unfold par
      rw [dif_neg]
      rintro ⟨u, hu, _⟩
      exact c (T.co y (T.adj_le hu).2)
    rw [e, dep_zero]
    unfold dep
    rw [dif_neg c]
theorem par_adj {tr : List E2} (T : TreeL tr) {y : Nat} (h : 0 < y) (hl : y ≤ tr.length) : Adj tr y (par tr y) := (par_spec (T.co y hl) h).1.sym
theorem par_dep {tr : List E2} (T : TreeL tr) {y : Nat} (h : 0 < y) : dep tr (par tr y) < dep tr y := by
  have := dep_succ T h
  omega
/-- each track is that of one station to its parent -/
theorem edge_of {tr : List E2} (T : TreeL tr) : ∃ f : Nat → Nat, (∀ v, 1 ≤ v → v ≤ tr.length → tr[f v]? = some (v, par tr v) ∨ tr[f v]? = some (par tr v, v)) ∧ (∀ i, i < tr.length → ∃ v, 1 ≤ v ∧ v ≤ tr.length ∧ f v = i) := by
  have key : ∀ v, ∃ i, 1 ≤ v → v ≤ tr.length → tr[i]? = some (v, par tr v) ∨ tr[i]? = some (par tr v, v) := fun v => by
    by_cases c : 1 ≤ v ∧ v ≤ tr.length
    · rcases par_adj T (y := v) c.1 c.2 with h | h
      · obtain ⟨i, hi⟩ := List.mem_iff_getElem?.mp h
        exact ⟨i, fun _ _ => .inl hi⟩
      · obtain ⟨i, hi⟩ := List.mem_iff_getElem?.mp h
        exact ⟨i, fun _ _ => .inr hi⟩
    · exact ⟨0, fun h1 h2 => absurd ⟨h1, h2⟩ c⟩
  refine ⟨fun v => (key v).choose, fun v h1 h2 => (key v).choose_spec h1 h2, ?_⟩
  have hk : ∀ v, 1 ≤ v → v ≤ tr.length → tr[(key v).choose]? = some (v, par tr v) ∨ tr[(key v).choose]? = some (par tr v, v) := fun v h1 h2 => (key v).choose_spec h1 h2
  intro i hi
  refine hit_all (fun v h1 h2 => ?_) (fun v w h1 h2 h3 h4 e => ?_) hi
  · rcases hk v h1 h2 with h | h
    · exact (List.getElem?_eq_some_iff.mp h).1
    · exact (List.getElem?_eq_some_iff.mp h).1
  · have hv := hk v h1 h2
    have hw := hk w h3 h4
    rw [e] at hv
    have d1 := par_dep T (y := v) h1
    have d2 := par_dep T (y := w) h3
    have cross : v = par tr w → par tr v = w → v = w := fun a b => by
      rw [← a] at d2
      rw [b] at d1
      omega
    rcases hv with hv | hv <;> rcases hw with hw | hw <;> rw [hv] at hw <;> have q := Option.some.inj hw
    · exact congrArg Prod.fst q
    · exact cross (congrArg Prod.fst q) (congrArg Prod.snd q)
    · exact cross (congrArg Prod.snd q) (congrArg Prod.fst q)
    · exact congrArg Prod.snd q
/-- the end of a track that is farther from 0, and the other one -/
noncomputable def ch (tr : List E2) (e : E2) : Nat := if dep tr e.1 < dep tr e.2 then e.2 else e.1
noncomputable def pa (tr : List E2) (e : E2) : Nat := if dep tr e.1 < dep tr e.2 then e.1 else e.2
theorem cp (tr : List E2) (e : E2) : (e.1 = ch tr e ∧ e.2 = pa tr e) ∨ (e.1 = pa tr e ∧ e.2 = ch tr e) := by
  unfold ch pa
  split
  · exact .inr ⟨rfl, rfl⟩
  · exact .inl ⟨rfl, rfl⟩
namespace TreeL
variable {tr : List E2}
theorem ch_bd (T : TreeL tr) {e : E2} (h : e ∈ tr) : 1 ≤ ch tr e ∧ ch tr e ≤ tr.length ∧ par tr (ch tr e) = pa tr e := by
  obtain ⟨f, h1, h2⟩ := edge_of T
  obtain ⟨i, hi⟩ := List.mem_iff_getElem?.mp h
  obtain ⟨v, v1, v2, rfl⟩ := h2 i (List.getElem?_eq_some_iff.mp hi).1
  have d := par_dep T (y := v) v1
  have hv := h1 v v1 v2
  rw [hi] at hv
  unfold ch pa
  rcases hv with hv | hv
  · have q := Option.some.inj hv
    subst q
    rw [if_neg (by simp only; omega), if_neg (by simp only; omega)]
    exact ⟨v1, v2, rfl⟩
  · have q := Option.some.inj hv
    subst q
    rw [if_pos (by simp only; omega), if_pos (by simp only; omega)]
    exact ⟨v1, v2, rfl⟩
theorem ch_inj (T : TreeL tr) {i j : Nat} {e d : E2} (hi : tr[i]? = some e) (hj : tr[j]? = some d) (h : ch tr e = ch tr d) : i = j := by
  obtain ⟨f, h1, h2⟩ := edge_of T
  have key : ∀ {i : Nat} {e : E2}, tr[i]? = some e → i = f (ch tr e) := fun {i e} hi => by
    obtain ⟨v, v1, v2, rfl⟩ := h2 i (List.getElem?_eq_some_iff.mp hi).1
    have d := par_dep T (y := v) v1
    have hv := h1 v v1 v2
    rw [hi] at hv
    have : ch tr e = v := by
      unfold ch
      rcases hv with hv | hv
      · have q := Option.some.inj hv
        subst q
        rw [if_neg (by simp only; omega)]
      · have q := Option.some.inj hv
        subst q
        rw [if_pos (by simp only; omega)]
    rw [this]
  rw [key hi, key hj, h]
theorem nd (T : TreeL tr) : (tr.map (ch tr)).Nodup := by
  refine List.pairwise_iff_getElem.mpr fun i j hi hj hij z => ?_
  rw [List.length_map] at hi hj
  rw [List.getElem_map, List.getElem_map] at z
  have := T.ch_inj (List.getElem?_eq_getElem hi) (List.getElem?_eq_getElem hj) z
  omega
end TreeL
theorem adj_par {tr : List E2} (T : TreeL tr) {v w : Nat} (h : Adj tr v w) : (0 < v ∧ w = par tr v ∧ v ≤ tr.length) ∨ (0 < w ∧ v = par tr w ∧ w ≤ tr.length) := by
  have key : ∀ e : E2, e ∈ tr → (0 < e.1 ∧ e.2 = par tr e.1 ∧ e.1 ≤ tr.length) ∨ (0 < e.2 ∧ e.1 = par tr e.2 ∧ e.2 ≤ tr.length) := fun e he => by
    obtain ⟨b1, b2, b3⟩ := T.ch_bd he
    rcases cp tr e with ⟨e1, e2⟩ | ⟨e1, e2⟩
    · exact .inl ⟨by omega, by rw [e1, b3, e2], by omega⟩
    · exact .inr ⟨by omega, by rw [e2, b3, e1], by omega⟩
  rcases h with h | h
  · exact key _ h
  · exact (key _ h).symm
/-- a lies behind y, or is it -/
inductive Desc (p : Nat → Nat) (y : Nat) : Nat → Prop
  | self : Desc p y y
  | up {a : Nat} (h : 0 < a) (d : Desc p y (p a)) : Desc p y a
theorem Desc.step {p : Nat → Nat} {y a : Nat} (h : 0 < a) (ne : a ≠ y) : Desc p y a ↔ Desc p y (p a) := by
  constructor
  · intro d
    cases d with
    | self => exact absurd rfl ne
    | up _ d => exact d
  · exact fun d => .up h d
theorem Desc.dep {tr : List E2} (T : TreeL tr) {y a : Nat} (d : Desc (par tr) y a) : TR.dep tr y ≤ TR.dep tr a := by
  induction d with
  | self => exact Nat.le_refl _
  | up h _ ih => exact Nat.le_trans ih (Nat.le_of_lt (par_dep T h))
/-- what the groups of stations say when the first i tracks are joined -/
def GI (tr : List E2) (i : Nat) (gs : List Nat) : Prop :=
  gs.length = tr.length + 1 ∧ ∀ j e, i ≤ j → tr[j]? = some e → ∀ a b x : Nat, gs[a]? = some x → gs[b]? = some x → (Desc (par tr) (ch tr e) a ↔ Desc (par tr) (ch tr e) b)
theorem GI.start (tr : List E2) : GI tr 0 (List.range (tr.length + 1)) := by
  refine ⟨by simp, fun j e _ _ a b x ha hb => ?_⟩
  have h1 : a = x := by
    have := List.getElem?_eq_some_iff.mp ha
    obtain ⟨_, q⟩ := this
    simpa using q
  have h2 : b = x := by
    have := List.getElem?_eq_some_iff.mp hb
    obtain ⟨_, q⟩ := this
    simpa using q
  rw [h1, h2]
theorem GI.ne {tr : List E2} (T : TreeL tr) {i : Nat} {gs : List Nat} (g : GI tr i gs) {e : E2} (he : tr[i]? = some e) {x y : Nat} (h1 : gs[e.1]? = some x) (h2 : gs[e.2]? = some y) : x ≠ y := by
  rintro rfl
  have hm := List.mem_of_getElem? he
  have q := g.2 i e (Nat.le_refl _) he e.1 e.2 x h1 h2
  obtain ⟨b1, b2, b3⟩ := T.ch_bd hm
  have no : ¬ Desc (par tr) (ch tr e) (pa tr e) := fun d => by
    have := Desc.dep T d
    have := par_dep T (y := ch tr e) b1
    rw [b3] at this
    omega
  rcases cp tr e with ⟨e1, e2⟩ | ⟨e1, e2⟩
  · rw [e2] at q
    rw [e1] at q
    exact no (q.mp .self)
  · rw [e1, e2] at q
    exact no (q.mpr .self)
def join (gs : List Nat) (x y : Nat) : List Nat := gs.map fun g => if g = y then x else g
theorem join_get {gs : List Nat} {x y c z : Nat} (h : (join gs x y)[c]? = some z) : ∃ u, gs[c]? = some u ∧ (if u = y then x else u) = z := by
  rw [join, List.getElem?_map] at h
  cases e0 : gs[c]? with
  | none =>
    rw [e0] at h
    cases h
  | some u =>
    rw [e0] at h
    exact ⟨u, rfl, Option.some.inj h⟩
theorem GI.next {tr : List E2} (T : TreeL tr) {i : Nat} {gs : List Nat} (g : GI tr i gs) {e : E2} (he : tr[i]? = some e) {x y : Nat} (h1 : gs[e.1]? = some x) (h2 : gs[e.2]? = some y) : GI tr (i + 1) (join gs x y) := by
  refine ⟨by rw [join, List.length_map]; exact g.1, fun j e' hj he' a b z ha hb => ?_⟩
  have hm := List.mem_of_getElem? he
  have old := g.2 j e' (by omega) he'
  obtain ⟨b1, b2, b3⟩ := T.ch_bd hm
  have ne : ch tr e ≠ ch tr e' := by
    intro q
    have := T.ch_inj he he' q
    omega
  have link : Desc (par tr) (ch tr e') e.1 ↔ Desc (par tr) (ch tr e') e.2 := by
    have s := Desc.step (p := par tr) (y := ch tr e') (a := ch tr e) (by omega) ne
    rw [b3] at s
    rcases cp tr e with ⟨e1, e2⟩ | ⟨e1, e2⟩
    · rw [e1, e2]
      exact s
    · rw [e1, e2]
      exact s.symm
  obtain ⟨u, gu, eu⟩ := join_get ha
  obtain ⟨v, gv, ev⟩ := join_get hb
  by_cases c1 : u = y
  · by_cases c2 : v = y
    · exact old a b y (c1 ▸ gu) (c2 ▸ gv)
    · rw [if_pos c1] at eu
      rw [if_neg c2] at ev
      have w1 := old a e.2 y (c1 ▸ gu) h2
      have w2 := old b e.1 x (by rw [gv, ev, eu]) h1
      exact w1.trans (link.symm.trans w2.symm)
  · by_cases c2 : v = y
    · rw [if_neg c1] at eu
      rw [if_pos c2] at ev
      have w1 := old b e.2 y (c2 ▸ gv) h2
      have w2 := old a e.1 x (by rw [gu, eu, ev]) h1
      exact w2.trans (link.trans w1.symm)
    · rw [if_neg c1] at eu
      rw [if_neg c2] at ev
      exact old a b z (by rw [gu, eu]) (by rw [gv, ev])
end TR
namespace TR
def bit (v : Nat) (e : E2) : List Nat := if e.1 = v then [e.2] else if e.2 = v then [e.1] else []
def rowOf (tr : List E2) (v : Nat) : List Nat := tr.flatMap (bit v)
def srt (l : List Nat) : List Nat := l.mergeSort (fun a b => decide (a ≤ b))
def nb (tr : List E2) (v : Nat) : List Nat := srt (rowOf tr v)
theorem srt_perm (l : List Nat) : (srt l).Perm l := List.mergeSort_perm l _
theorem srt_le (l : List Nat) : (srt l).Pairwise (· ≤ ·) := by
  have h := List.pairwise_mergeSort (le := fun a b : Nat => decide (a ≤ b)) (by intro a b c; simp only [decide_eq_true_eq]; omega) (by intro a b; simp only [Bool.or_eq_true, decide_eq_true_eq]; omega) l
  exact h.imp fun {a b} h => of_decide_eq_true h
theorem srt_of {l : List Nat} {ns : List Int} (hp : ns.Perm (l.map Int.ofNat)) (hs : ns.Pairwise (· ≤ ·)) : ns = (srt l).map Int.ofNat := by
  refine List.Perm.eq_of_pairwise (le := (· ≤ ·)) (fun a b _ _ h1 h2 => Int.le_antisymm h1 h2) hs ?_ (hp.trans ((srt_perm l).map _).symm)
  exact List.Pairwise.map _ (fun a b h => Int.ofNat_le.mpr h) (srt_le l)
theorem rowOf_snoc (tr : List E2) (e : E2) (v : Nat) : rowOf (tr ++ [e]) v = rowOf tr v ++ bit v e := by
  unfold rowOf
  rw [List.flatMap_append]
  simp
theorem rowOf_len (tr : List E2) (v : Nat) : (rowOf tr v).length ≤ tr.length := by
  induction tr with
  | nil => exact Nat.le_refl _
  | cons e r ih =>
    have : (rowOf (e :: r) v) = bit v e ++ rowOf r v := rfl
    rw [this, List.length_append, List.length_cons]
    have h1 : (bit v e).length ≤ 1 := by
      unfold bit
      split
      · exact Nat.le_refl _
      · split <;> simp
    omega
theorem mem_row {tr : List E2} (ne : ∀ e ∈ tr, e.1 ≠ e.2) {v w : Nat} : w ∈ rowOf tr v ↔ Adj tr v w := by
  unfold rowOf
  rw [List.mem_flatMap]
  constructor
  · rintro ⟨e, he, h⟩
    unfold bit at h
    split at h
    · next h1 =>
      rw [List.mem_singleton] at h
      exact .inl (by rw [← h1, h]; exact he)
    · split at h
      · next h2 =>
        rw [List.mem_singleton] at h
        exact .inr (by rw [← h2, h]; exact he)
      · cases h
  · rintro (h | h)
    · refine ⟨_, h, ?_⟩
      simp [bit]
    · refine ⟨_, h, ?_⟩
      have := ne _ h
      have h2 : ¬ w = v := this
      simp [bit, h2]
theorem mem_nb {tr : List E2} (ne : ∀ e ∈ tr, e.1 ≠ e.2) {v w : Nat} : w ∈ nb tr v ↔ Adj tr v w := by
  unfold nb
  rw [(srt_perm _).mem_iff]
  exact mem_row ne
theorem nb_len (tr : List E2) (v : Nat) : (nb tr v).length ≤ tr.length := by
  unfold nb
  rw [(srt_perm _).length_eq]
  exact rowOf_len tr v
end TR
namespace TR
noncomputable def p0 (tr : List E2) (v : Nat) : Nat := if v = 0 then 0 else par tr v
noncomputable def kids (tr : List E2) (v : Nat) : List Nat := (nb tr v).filter fun w => decide (w ≠ p0 tr v)
noncomputable def lay (tr : List E2) : Nat → List Nat
  | 0 => [0]
  | k + 1 => (lay tr k).flatMap (kids tr)
section
variable {tr : List E2}
/-- a list without repetition of numbers up to n has at most n + 1 items -/
theorem nd_len {n : Nat} {l : List Nat} (h : l.Nodup) (hb : ∀ x ∈ l, x ≤ n) : l.length ≤ n + 1 := by
  have hs : l ⊆ List.range (n + 1) := fun x hx => List.mem_range.mpr (by have := hb x hx; omega)
  have := h.length_le_of_subset hs
  simpa using this
theorem mem_kids (T : TreeL tr) {v w : Nat} : w ∈ kids tr v ↔ 0 < w ∧ par tr w = v ∧ w ≤ tr.length := by
  unfold kids
  rw [List.mem_filter, mem_nb T.ne]
  constructor
  · rintro ⟨h, hne⟩
    have hne := of_decide_eq_true hne
    rcases adj_par T h with ⟨h1, h2, h3⟩ | ⟨h1, h2, h3⟩
    · exfalso
      apply hne
      unfold p0
      rw [if_neg (by omega)]
      exact h2
    · exact ⟨h1, h2.symm, h3⟩
  · rintro ⟨h1, h2, h3⟩
    have ha := par_adj T h1 h3
    rw [h2] at ha
    refine ⟨ha.symm, decide_eq_true ?_⟩
    intro z
    have hlt := par_dep T h1
    rw [h2] at hlt
    unfold p0 at z
    by_cases c : v = 0
    · rw [if_pos c] at z
      omega
    · rw [if_neg c] at z
      have := par_dep T (y := v) (by omega)
      rw [← z] at this
      omega
theorem mem_lay (T : TreeL tr) : ∀ {k v : Nat}, v ∈ lay tr k ↔ v ≤ tr.length ∧ dep tr v = k
  | 0, v => by
    show v ∈ [0] ↔ _
    rw [List.mem_singleton]
    constructor
    · rintro rfl
      exact ⟨Nat.zero_le _, dep_zero⟩
    · rintro ⟨_, h⟩
      by_cases c : v = 0
      · exact c
      · rw [dep_succ T (by omega)] at h
        cases h
  | k + 1, v => by
    show v ∈ (lay tr k).flatMap (kids tr) ↔ _
    rw [List.mem_flatMap]
    constructor
    · rintro ⟨u, hu, hv⟩
      obtain ⟨h1, h2, h3⟩ := (mem_kids T).mp hv
      obtain ⟨_, h5⟩ := (mem_lay T).mp hu
      exact ⟨h3, by rw [dep_succ T h1, h2, h5]⟩
    · rintro ⟨h1, h2⟩
      have hv : 0 < v := by
        by_cases c : v = 0
        · subst c
          rw [dep_zero] at h2
          cases h2
        · omega
      rw [dep_succ T hv] at h2
      exact ⟨par tr v, (mem_lay T).mpr ⟨T.par_le v, by omega⟩, (mem_kids T).mpr ⟨hv, rfl, h1⟩⟩
/-- tracks that are different as pairs of ends -/
theorem row_nd0 : ∀ {tr : List E2}, (tr.map fun e => (mn e, mx e)).Nodup → (∀ e ∈ tr, e.1 ≠ e.2) → ∀ v, (rowOf tr v).Nodup
  | [], _, _, v => List.nodup_nil
  | e :: r, hn, ne, v => by
    rw [List.map_cons, List.nodup_cons] at hn
    show (bit v e ++ rowOf r v).Nodup
    have ne' : ∀ x ∈ r, x.1 ≠ x.2 := fun x hx => ne x (List.mem_cons_of_mem _ hx)
    rw [List.nodup_append]
    refine ⟨?_, row_nd0 hn.2 ne' v, ?_⟩
    · unfold bit
      split
      · simp
      · split <;> simp
    · rintro x hx y hy rfl
      apply hn.1
      have hy2 := (mem_row ne').mp hy
      have em : (mn e, mx e) = (mn (v, x), mx (v, x)) := by
        unfold bit at hx
        split at hx
        · next h1 =>
          rw [List.mem_singleton] at hx
          unfold mx mn
          rw [← h1, hx]
        · split at hx
          · next h2 =>
            rw [List.mem_singleton] at hx
            unfold mx mn
            rw [← h2, hx]
            show (min e.1 e.2, max e.1 e.2) = (min e.2 e.1, max e.2 e.1)
            rw [Nat.max_comm, Nat.min_comm]
          · cases hx
      rw [em]
      rcases hy2 with h | h
      · exact List.mem_map_of_mem (f := fun e => (mn e, mx e)) h
      · have := List.mem_map_of_mem (f := fun e => (mn e, mx e)) h
        have e2 : (mn (x, v), mx (x, v)) = (mn (v, x), mx (v, x)) := by
          show (min x v, max x v) = (min v x, max v x)
          rw [Nat.max_comm, Nat.min_comm]
        exact e2 ▸ this
theorem TreeL.nd2 (T : TreeL tr) : (tr.map fun e => (mn e, mx e)).Nodup := by
  refine List.pairwise_iff_getElem.mpr fun i j hi hj hij z => ?_
  rw [List.length_map] at hi hj
  rw [List.getElem_map, List.getElem_map] at z
  have h1 := List.getElem?_eq_getElem hi
  have h2 := List.getElem?_eq_getElem hj
  generalize tr[i] = e at h1 z
  generalize tr[j] = d at h2 z
  have z1 := congrArg Prod.fst z
  have z2 := congrArg Prod.snd z
  have z1 : mn e = mn d := z1
  have z2 : mx e = mx d := z2
  have : ch tr e = ch tr d := by
    have q : (e.1 = d.1 ∧ e.2 = d.2) ∨ (e.1 = d.2 ∧ e.2 = d.1) := by
      simp only [mn, mx] at z1 z2
      omega
    rcases q with ⟨a, b⟩ | ⟨a, b⟩
    · unfold ch
      rw [a, b]
    · unfold ch
      rw [a, b]
      have m := List.mem_of_getElem? h2
      obtain ⟨c1, c2, c3⟩ := T.ch_bd m
      have dd := par_dep T (y := ch tr d) c1
      rw [c3] at dd
      rcases cp tr d with ⟨x, y⟩ | ⟨x, y⟩
      · rw [← x, ← y] at dd
        rw [if_pos dd, if_neg (by omega)]
      · rw [← x, ← y] at dd
        rw [if_neg (by omega), if_pos dd]
  have := T.ch_inj h1 h2 this
  omega
theorem row_nd (T : TreeL tr) (v : Nat) : (rowOf tr v).Nodup := row_nd0 T.nd2 T.ne v
theorem nb_nd (T : TreeL tr) (v : Nat) : (nb tr v).Nodup := (srt_perm _).nodup_iff.mpr (row_nd T v)
theorem flat_nd (T : TreeL tr) : ∀ {l : List Nat}, l.Nodup → (l.flatMap (kids tr)).Nodup
  | [], _ => List.nodup_nil
  | a :: l, h => by
    rw [List.nodup_cons] at h
    show (kids tr a ++ l.flatMap (kids tr)).Nodup
    rw [List.nodup_append]
    refine ⟨(nb_nd T a).filter _, flat_nd T h.2, ?_⟩
    rintro x hx y hy rfl
    obtain ⟨u, hu, hy⟩ := List.mem_flatMap.mp hy
    have h1 := ((mem_kids T).mp hx).2.1
    have h2 := ((mem_kids T).mp hy).2.1
    exact h.1 (by rw [← h1, h2]; exact hu)
theorem lay_nd (T : TreeL tr) : ∀ k, (lay tr k).Nodup
  | 0 => by
    show [0].Nodup
    simp
  | k + 1 => flat_nd T (lay_nd T k)
theorem lay_len (T : TreeL tr) (k : Nat) : (lay tr k).length ≤ tr.length + 1 := nd_len (lay_nd T k) fun x hx => ((mem_lay T).mp hx).1
/-- the ancestors of a station are different: no depth is more than the number of tracks -/
theorem dep_le (T : TreeL tr) {y : Nat} (hy : y ≤ tr.length) : dep tr y ≤ tr.length := by
  have : ∀ m y, y ≤ tr.length → dep tr y = m → ∃ l : List Nat, l.Nodup ∧ l.length = m + 1 ∧ ∀ x ∈ l, x ≤ tr.length ∧ dep tr x ≤ m := by
    intro m
    induction m with
    | zero =>
      intro y hy e
      exact ⟨[y], by simp, rfl, fun x hx => by rw [List.mem_singleton] at hx; rw [hx]; exact ⟨hy, by omega⟩⟩
    | succ m ih =>
      intro y hy e
      have h0 : 0 < y := by
        by_cases c : y = 0
        · rw [c, dep_zero] at e
          cases e
        · omega
      have d := dep_succ T h0
      obtain ⟨l, h1, h2, h3⟩ := ih (par tr y) (T.par_le y) (by omega)
      refine ⟨y :: l, List.nodup_cons.mpr ⟨fun m => ?_, h1⟩, by rw [List.length_cons, h2], fun x hx => ?_⟩
      · have := (h3 y m).2
        omega
      · rcases List.mem_cons.mp hx with rfl | hx
        · exact ⟨hy, by omega⟩
        · have := h3 x hx
          exact ⟨this.1, by omega⟩
  obtain ⟨l, h1, h2, h3⟩ := this _ y hy rfl
  have := nd_len h1 fun x hx => (h3 x hx).1
  omega
/-- a layer without stations: none deeper either -/
theorem lay_none (T : TreeL tr) {k : Nat} (h : lay tr k = []) (m v : Nat) (_ : v ≤ m) (hv : v ≤ tr.length) : dep tr v < k := by
  have key : ∀ d v, v ≤ tr.length → dep tr v = d → d < k := by
    intro d
    induction d with
    | zero =>
      intro v hv e
      by_cases c : k = 0
      · exfalso
        subst c
        cases h
      · omega
    | succ d ih =>
      intro v hv e
      have h0 : 0 < v := by
        by_cases c : v = 0
        · rw [c, dep_zero] at e
          cases e
        · omega
      have ds := dep_succ T h0
      have := ih (par tr v) (T.par_le v) (by omega)
      by_cases c2 : d + 1 = k
      · exfalso
        have : v ∈ lay tr k := (mem_lay T).mpr ⟨hv, by omega⟩
        rw [h] at this
        cases this
      · omega
  exact key _ v hv rfl
theorem lay_lt (T : TreeL tr) {k : Nat} (h : lay tr k ≠ []) : k ≤ tr.length := by
  obtain ⟨v, hv⟩ := List.exists_mem_of_ne_nil _ h
  obtain ⟨h1, h2⟩ := (mem_lay T).mp hv
  have := dep_le T h1
  omega
end
end TR
namespace TR
/-- tr2: the same tracks, each with the smaller end first, in some order -/
structure Norm (tr tr2 : List E2) : Prop where
  pm : tr2.Perm (tr.map fun e => (mn e, mx e))
namespace Norm
variable {tr tr2 : List E2}
theorem len (n : Norm tr tr2) : tr2.length = tr.length := by rw [n.pm.length_eq, List.length_map]
theorem adj (n : Norm tr tr2) {a b : Nat} : Adj tr2 a b ↔ Adj tr a b := by
  have key : ∀ {x y : Nat}, (x, y) ∈ tr2 → Adj tr x y := fun {x y} h => by
    have h2 := n.pm.mem_iff.mp h
    obtain ⟨e, he, q⟩ := List.mem_map.mp h2
    have q1 : mn e = x := congrArg Prod.fst q
    have q2 : mx e = y := congrArg Prod.snd q
    rcases ends e with ⟨e1, e2⟩ | ⟨e1, e2⟩
    · exact .inr (by rw [← q1, ← q2, ← e1, ← e2]; exact he)
    · exact .inl (by rw [← q1, ← q2, ← e1, ← e2]; exact he)
  have back : ∀ {x y : Nat}, (x, y) ∈ tr → Adj tr2 x y := fun {x y} h => by
    have h2 : (mn (x, y), mx (x, y)) ∈ tr2 := n.pm.mem_iff.mpr (List.mem_map.mpr ⟨_, h, rfl⟩)
    rcases ends (x, y) with ⟨e1, e2⟩ | ⟨e1, e2⟩
    · have e1 : x = mx (x, y) := e1
      have e2 : y = mn (x, y) := e2
      exact .inr (by rw [← e1, ← e2] at h2; exact h2)
    · have e1 : x = mn (x, y) := e1
      have e2 : y = mx (x, y) := e2
      exact .inl (by rw [← e1, ← e2] at h2; exact h2)
  constructor
  · rintro (h | h)
    · exact key h
    · exact (key h).symm
  · rintro (h | h)
    · exact back h
    · exact (back h).symm
theorem wn (n : Norm tr tr2) : ∀ {k v : Nat}, WN tr k v → WN tr2 k v
  | 0, _, h => h
  | _ + 1, _, ⟨u, h, a⟩ => ⟨u, n.wn h, n.adj.mpr a⟩
theorem tree (n : Norm tr tr2) (T : TreeL tr) : TreeL tr2 := by
  have key : ∀ e ∈ tr2, ∃ d ∈ tr, e = (mn d, mx d) := fun e he => by
    obtain ⟨d, hd, q⟩ := List.mem_map.mp (n.pm.mem_iff.mp he)
    exact ⟨d, hd, q.symm⟩
  refine ⟨fun e he => ?_, fun e he => ?_, fun v hv => ?_⟩
  · obtain ⟨d, hd, rfl⟩ := key e he
    have := mn_lt (T.ne d hd)
    show mn d ≠ mx d
    omega
  · obtain ⟨d, hd, rfl⟩ := key e he
    have := T.le d hd
    rw [n.len]
    show mn d ≤ _ ∧ mx d ≤ _
    unfold mn mx
    omega
  · rw [n.len] at hv
    obtain ⟨k, h⟩ := T.co v hv
    exact ⟨k, n.wn h⟩
end Norm
theorem idxOf_get {l : List Nat} (nd : l.Nodup) {i p : Nat} (h : l[i]? = some p) : l.idxOf p = i := by
  have hm := List.mem_of_getElem? h
  have hl := List.idxOf_lt_length_of_mem hm
  have h2 : l[l.idxOf p]? = some p := by
    rw [List.getElem?_eq_getElem hl]
    exact congrArg some (List.getElem_idxOf hl)
  exact (List.getElem?_inj hl nd).mp (h2.trans h.symm)
end TR
namespace TR
section
variable {tr : List E2}
/-- a walk along tracks -/
def Wk (tr : List E2) : List Nat → Prop
  | a :: b :: r => Adj tr a b ∧ Wk tr (b :: r)
  | _ => True
theorem Wk.tail {a : Nat} {l : List Nat} (h : Wk tr (a :: l)) : Wk tr l := by
  cases l with
  | nil => exact trivial
  | cons b r => exact h.2
theorem Wk.snoc : ∀ {l : List Nat} {x y : Nat}, Wk tr (l ++ [x]) → Adj tr x y → Wk tr (l ++ [x] ++ [y])
  | [], x, y, _, h => ⟨h, trivial⟩
  | [a], x, y, h, k => ⟨h.1, k, trivial⟩
  | a :: b :: r, x, y, h, k => ⟨h.1, Wk.snoc (l := b :: r) h.2 k⟩
theorem Wk.glue : ∀ {l r : List Nat} {x : Nat}, Wk tr (l ++ [x]) → Wk tr (x :: r) → Wk tr (l ++ x :: r)
  | [], r, x, _, h => h
  | [a], r, x, h, k => ⟨h.1, k⟩
  | a :: b :: l, r, x, h, k => ⟨h.1, Wk.glue (l := b :: l) h.2 k⟩
theorem Wk.rev : ∀ {l : List Nat}, Wk tr l → Wk tr l.reverse
  | [], _ => trivial
  | [a], _ => trivial
  | a :: b :: r, h => by
    have ih := Wk.rev (l := b :: r) h.2
    rw [List.reverse_cons, List.reverse_cons]
    rw [List.reverse_cons] at ih
    exact Wk.snoc ih h.1.sym
structure SW (tr : List E2) (a b : Nat) (l : List Nat) : Prop where
  wk : Wk tr l
  nd : l.Nodup
  hd : l.head? = some a
  lt : l.getLast? = some b
theorem SW.one (a : Nat) : SW tr a a [a] := ⟨trivial, by simp, rfl, rfl⟩
theorem SW.mem {a b : Nat} {l : List Nat} (s : SW tr a b l) : b ∈ l := List.mem_of_getLast? s.lt
theorem SW.snoc {a b c : Nat} {l : List Nat} (s : SW tr a b l) (h : Adj tr b c) (hn : c ∉ l) : SW tr a c (l ++ [c]) := by
  obtain ⟨wk, nd, hd, lt⟩ := s
  have hne : l ≠ [] := by rintro rfl; cases hd
  obtain ⟨l', e⟩ : ∃ l', l = l' ++ [b] := by
    rw [List.getLast?_eq_some_iff] at lt
    exact lt
  refine ⟨?_, ?_, ?_, by simp⟩
  · rw [e] at wk ⊢
    exact wk.snoc h
  · rw [List.nodup_append]
    refine ⟨nd, by simp, fun x hx y hy => ?_⟩
    rw [List.mem_singleton] at hy
    rintro rfl
    exact hn (hy ▸ hx)
  · rw [List.head?_append, hd]
    rfl
theorem desc_lin {p : Nat → Nat} {x y b : Nat} (h : Desc p x b) (k : Desc p y b) : Desc p x y ∨ Desc p y x := by
  induction h with
  | self => exact .inr k
  | @up b hb d ih =>
    cases k with
    | self => exact .inl (.up hb d)
    | up _ k => exact ih k
theorem desc_tr {p : Nat → Nat} {a x b : Nat} (hx : 0 < x) (e : p x = a) (h : Desc p x b) : Desc p a b := by
  induction h with
  | self => exact .up hx (e ▸ .self)
  | up hb _ ih => exact .up hb ih
theorem sib (T : TreeL tr) {x y b : Nat} (hx : 0 < x) (hy : 0 < y) (e : par tr x = par tr y) (h : Desc (par tr) x b) (k : Desc (par tr) y b) : x = y := by
  have key : ∀ {x y : Nat}, 0 < x → 0 < y → par tr x = par tr y → Desc (par tr) x y → x = y := fun {x y} hx hy e d => by
    by_cases c : y = x
    · exact c.symm
    · have d2 := (Desc.step hy c).mp d
      rw [← e] at d2
      have := Desc.dep T d2
      have := par_dep T hx
      omega
  rcases desc_lin h k with d | d
  · exact key hx hy e d
  · exact (key hy hx e.symm d).symm
theorem walk_out (T : TreeL tr) {a : Nat} : ∀ {l : List Nat} {x : Nat}, Wk tr (x :: l) → a ∉ x :: l → ¬ Desc (par tr) a x → ∀ z ∈ x :: l, ¬ Desc (par tr) a z
  | [], x, _, _, h, z, hz => by
    rw [List.mem_singleton] at hz
    rw [hz]
    exact h
  | y :: l, x, w, na, h, z, hz => by
    rcases List.mem_cons.mp hz with rfl | hz
    · exact h
    · refine walk_out T (x := y) w.2 (fun m => na (List.mem_cons_of_mem _ m)) ?_ z hz
      have nya : y ≠ a := fun e => na (by simp [e])
      intro d
      rcases adj_par T w.1 with ⟨h1, h2, _⟩ | ⟨h1, h2, _⟩
      · exact h (.up h1 (h2 ▸ d))
      · exact h (h2 ▸ (Desc.step h1 nya).mp d)
theorem walk_in (T : TreeL tr) {c : Nat} : ∀ {l : List Nat} {x : Nat}, Wk tr (x :: l) → par tr c ∉ x :: l → Desc (par tr) c x → ∀ z ∈ x :: l, Desc (par tr) c z
  | [], x, _, _, h, z, hz => by
    rw [List.mem_singleton] at hz
    rw [hz]
    exact h
  | y :: l, x, w, na, h, z, hz => by
    rcases List.mem_cons.mp hz with rfl | hz
    · exact h
    · refine walk_in T (x := y) w.2 (fun m => na (List.mem_cons_of_mem _ m)) ?_ z hz
      rcases adj_par T w.1 with ⟨h1, h2, _⟩ | ⟨h1, h2, _⟩
      · by_cases e : x = c
        · exfalso
          apply na
          rw [← e, ← h2]
          simp
        · rw [h2]
          exact (Desc.step h1 e).mp h
      · exact .up h1 (h2 ▸ h)
/-- between two stations there is one walk without repetition -/
theorem SW.uniq (T : TreeL tr) {b : Nat} : ∀ {l l' : List Nat} {a : Nat}, SW tr a b l → SW tr a b l' → l = l'
  | [], _, _, s, _ => by cases s.hd
  | _, [], _, _, s => by cases s.hd
  | a0 :: t, a1 :: t', a, s, s' => by
    have e0 : a0 = a := Option.some.inj s.hd
    have e1 : a1 = a := Option.some.inj s'.hd
    subst e0 e1
    have one : ∀ {t : List Nat}, SW tr a1 b (a1 :: t) → a1 = b → t = [] := fun {t} s e => by
      cases t with
      | nil => rfl
      | cons x r =>
        exfalso
        have hb : b ∈ x :: r := by
          have := s.lt
          rw [List.getLast?_cons_cons] at this
          exact List.mem_of_getLast? this
        rw [← e] at hb
        exact (List.nodup_cons.mp s.nd).1 hb
    by_cases c : a1 = b
    · rw [one s c, one s' c]
    · cases t with
      | nil => exact absurd (Option.some.inj s.lt) c
      | cons x r =>
        cases t' with
        | nil => exact absurd (Option.some.inj s'.lt) c
        | cons x' r' =>
          have sub : ∀ {x : Nat} {r : List Nat}, SW tr a1 b (a1 :: x :: r) → SW tr x b (x :: r) ∧ a1 ∉ x :: r ∧ Adj tr a1 x := fun {x r} s =>
            ⟨⟨s.wk.2, (List.nodup_cons.mp s.nd).2, rfl, by have := s.lt; rw [List.getLast?_cons_cons] at this; exact this⟩, (List.nodup_cons.mp s.nd).1, s.wk.1⟩
          obtain ⟨s1, n1, j1⟩ := sub s
          obtain ⟨s2, n2, j2⟩ := sub s'
          have out : ∀ {x : Nat} {r : List Nat}, SW tr x b (x :: r) → a1 ∉ x :: r → 0 < a1 → x = par tr a1 → ¬ Desc (par tr) a1 b := fun {x r} s n h e => by
            refine walk_out T s.wk n ?_ b s.mem
            intro d
            rw [e] at d
            have := Desc.dep T d
            have := par_dep T h
            omega
          have inn : ∀ {x : Nat} {r : List Nat}, SW tr x b (x :: r) → a1 ∉ x :: r → a1 = par tr x → Desc (par tr) x b := fun {x r} s n e => walk_in T s.wk (e ▸ n) .self b s.mem
          have exx : x = x' := by
            rcases adj_par T j1 with ⟨h1, h2, _⟩ | ⟨h1, h2, _⟩
            · rcases adj_par T j2 with ⟨k1, k2, _⟩ | ⟨k1, k2, _⟩
              · rw [h2, k2]
              · exact absurd (desc_tr k1 k2.symm (inn s2 n2 k2)) (out s1 n1 h1 h2)
            · rcases adj_par T j2 with ⟨k1, k2, _⟩ | ⟨k1, k2, _⟩
              · exact absurd (desc_tr h1 h2.symm (inn s1 n1 h2)) (out s2 n2 k1 k2)
              · exact sib T h1 k1 (h2.symm.trans k2) (inn s1 n1 h2) (inn s2 n2 k2)
          subst exx
          rw [SW.uniq T s1 s2]
end
end TR
namespace TR
section
variable {tr : List E2}
/-- two ways up, from a and from b, at x and y -/
structure Clb (tr : List E2) (a b x y : Nat) (F B : List Nat) : Prop where
  wf : Wk tr (F ++ [x])
  wb : Wk tr (B ++ [y])
  hf : (F ++ [x]).head? = some a
  hb : (B ++ [y]).head? = some b
  nf : (F ++ [x]).Nodup
  nb : (B ++ [y]).Nodup
  k1 : ∀ z ∈ F, z ∉ B ++ [y]
  k2 : ∀ w ∈ B, w ∉ F ++ [x]
  k3 : ∀ w ∈ B, dep tr x ≤ dep tr w
  k4 : ∀ z ∈ F, dep tr y < dep tr z
  fx : ∀ z ∈ F, dep tr x < dep tr z
  by_ : ∀ w ∈ B, dep tr y < dep tr w
  lx : x ≤ tr.length
  ly : y ≤ tr.length
  lf : ∀ z ∈ F, z ≤ tr.length
  lb : ∀ z ∈ B, z ≤ tr.length
theorem Clb.start {a b : Nat} (ha : a ≤ tr.length) (hb : b ≤ tr.length) : Clb tr a b a b [] [] :=
  ⟨trivial, trivial, rfl, rfl, by simp, by simp, (fun _ h => nomatch h), (fun _ h => nomatch h), (fun _ h => nomatch h), (fun _ h => nomatch h), (fun _ h => nomatch h), (fun _ h => nomatch h), ha, hb, (fun _ h => nomatch h), (fun _ h => nomatch h)⟩
theorem head_app {l : List Nat} {x y a : Nat} (h : (l ++ [x]).head? = some a) : (l ++ [x] ++ [y]).head? = some a := by
  rw [List.head?_append, h]
  rfl
theorem nd_snoc {l : List Nat} {x : Nat} (h : l.Nodup) (hx : x ∉ l) : (l ++ [x]).Nodup := by
  rw [List.nodup_append]
  refine ⟨h, by simp, fun u hu v hv => ?_⟩
  rw [List.mem_singleton] at hv
  rintro rfl
  exact hx (hv ▸ hu)
theorem mem_snoc {l : List Nat} {x z : Nat} : z ∈ l ++ [x] ↔ z ∈ l ∨ z = x := by simp
theorem Clb.up1 (T : TreeL tr) {a b x y : Nat} {F B : List Nat} (c : Clb tr a b x y F B) (ne : x ≠ y) (h : dep tr y < dep tr x) : 0 < x ∧ dep tr (par tr x) < dep tr x ∧ Clb tr a b (par tr x) y (F ++ [x]) B := by
  have hx : 0 < x := by
    by_cases z : x = 0
    · rw [z, dep_zero] at h
      omega
    · omega
  have ds := dep_succ T hx
  refine ⟨hx, by omega, c.wf.snoc (par_adj T hx c.lx), c.wb, head_app c.hf, c.hb, nd_snoc c.nf ?_, c.nb, ?_, ?_, ?_, ?_, ?_, c.by_, T.par_le x, c.ly, ?_, c.lb⟩
  · intro m
    rcases mem_snoc.mp m with m | m
    · have := c.fx _ m
      omega
    · rw [m] at ds
      omega
  · intro z hz
    rcases mem_snoc.mp hz with hz | rfl
    · exact c.k1 z hz
    · intro m
      rcases mem_snoc.mp m with m | m
      · exact c.k2 z m (by simp)
      · exact ne m
  · intro w hw m
    rcases mem_snoc.mp m with m | m
    · exact c.k2 w hw m
    · have := c.k3 w hw
      rw [m] at this
      omega
  · intro w hw
    have := c.k3 w hw
    omega
  · intro z hz
    rcases mem_snoc.mp hz with hz | rfl
    · exact c.k4 z hz
    · exact h
  · intro z hz
    rcases mem_snoc.mp hz with hz | rfl
    · have := c.fx z hz
      omega
    · omega
  · intro z hz
    rcases mem_snoc.mp hz with hz | rfl
    · exact c.lf z hz
    · exact c.lx
theorem Clb.up2 (T : TreeL tr) {a b x y : Nat} {F B : List Nat} (c : Clb tr a b x y F B) (ne : x ≠ y) (h : ¬ dep tr y < dep tr x) : 0 < y ∧ dep tr (par tr y) < dep tr y ∧ Clb tr a b x (par tr y) F (B ++ [y]) := by
  have hy : 0 < y := by
    by_cases z : y = 0
    · exfalso
      subst z
      rw [dep_zero] at h
      have : 0 < x := by omega
      rw [dep_succ T this] at h
      omega
    · omega
  have ds := dep_succ T hy
  refine ⟨hy, by omega, c.wf, c.wb.snoc (par_adj T hy c.ly), c.hf, head_app c.hb, c.nf, nd_snoc c.nb ?_, ?_, ?_, ?_, ?_, c.fx, ?_, c.lx, T.par_le y, c.lf, ?_⟩
  · intro m
    rcases mem_snoc.mp m with m | m
    · have := c.by_ _ m
      omega
    · rw [m] at ds
      omega
  · intro z hz m
    rcases mem_snoc.mp m with m | m
    · exact c.k1 z hz m
    · have := c.k4 z hz
      rw [m] at this
      omega
  · intro w hw
    rcases mem_snoc.mp hw with hw | rfl
    · exact c.k2 w hw
    · intro m
      rcases mem_snoc.mp m with m | m
      · exact c.k1 w m (by simp)
      · exact ne m.symm
  · intro w hw
    rcases mem_snoc.mp hw with hw | rfl
    · exact c.k3 w hw
    · omega
  · intro z hz
    have := c.k4 z hz
    omega
  · intro w hw
    rcases mem_snoc.mp hw with hw | rfl
    · have := c.by_ w hw
      omega
    · omega
  · intro z hz
    rcases mem_snoc.mp hz with hz | rfl
    · exact c.lb z hz
    · exact c.ly
theorem Clb.done {a b x : Nat} {F B : List Nat} (c : Clb tr a b x x F B) : SW tr a b (F ++ [x] ++ B.reverse) := by
  have hr : Wk tr (x :: B.reverse) := by
    have := c.wb.rev
    rw [List.reverse_append] at this
    exact this
  refine ⟨?_, ?_, ?_, ?_⟩
  · rw [List.append_assoc]
    exact c.wf.glue hr
  · rw [List.nodup_append]
    refine ⟨c.nf, ?_, fun u hu v hv => ?_⟩
    · exact (List.reverse_perm B).nodup_iff.mpr (List.nodup_append.mp c.nb).1
    · rintro rfl
      exact c.k2 u (List.mem_reverse.mp hv) hu
  · rw [List.head?_append, c.hf]
    rfl
  · cases B with
    | nil =>
      have e : x = b := Option.some.inj c.hb
      rw [e]
      simp
    | cons w r =>
      have e : w = b := Option.some.inj c.hb
      rw [List.getLast?_append, List.getLast?_reverse, e]
      rfl
end
end TR
namespace TR
section
variable {tr : List E2}
/-- the search's state: found, still to be looked at -/
structure Bf (tr : List E2) (st : Nat) (xs qs : List Nat) : Prop where
  st_ : st ∈ xs
  nd : xs.Nodup
  le : ∀ x ∈ xs, x ≤ tr.length
  sub : ∀ q ∈ qs, q ∈ xs
  cl : ∀ x ∈ xs, x ∉ qs → ∀ y, Adj tr x y → y ∈ xs
theorem Bf.start {st : Nat} (h : st ≤ tr.length) : Bf tr st [st] [st] :=
  ⟨by simp, by simp, fun x hx => by rw [List.mem_singleton] at hx; omega, fun q hq => hq, fun x hx hn => absurd hx hn⟩
/-- one station is being looked at, j of its neighbours have been -/
structure Bg (tr : List E2) (st sp j : Nat) (xs qs : List Nat) : Prop where
  st_ : st ∈ xs
  nd : xs.Nodup
  le : ∀ x ∈ xs, x ≤ tr.length
  sub : ∀ q ∈ qs, q ∈ xs
  cl : ∀ x ∈ xs, x ∉ qs → x ≠ sp → ∀ y, Adj tr x y → y ∈ xs
  sp_ : sp ∈ xs
  dn : ∀ y ∈ (nb tr sp).take j, y ∈ xs
theorem Bg.skip {st sp j y : Nat} {xs qs : List Nat} (b : Bg tr st sp j xs qs) (hy : (nb tr sp)[j]? = some y) (h : y ∈ xs) : Bg tr st sp (j + 1) xs qs := by
  refine ⟨b.st_, b.nd, b.le, b.sub, b.cl, b.sp_, fun z hz => ?_⟩
  rw [List.take_succ, hy] at hz
  rcases List.mem_append.mp hz with hz | hz
  · exact b.dn z hz
  · have : z = y := by simpa using hz
    rw [this]
    exact h
theorem Bg.add (T : TreeL tr) {st sp j y : Nat} {xs qs : List Nat} (b : Bg tr st sp j xs qs) (hy : (nb tr sp)[j]? = some y) (h : y ∉ xs) : Bg tr st sp (j + 1) (xs ++ [y]) (qs ++ [y]) := by
  have ha : Adj tr sp y := (mem_nb T.ne).mp (List.mem_of_getElem? hy)
  have hl : y ≤ tr.length := by
    exact (T.adj_le ha).2
  refine ⟨List.mem_append_left _ b.st_, nd_snoc b.nd h, fun x hx => ?_, fun q hq => ?_, fun x hx hn ne z hz => ?_, List.mem_append_left _ b.sp_, fun z hz => ?_⟩
  · rcases mem_snoc.mp hx with hx | rfl
    · exact b.le x hx
    · exact hl
  · rcases mem_snoc.mp hq with hq | rfl
    · exact List.mem_append_left _ (b.sub q hq)
    · simp
  · rcases mem_snoc.mp hx with hx | rfl
    · exact List.mem_append_left _ (b.cl x hx (fun m => hn (List.mem_append_left _ m)) ne z hz)
    · exact absurd (by simp) hn
  · rw [List.take_succ, hy] at hz
    rcases List.mem_append.mp hz with hz | hz
    · exact List.mem_append_left _ (b.dn z hz)
    · have : z = y := by simpa using hz
      rw [this]
      simp
theorem Bg.back (T : TreeL tr) {st sp : Nat} {xs qs : List Nat} (b : Bg tr st sp (nb tr sp).length xs qs) : Bf tr st xs qs := by
  refine ⟨b.st_, b.nd, b.le, b.sub, fun x hx hn y hy => ?_⟩
  by_cases c : x = sp
  · subst c
    apply b.dn
    rw [List.take_length]
    exact (mem_nb T.ne).mpr hy
  · exact b.cl x hx hn c y hy
theorem Bf.all (T : TreeL tr) {st : Nat} {xs : List Nat} (b : Bf tr st xs []) : ∀ x, x ≤ tr.length → x ∈ xs := by
  have cl : ∀ x ∈ xs, ∀ y, Adj tr x y → y ∈ xs := fun x hx => b.cl x hx (by simp)
  have up : ∀ (k x : Nat), dep tr x ≤ k → x ∈ xs → 0 ∈ xs := by
    intro k
    induction k with
    | zero =>
      intro x hx h
      by_cases c : x = 0
      · rw [← c]
        exact h
      · have := dep_succ T (y := x) (by omega)
        omega
    | succ k ih =>
      intro x hx h
      by_cases c : x = 0
      · rw [← c]
        exact h
      · have hlt := dep_succ T (y := x) (by omega)
        exact ih (par tr x) (by omega) (cl x h _ (par_adj T (by omega) (b.le x h)))
  have h0 := up _ st (Nat.le_refl _) b.st_
  have dn : ∀ (k x : Nat), dep tr x ≤ k → x ≤ tr.length → x ∈ xs := by
    intro k
    induction k with
    | zero =>
      intro x hx _
      by_cases c : x = 0
      · rw [c]
        exact h0
      · have := dep_succ T (y := x) (by omega)
        omega
    | succ k ih =>
      intro x hx hl
      by_cases c : x = 0
      · rw [c]
        exact h0
      · have hlt := dep_succ T (y := x) (by omega)
        exact cl _ (ih (par tr x) (by omega) (T.par_le x)) _ (par_adj T (by omega) hl).sym
  exact fun x hx => dn _ x (Nat.le_refl _) hx
theorem Bf.len {st : Nat} {xs qs : List Nat} (b : Bf tr st xs qs) : xs.length ≤ tr.length + 1 := nd_len b.nd b.le
theorem Bg.len {st sp j : Nat} {xs qs : List Nat} (b : Bg tr st sp j xs qs) : xs.length ≤ tr.length + 1 := nd_len b.nd b.le
end
end TR
namespace TR
section
variable {tr : List E2}
/-- the stations of a layer, each with where it was entered from -/
def nxt (tr : List E2) (x : Nat × Option Nat) : List (Nat × Option Nat) := ((nb tr x.1).filter fun w => decide (some w ≠ x.2)).map fun w => (w, some x.1)
def lyr (tr : List E2) (s : Nat) (b : Option Nat) : Nat → List (Nat × Option Nat)
  | 0 => [(s, b)]
  | k + 1 => (lyr tr s b k).flatMap (nxt tr)
noncomputable def ms (tr : List E2) (x : Nat × Option Nat) : Nat := if 0 < x.1 ∧ x.2 = some (par tr x.1) then tr.length + 1 - dep tr x.1 else tr.length + 1 + dep tr x.1
/-- a part of a walk without repetition -/
theorem SW.part {a b : Nat} {l r : List Nat} {w : Nat} (s : SW tr a b (l ++ w :: r)) : SW tr w b (w :: r) := by
  refine ⟨?_, (List.nodup_append.mp s.nd).2.1, rfl, ?_⟩
  · have : ∀ {l : List Nat}, Wk tr (l ++ w :: r) → Wk tr (w :: r) := by
      intro l
      induction l with
      | nil => exact fun h => h
      | cons c l ih => exact fun h => ih h.tail
    exact this s.wk
  · have := s.lt
    rw [List.getLast?_append] at this
    cases e : (w :: r).getLast? with
    | none => simp at e
    | some z =>
      rw [e] at this
      exact this
end
end TR
/-! Exceptions of the program as values: made by a call, a field read, isinstance. -/
namespace L2.TT
open PySem PySem.Spec PyProof.Rows PySem.W
/-- what the written part says of an exception class of the program -/
structure XC (K : Frag) (C : Addr) (bmB : List Value) (newId : String) : Prop where
  ini : excInitIn K C bmB newId = true
  ovr : excOver K C bmB = true
  sa : findIn K (.ref C) "__setattr__" = some (some (.builtin "object.__setattr__"))
  ga : findIn K (.ref C) "__getattribute__" = some (some (.builtin "BaseException.__getattribute__"))
  gg : findIn K (.ref C) "__getattr__" = some none
  sub : subIn K (.ref C) (.type "BaseException") = some true
  hd : hasDictIn K C = true
  kp : keepIn K (.ref C) = true
  ca : findIn K (.ref C) "__class__" = some (some (.builtin "object.__class__"))
  ob : mroIn K C (.type "object") = some true
/-- a built-in base of exceptions -/
structure XB (B newId initId : String) (bmB : List Value) : Prop where
  ex : ExcBaseFacts B newId initId bmB
  st : StoreFacts B bmB "object.__setattr__" "object"
abbrev bmV : List Value := [.type "ValueError", .type "Exception", .type "BaseException", .type "object"]
abbrev bmR : List Value := [.type "RuntimeError", .type "Exception", .type "BaseException", .type "object"]
theorem xbV : XB "ValueError" "ValueError.__new__" "ValueError.__init__" bmV := ⟨F.excBase_ValueError, F.store_ValueError⟩
theorem xbR : XB "RuntimeError" "RuntimeError.__new__" "RuntimeError.__init__" bmR := ⟨F.excBase_RuntimeError, F.store_RuntimeError⟩
section
variable {prog : Program} {w : World} {A : Around} {E : Value → Shared → Prop} {R : Result → Shared → Prop} {hp : Heap} {g : Array GenState} {d : Drawn} {t : Nat} {os : OsState}
variable {K : Frag} {C x t0 : Addr} {name : Str} {tk : Tok} {v : Value} {B newId initId : String} {bmB : List Value}
/-- the heap after the exception's dict was laid, empty -/
def dictLaid (hp : Heap) (x : Addr) : Heap := (hp.push (dictOf [] 0)).update x fun o => { o with dict := some hp.objs.size }
theorem osa_first (Y : XB B newId initId bmB) (T : XC K C bmB newId) (X : K.In hp) (hx : hp.get? x = some (excObj C t0 none .none)) (ha : findIn K (.ref C) name = some none)
    (hq : ∀ h' tk', h'.Ns1 hp.objs.size (fun y => if y = name then some v else none) → Heap.SameBut hp.objs.size (dictLaid hp x) h' → R (.ok (.ret .none)) ⟨h', g, d, tk', os⟩) :
    codeAny (model prog w) A (.call (.builtin "object.__setattr__") ⟨[.ref x, .str name tk, v], []⟩) R ⟨hp, g, d, t, os⟩ := by
  have ht : takerIn K C name = some none := by unfold takerIn; rw [ha]; rfl
  refine osa_openX (s := ⟨hp, g, d, t, os⟩) (od := none) Y.st X ⟨hx, rfl, rfl, trivial⟩ T.ovr ht fun b => ?_
  obtain ⟨cd, hc, hd'⟩ := any_some T.hd
  have hxs : x ≠ hp.objs.size := Nat.ne_of_lt (Heap.lt_size hx)
  refine wpAny_bind (wpAny_pure (wpAny_bind (instanceDict_exc (s := ⟨hp, g, d, t, os⟩) hx (looks_clsIn X hc) hd' ?_)))
  refine HandSPX.store_in_new (hp := dictLaid hp x) ?_ fun h' tk' hn hs => hq h' tk' hn hs
  exact ⟨_, #[], _, (Heap.get?_update_ne _ _ _ _ hxs.symm).trans (Heap.get?_push_at rfl rfl), rfl, fun e he => absurd he (by simp), fun _ => rfl⟩
end
end L2.TT
namespace TR
open PySem PySem.Spec PyProof.Rows L2 L2.TT
def top (i : Nat) : Stmt := PySem.Challenge.pw_treetrain_k41_trains_run.main.body.getD i (.Pass ⟨0, 0, 0, 0⟩)
abbrev s_InvalidMove_init : Stmt := inClass (top 7) 0
abbrev s_Blocked_init : Stmt := inClass (top 10) 0
abbrev s_is_integer : Stmt := top 13
abbrev s_is_number_from : Stmt := top 14
abbrev s_is_pair_of_stations : Stmt := top 15
abbrev s_is_station : Stmt := top 16
abbrev s_check_station : Stmt := top 17
abbrev s_is_standing : Stmt := top 20
abbrev s_check_standing : Stmt := top 21
abbrev s_is_move : Stmt := top 22
abbrev s_check_moves : Stmt := top 23
abbrev s_body_of : Stmt := top 24
abbrev s_bodies_along : Stmt := top 25
abbrev s_body_after : Stmt := top 26
abbrev s_Course_init : Stmt := inClass (top 28) 0
abbrev s_Course_check_fuel : Stmt := inClass (top 28) 1
abbrev s_Course_go_on : Stmt := inClass (top 28) 2
abbrev s_Course_burn : Stmt := inClass (top 28) 6
abbrev s_Train_init : Stmt := inClass (top 30) 0
abbrev s_Train_railway : Stmt := inClass (top 30) 1
abbrev s_Train_head : Stmt := inClass (top 30) 2
abbrev s_Train_tail : Stmt := inClass (top 30) 3
abbrev s_Train_standing : Stmt := inClass (top 30) 4
abbrev s_Train_span : Stmt := inClass (top 30) 5
abbrev s_Train_body : Stmt := inClass (top 30) 6
abbrev s_Train_steps : Stmt := inClass (top 30) 7
abbrev s_Train_ahead : Stmt := inClass (top 30) 8
abbrev s_Train_reverse : Stmt := inClass (top 30) 9
abbrev s_Train_run : Stmt := inClass (top 30) 10
abbrev s_Train_run_all : Stmt := inClass (top 30) 11
abbrev s_joined : Stmt := top 41
abbrev s_first_wrong_track : Stmt := top 42
abbrev s_Railway_init : Stmt := inClass (top 46) 1
abbrev s_Railway_of : Stmt := inClass (top 46) 2
abbrev s_Railway_size : Stmt := inClass (top 46) 7
abbrev s_Railway_tracks : Stmt := inClass (top 46) 8
abbrev s_Railway_neighbours : Stmt := inClass (top 46) 9
abbrev s_Railway_path : Stmt := inClass (top 46) 11
abbrev s_Railway_is_same : Stmt := inClass (top 46) 12
abbrev s_neighbours_of : Stmt := top 48
abbrev s_places_below_first : Stmt := top 49
abbrev s_law_begin : Stmt := top 51
abbrev s_law_mixed : Stmt := top 52
abbrev s_law_next : Stmt := top 53
abbrev s_law_tracks : Stmt := top 54
abbrev s_law_place : Stmt := top 55
abbrev s_law_links : Stmt := top 56
abbrev s_law_route : Stmt := top 57
abbrev s_law_fits : Stmt := top 58
abbrev s_law_gone : Stmt := top 59
abbrev s_law_chances : Stmt := top 60
abbrev s_law_trip : Stmt := top 61
abbrev s_law_ran : Stmt := top 62
abbrev s_law_is_so : Stmt := top 63
abbrev s_law_done : Stmt := top 64
abbrev s_law : Stmt := top 65
abbrev NTr : List Str := ["draw", "most", "count", "shape", "found", "spot", "back", "near", "at"]
end TR
namespace L2.TT
open PySem PySem.Spec PyProof.Rows
set_option maxHeartbeats 1000000 in
theorem meets_enum1 {v : Value} {o : Obj} {H : Heap → Prop} (B : Begins v o H) :
    Meets (Builtin.«enumerate.__new__» ⟨[.type "enumerate", v], []⟩) (fun _ R s => H s.heap ∧
      R (.ok (.ret (.ref (s.heap.push o).objs.size))) { s with heap := (s.heap.push o).push { cls := .type "enumerate", data := .fields #[.none, .bool false, .ref s.heap.objs.size, rawInt 0, .none, .none] } }) :=
  .of_wp fun prog w A R s h => by
    obtain ⟨hp, g, d, tk, os⟩ := s; obtain ⟨h1, h⟩ := h
    have hsub := sub_enumerate
    have q1 : ∀ {A' : Around} {E : Value → Shared → Prop} {Q : Value → Shared → Prop}, Q (.ref hp.objs.size) ⟨hp.push o, g, d, tk, os⟩ → wpAny (model prog w) A' (pyIter v) Q E ⟨hp, g, d, tk, os⟩ :=
      fun q => B.iter prog w _ _ ⟨hp, g, d, tk, os⟩ _ h1 q
    wp_walk using q1
    refine wpAny_stack_any fun st => wpAny_pure ?_
    split
    · rename_i c _ _ _ _ _
      cases (c == Value.type "enumerate")
      · wp_walk using q1
        exact ⟨_, rfl, h⟩
      · wp_walk using q1
        exact ⟨_, rfl, h⟩
    · wp_walk using q1
      exact ⟨_, rfl, h⟩
theorem enum_begins1 {prog : Program} {w : World} {A : Around} {E : Value → Shared → Prop} {s : Shared} {v : Value} {o : Obj} {H : Heap → Prop} {Q : Value → Shared → Prop} (B : Begins v o H) (h1 : H s.heap)
    (h : ∀ h', IsEnum h' (s.heap.objs.size + 1) s.heap.objs.size 0 .none → h'.get? s.heap.objs.size = some o → h'.objs.size = s.heap.objs.size + 2 →
      (∀ b o, s.heap.get? b = some o → h'.get? b = some o) → Q (.ref (s.heap.objs.size + 1)) { s with heap := h' }) :
    wpAny (model prog w) A (call (.type "enumerate") [v]) Q E s := by
  refine callType_new F.called_enumerate (by decide) (F.typeCall_enumerate_1 _) (F.newCall_enumerate_1 _) (fun obj => F.args_object_init_2 obj _) F.entry_enumerate_new
    (meets_enum1 B) ⟨h1, ?_⟩
  have hz : (s.heap.push o).objs.size = s.heap.objs.size + 1 := Heap.size_push ..
  show _ ∧ _
  rw [hz]
  have he : IsEnum ((s.heap.push o).push { cls := .type "enumerate", data := .fields #[.none, .bool false, .ref s.heap.objs.size, rawInt 0, .none, .none] }) (s.heap.objs.size + 1) s.heap.objs.size 0 .none := by
    have := Heap.get?_push_size (s.heap.push o) (o := { cls := .type "enumerate", data := .fields #[.none, .bool false, .ref s.heap.objs.size, rawInt 0, .none, .none] }) rfl
    rw [hz] at this; exact this
  refine ⟨⟨_, he, rfl⟩, h _ he (Heap.get?_push_of_some _ (Heap.get?_push_size _ B.free)) (by rw [Heap.size_push, hz]) fun b o x => Heap.get?_push_of_some _ (Heap.get?_push_of_some _ x)⟩
/-- enumerate over a tuple -/
def IteT (K : PySem.W.Frag) (a : Addr) : It :=
  ⟨fun i H => ∃ (xs : List V) (x : V), SqT K H a xs ∧ xs[i]? = some x, fun i H v H' => ∃ T x, v = .ref T ∧ H T = none ∧ H' = upd H T (.tup [.int (i : Nat), x]) ∧ ∀ xs, SqT K H a xs → xs[i]? = some x, fun i H => ∃ xs : List V, SqT K H a xs ∧ xs.length ≤ i⟩
theorem turn_enumT {P : Program} {w : World} {K : PySem.W.Frag} {elts : List Expr} {kk : Nat} {tpos : Pos} (a e it : Addr) (hai : a ≠ it) (hea : e ≠ a) :
    Turn P w K (.Tuple elts kk tpos) (IteT K a) [e, it] e (fun i h => (∃ old, IsEnum h e it ((i : Nat) : Int) old) ∧ h.IsTupleIter it a i ∧ e ≠ it) where
  mem := by simp
  obj := fun i h st b hb => by
    obtain ⟨⟨old, he⟩, ⟨o, ho, hc, hd⟩, _⟩ := st
    have e' : b = e ∨ b = it := by simpa using hb
    rcases e' with z | z
    · rw [z]; exact ⟨_, he, fun v q => nomatch q⟩
    · rw [z]; exact ⟨o, ho, fun v q => by rw [hd] at q; cases q⟩
  keep := fun i h h' st k => let ⟨⟨old, he⟩, hi, hne⟩ := st; ⟨⟨old, k e (by simp) _ he⟩, hi.at fun o q => k it (by simp) o q, hne⟩
  item := by
    intro X hP hw hK hc i pins s σ H E I hf st hg
    subst hP hw hK
    obtain ⟨⟨old, he⟩, hit, hne⟩ := st
    obtain ⟨xs, x, hq, hx⟩ := hg
    obtain ⟨its, rv, p, hz⟩ := I.tuple hq
    obtain ⟨u, hu, ru⟩ := rv.get hx
    have hel : e < s.heap.objs.size := Heap.lt_size he
    have hil : it < s.heap.objs.size := by obtain ⟨_, q, _⟩ := hit; exact Heap.lt_size q
    have D := Draws.tuple (prog := X.prog) (w := X.w) (A := X.A.in1) (I.ok.hd hc) it a hai its.toArray
    have hlt : i < its.toArray.size := by
      have h2 := (List.getElem?_eq_some_iff.mp hu).1
      simpa using h2
    refine wpAny_pyNext_enum_itemD D he ⟨hit, p⟩ hlt hne (by simp only [List.mem_cons, List.not_mem_nil, or_false, not_or]; exact ⟨hne, hea⟩) fun x' h' tk hx' ho hit' hT hsz hk => ?_
    have exu : x' = u := by
      have e1 : its.toArray[i]? = some x' := hx'
      have e2 : its.toArray[i]? = some u := by simpa using hu
      exact Option.some.inj (e1.symm.trans e2)
    subst exu
    refine ⟨_, rfl, wpAny_letOwnedTupleGo_enum (s := { s with heap := h', toks := tk + 1 }) ho fun h'' he' sb => ?_⟩
    have hT2 : h''.get? s.heap.objs.size = some { cls := .type "tuple", data := .seq #[.int i tk, x'] } := (sb.2 _ (Nat.ne_of_gt hel)).trans hT
    have new : ObjOk X.prog X.w (upd H s.heap.objs.size (.tup [.int (i : Nat), x])) h'' s.heap.objs.size (.tup [.int (i : Nat), x]) :=
      ⟨by show 2 ≤ sizeLine; decide, [.int i tk, x'], .cons ⟨_, rfl⟩ (.cons ru .nil), ⟨_, hT2, rfl, _, rfl⟩⟩
    have I1 : Inv X pins σ (upd H s.heap.objs.size (.tup [.int (i : Nat), x])) { s with heap := h'', toks := tk + 1 } :=
      I.turnedNew (ch := [e, it]) (fun b ob hb q => (sb.2 b (fun z => hb (by simp [z]))).trans (hk b ob (fun z => hb (by simp [z])) (fun z => hb (by simp [z])) q)) hf (Nat.le_refl _) new
    refine ⟨.ref s.heap.objs.size, _, I1, rfl, ⟨_, x, rfl, I.hok.fresh (Nat.le_refl _), rfl, fun ys hy => by rw [I.tuple_inj hy hq]; exact hx⟩, ⟨⟨x', ?_⟩, hit'.1.at fun o q => (sb.2 it (Ne.symm hne)).trans q, hne⟩, fun b hb => ?_⟩
    · have e1 : ((i + 1 : Nat) : Int) = (i : Int) + 1 := by omega
      rw [e1]; exact he'
    · have hb' : b < s.heap.objs.size := by
        have e' : b = e ∨ b = it := by simpa using hb
        rcases e' with z | z
        · rw [z]; exact hel
        · rw [z]; exact hil
      rw [upd_ne (Nat.ne_of_lt hb')]
      exact (hf b hb).1
  done := by
    intro X hP hw hK hc i pins s σ H E I hf st hg
    subst hP hw hK
    obtain ⟨⟨old, he⟩, hit, hne⟩ := st
    obtain ⟨xs, hq, hx⟩ := hg
    obtain ⟨its, rv, p, hz⟩ := I.tuple hq
    obtain ⟨f0, f1, f2, f3, f4, f5⟩ := hf it (by simp)
    have hl := rv.length
    have hi2 : its.toArray[i]? = none := by simp; omega
    have D := Draws.tuple (prog := X.prog) (w := X.w) (A := X.A.in1) (I.ok.hd hc) it a hai its.toArray
    have hT : s.TypeIs (.ref e) "enumerate" := ⟨_, he, rfl⟩
    unfold pyNext
    refine wpAny_bind (wpAny_attempt (wpAny_callSpecial?_slot (name := Str.ofString "__next__") hT F.slot_enumerate_next
      (wpAny_call_entry F.slot_enumerate_next hT F.entry_enumerate_next ?_ (F.args_enumerate_next_1 _))))
    show wpAny _ _ (field (.ref e) 2 >>= _) _ _ _
    refine wpAny_bind (wpAny_field he rfl (x := .ref it) rfl ?_)
    refine wpAny_bind (wpAny_nextOf_tuple_end (I.ok.hd hc) hit p hi2 fun h' x he' hx' => ?_)
    obtain ⟨o, ho, hc'⟩ := hx'
    refine wpAny_bind (wpAny_isInstance (T := "StopIteration") (b := true) ⟨o, ho, hc'⟩ isSubtype_stop ?_)
    exact wpAny_pure ⟨rfl, I.turned (t' := s.toks) (fun b o hb q => he' b o hb q) f0 f1 f3 f4 f5⟩
  self := fun A i s Q E st h => let ⟨⟨_, he⟩, _⟩ := st; wpAny_pyIter_enum he h
def iEnumT (K : PySem.W.Frag) (ta : TA) : TI := fun σ H R => ta σ H fun vs H1 => ∃ a xs, vs = [.ref a] ∧ SqT K H1 a xs ∧ R (IteT K a) H1
theorem pi_enumT {X : Cx} {e : Expr} {ta : TA} {p pos tpos : Pos} {elts : List Expr} {kk : Nat} (hg : Gl X "enumerate") (hm : X.mg "enumerate" = none) (ha : PA X [e] ta) (hs : starEach [e] X.env = [(false, eval e X.env)] := by rfl) :
    PI X (.Tuple elts kk tpos) (.Call (.Name "enumerate" p) [e] [] pos) (iEnumT X.K ta) := by
  refine ⟨fun pins s σ H R I h => ?_⟩
  refine Call_ (ld_blt I hg hm boot_enumerate (PyProof.Rows.callWith_type1 (thn (ha.run pos pins s σ H _ I h) fun us s1 ⟨vs, H1, I1, r1, q1⟩ => ?_) hs rfl))
  obtain ⟨a, xs, ex, hq, q⟩ := q1
  subst ex
  cases r1 with
  | cons r rr =>
    cases rr
    cases r
    obtain ⟨its, rv, p', hz⟩ := I1.tuple hq
    have hal : a < s1.heap.objs.size := by obtain ⟨_, z, _⟩ := (show s1.heap.IsTuple a its.toArray from p'); exact Heap.lt_size z
    refine enum_begins1 (begins_tuple a its.toArray) p' fun h' he hit hsz hk => wpAny_pyIter_enum he ?_
    have I2 : Inv X pins σ H1 { s1 with heap := h' } := I1.kept (t' := s1.toks) hk
    refine ⟨s1.heap.objs.size + 1, [s1.heap.objs.size + 1, s1.heap.objs.size], _, _, H1, rfl, I2, turn_enumT a (s1.heap.objs.size + 1) s1.heap.objs.size (Nat.ne_of_lt hal) (Nat.ne_of_gt (Nat.lt_succ_of_lt hal)), ⟨⟨.none, he⟩, ⟨_, hit, rfl, rfl⟩, Nat.succ_ne_self _⟩, fun b hb => ?_, q⟩
    have e' : b = s1.heap.objs.size + 1 ∨ b = s1.heap.objs.size := by simpa using hb
    have hle : s1.heap.objs.size ≤ b := by
      rcases e' with z | z
      · rw [z]; exact Nat.le_add_right _ _
      · rw [z]; exact Nat.le_refl _
    exact I1.fpOk hle (I1.hok.fresh hle)
/-- for i, x in enumerate(t), t a tuple standing still -/
theorem for_enumT {K : PySem.W.Frag} {a : Addr} {xs : List V} {g : TG} {tb : TS} {D : Ends} {σ : L2.St} {H : Hp} (Pv : Nat → L2.St → Hp → Prop) (h0 : Pv 0 σ H) (hl : ∀ i σ H, i ≤ xs.length → Pv i σ H → SqT K H a xs)
    (hs : ∀ i x T σ H, xs[i]? = some x → Pv i σ H → H T = none → g (.ref T) σ (upd H T (.tup [.int (i : Nat), x])) fun σ2 H2 => tb { D with nx := Pv (i + 1), ct := Pv (i + 1), bk := D.nx } σ2 H2) (hd : ∀ σ H, Pv xs.length σ H → D.nx σ H) :
    ∃ W : Nat → Nat → L2.St → Hp → Prop, (∃ m, W 0 m σ H) ∧ ∀ i m σ H, W i m σ H →
      ((IteT K a).stop i H ∧ D.nx σ H) ∨ ((IteT K a).go i H ∧ ∃ N : L2.St → Hp → Prop, (∀ σ' H', N σ' H' → ∃ m', m' < m ∧ W (i + 1) m' σ' H') ∧ ∀ x H', (IteT K a).yld i H x H' → g x σ H' fun σ2 H2 => tb { D with nx := N, ct := N, bk := D.nx } σ2 H2) := by
  refine ⟨fun i m σ H => m = xs.length - i ∧ i ≤ xs.length ∧ Pv i σ H, ⟨xs.length, by simp, Nat.zero_le _, h0⟩, ?_⟩
  rintro i m σ H ⟨rfl, hi, p⟩
  have q := hl i σ H hi p
  by_cases hlt : i < xs.length
  · refine .inr ⟨⟨xs, xs[i], q, by simp [hlt]⟩, Pv (i + 1), fun σ' H' p' => ⟨xs.length - (i + 1), by omega, rfl, hlt, p'⟩, fun x H' y => ?_⟩
    obtain ⟨T, z, rfl, hT, rfl, y⟩ := y
    exact hs i z T σ H (y xs q) p hT
  · have e : i = xs.length := by omega
    subst e
    exact .inl ⟨⟨xs, q, Nat.le_refl _⟩, hd σ H p⟩
end L2.TT
namespace L2.TT
open PySem PySem.Spec PyProof.Rows
section
variable {prog : Program} {w : World} {A : Around} {E : Value → Shared → Prop} {s : Shared} {l : Addr} {xs : Array (Int × Tok)}
theorem iter_intTup {Q : Value → Shared → Prop} (hl : s.heap.IsTuple l (intItems xs))
    (h : ∀ s₂ : Shared, s₂ = { s with heap := s.heap.push { cls := .type "tuple_iterator", data := .fields #[.ref l, .int 0 0] } } →
      (s₂.heap.IsTupleIter s.heap.objs.size l 0 ∧ s₂.heap.IsTuple l (intItems xs)) → (∀ b ∈ [s.heap.objs.size, l], b < s₂.heap.objs.size) → l ≠ s.heap.objs.size → Q (.ref s.heap.objs.size) s₂) :
    wpAny (model prog w) A (pyIter (.ref l)) Q E s := by
  have hlt : l < s.heap.objs.size := by obtain ⟨_, e, _⟩ := hl; exact Heap.lt_size e
  refine wpAny_pyIter_tuple hl (h _ rfl ⟨⟨_, Heap.get?_push_size _ rfl, rfl, rfl⟩, hl.at fun o e => Heap.get?_push_of_some _ e⟩ (fun b hb => ?_) (Nat.ne_of_lt hlt))
  show b < (s.heap.push _).objs.size
  rw [Heap.size_push]
  rcases List.mem_cons.mp hb with rfl | hb
  · exact Nat.lt_succ_self _
  · rcases List.mem_cons.mp hb with rfl | hb
    · exact Nat.lt_succ_of_lt hlt
    · cases hb
theorem old_kept2 {o : Obj} {h' : Heap} (hk : ∀ b u, b ∉ [s.heap.objs.size] → (s.heap.push o).get? b = some u → h'.get? b = some u) :
    ∀ b u, s.heap.get? b = some u → h'.get? b = some u := fun b u e => by
  refine hk b u (fun hm => ?_) (Heap.get?_push_of_some _ e)
  rcases List.mem_cons.mp hm with e1 | hm
  · exact absurd (e1 ▸ Heap.lt_size e) (Nat.lt_irrefl _)
  · cases hm
theorem max_intTup {Q : Value → Shared → Prop} (hh : A.handled = none) (hl : s.heap.IsTuple l (intItems xs)) (hne : 0 < xs.size)
    (h : ∀ v h' tk, (intItems xs)[argBest (fun i j => decide (numAt xs i > numAt xs j)) (xs.size - 1)]? = some v → (∀ b o, s.heap.get? b = some o → h'.get? b = some o) → Q v { s with heap := h', toks := tk }) :
    wpAny (model prog w) A (call (.builtin "max") [.ref l]) Q E s := by
  refine call_max_walk (iter_intTup hl fun s₂ e st hfp hlI => ?_)
  subst e
  refine ⟨_, _, _, _, _, _, _, rfl, Walks.tuple (A := A.in1) hh _ l hlI (intItems xs), st, hfp, by simpa [intItems] using hne, CmpOf.ints_gt (numAt xs) (fun _ _ => intItems_at), fun v h' tk hP hk => ?_⟩
  exact h v h' tk (by simpa [intItems] using hP) (old_kept2 hk)
theorem min_intTup {Q : Value → Shared → Prop} (hh : A.handled = none) (hl : s.heap.IsTuple l (intItems xs)) (hne : 0 < xs.size)
    (h : ∀ v h' tk, (intItems xs)[argBest (fun i j => decide (numAt xs i < numAt xs j)) (xs.size - 1)]? = some v → (∀ b o, s.heap.get? b = some o → h'.get? b = some o) → Q v { s with heap := h', toks := tk }) :
    wpAny (model prog w) A (call (.builtin "min") [.ref l]) Q E s := by
  refine call_min_walk (iter_intTup hl fun s₂ e st hfp hlI => ?_)
  subst e
  refine ⟨_, _, _, _, _, _, _, rfl, Walks.tuple (A := A.in1) hh _ l hlI (intItems xs), st, hfp, by simpa [intItems] using hne, CmpOf.ints_lt (numAt xs) (fun _ _ => intItems_at), fun v h' tk hP hk => ?_⟩
  exact h v h' tk (by simpa [intItems] using hP) (old_kept2 hk)
end
section
variable {X : Cx}
/-- max(t), min(t), t a pair of ints -/
def rMaxP (K : PySem.W.Frag) : List V → Hp → VK → Prop := fun vs H Q => ∃ (a : Addr) (i j : Int), vs = [V.ref a] ∧ SqT K H a [.int i, .int j] ∧ Q (.int (max i j)) H
def rMinP (K : PySem.W.Frag) : List V → Hp → VK → Prop := fun vs H Q => ∃ (a : Addr) (i j : Int), vs = [V.ref a] ∧ SqT K H a [.int i, .int j] ∧ Q (.int (min i j)) H
theorem cr_maxP (hc : X.calm = true) : CallR X (.builtin "max") (rMaxP X.K) := by
  intro pins s σ H vs us Q I r h
  obtain ⟨a, i, j, rfl, hs, q⟩ := h
  obtain ⟨its, rv, hl, _⟩ := I.tuple hs
  rw [Vals.ref1 r]
  cases rv with
  | cons r1 rr =>
    cases rr with
    | cons r2 rr =>
      cases rr
      obtain ⟨t1, rfl⟩ := r1
      obtain ⟨t2, rfl⟩ := r2
      have hl2 : s.heap.IsTuple a (intItems #[(i, t1), (j, t2)]) := by rw [show intItems #[(i, t1), (j, t2)] = #[Value.int i t1, Value.int j t2] by simp [intItems]]; exact hl
      refine max_intTup (I.ok.hd hc) hl2 (show 0 < 2 by decide) fun v h' tk hv hk => ?_
      have e0 : numAt #[(i, t1), (j, t2)] 0 = i := rfl
      have e1 : numAt #[(i, t1), (j, t2)] 1 = j := rfl
      have hv2 := hv
      obtain ⟨t, ev⟩ := intItems_at hv
      obtain ⟨h1, h2⟩ := argBest_gt (numAt #[(i, t1), (j, t2)]) 1
      have b0 := h2 0 (by omega)
      have b1 := h2 1 (by omega)
      subst ev
      refine ⟨.int _, H, I.kept hk, ⟨t, rfl⟩, ?_⟩
      have eb : argBest (fun i_1 j_1 => decide (numAt #[(i, t1), (j, t2)] i_1 > numAt #[(i, t1), (j, t2)] j_1)) (#[(i, t1), (j, t2)].size - 1) = 0 ∨ argBest (fun i_1 j_1 => decide (numAt #[(i, t1), (j, t2)] i_1 > numAt #[(i, t1), (j, t2)] j_1)) (#[(i, t1), (j, t2)].size - 1) = 1 := by
        show argBest _ 1 = 0 ∨ argBest _ 1 = 1
        omega
      rw [e0] at b0
      rw [e1] at b1
      have em : numAt #[(i, t1), (j, t2)] (argBest (fun i_1 j_1 => decide (numAt #[(i, t1), (j, t2)] i_1 > numAt #[(i, t1), (j, t2)] j_1)) (#[(i, t1), (j, t2)].size - 1)) = max i j := by
        have z : ∀ k, k = 0 ∨ k = 1 → numAt #[(i, t1), (j, t2)] k = i ∨ numAt #[(i, t1), (j, t2)] k = j := fun k hk => by
          rcases hk with rfl | rfl
          · exact .inl e0
          · exact .inr e1
        have z1 := z _ eb
        have b0' : i ≤ numAt #[(i, t1), (j, t2)] (argBest (fun i_1 j_1 => decide (numAt #[(i, t1), (j, t2)] i_1 > numAt #[(i, t1), (j, t2)] j_1)) (#[(i, t1), (j, t2)].size - 1)) := b0
        have b1' : j ≤ numAt #[(i, t1), (j, t2)] (argBest (fun i_1 j_1 => decide (numAt #[(i, t1), (j, t2)] i_1 > numAt #[(i, t1), (j, t2)] j_1)) (#[(i, t1), (j, t2)].size - 1)) := b1
        generalize numAt #[(i, t1), (j, t2)] (argBest (fun i_1 j_1 => decide (numAt #[(i, t1), (j, t2)] i_1 > numAt #[(i, t1), (j, t2)] j_1)) (#[(i, t1), (j, t2)].size - 1)) = m at z1 b0' b1'
        omega
      rw [em]
      exact q
theorem cr_minP (hc : X.calm = true) : CallR X (.builtin "min") (rMinP X.K) := by
  intro pins s σ H vs us Q I r h
  obtain ⟨a, i, j, rfl, hs, q⟩ := h
  obtain ⟨its, rv, hl, _⟩ := I.tuple hs
  rw [Vals.ref1 r]
  cases rv with
  | cons r1 rr =>
    cases rr with
    | cons r2 rr =>
      cases rr
      obtain ⟨t1, rfl⟩ := r1
      obtain ⟨t2, rfl⟩ := r2
      have hl2 : s.heap.IsTuple a (intItems #[(i, t1), (j, t2)]) := by rw [show intItems #[(i, t1), (j, t2)] = #[Value.int i t1, Value.int j t2] by simp [intItems]]; exact hl
      refine min_intTup (I.ok.hd hc) hl2 (show 0 < 2 by decide) fun v h' tk hv hk => ?_
      have e0 : numAt #[(i, t1), (j, t2)] 0 = i := rfl
      have e1 : numAt #[(i, t1), (j, t2)] 1 = j := rfl
      obtain ⟨t, ev⟩ := intItems_at hv
      obtain ⟨h1, h2⟩ := argBest_lt (numAt #[(i, t1), (j, t2)]) 1
      have b0 := h2 0 (by omega)
      have b1 := h2 1 (by omega)
      subst ev
      refine ⟨.int _, H, I.kept hk, ⟨t, rfl⟩, ?_⟩
      have eb : argBest (fun i_1 j_1 => decide (numAt #[(i, t1), (j, t2)] i_1 < numAt #[(i, t1), (j, t2)] j_1)) (#[(i, t1), (j, t2)].size - 1) = 0 ∨ argBest (fun i_1 j_1 => decide (numAt #[(i, t1), (j, t2)] i_1 < numAt #[(i, t1), (j, t2)] j_1)) (#[(i, t1), (j, t2)].size - 1) = 1 := by
        show argBest _ 1 = 0 ∨ argBest _ 1 = 1
        omega
      rw [e0] at b0
      rw [e1] at b1
      have em : numAt #[(i, t1), (j, t2)] (argBest (fun i_1 j_1 => decide (numAt #[(i, t1), (j, t2)] i_1 < numAt #[(i, t1), (j, t2)] j_1)) (#[(i, t1), (j, t2)].size - 1)) = min i j := by
        have z : ∀ k, k = 0 ∨ k = 1 → numAt #[(i, t1), (j, t2)] k = i ∨ numAt #[(i, t1), (j, t2)] k = j := fun k hk => by
          rcases hk with rfl | rfl
          · exact .inl e0
          · exact .inr e1
        have z1 := z _ eb
        have b0' : numAt #[(i, t1), (j, t2)] (argBest (fun i_1 j_1 => decide (numAt #[(i, t1), (j, t2)] i_1 < numAt #[(i, t1), (j, t2)] j_1)) (#[(i, t1), (j, t2)].size - 1)) ≤ i := b0
        have b1' : numAt #[(i, t1), (j, t2)] (argBest (fun i_1 j_1 => decide (numAt #[(i, t1), (j, t2)] i_1 < numAt #[(i, t1), (j, t2)] j_1)) (#[(i, t1), (j, t2)].size - 1)) ≤ j := b1
        generalize numAt #[(i, t1), (j, t2)] (argBest (fun i_1 j_1 => decide (numAt #[(i, t1), (j, t2)] i_1 < numAt #[(i, t1), (j, t2)] j_1)) (#[(i, t1), (j, t2)].size - 1)) = m at z1 b0' b1'
        omega
      rw [em]
      exact q
/-- a target o.f -/
def gFld (K : PySem.W.Frag) (ta : TE) (f : Str) : TG := fun y σ H Q => ta σ H fun x H2 => ∃ a C dx fs, x = .ref a ∧ H2 a = some (.ins C dx fs) ∧ Cls K C ∧ NoAttr K C f ∧ fs.length < 1000 ∧ Q σ (upd H2 a (.ins C dx (putF f y fs)))
theorem pg_fld {o : Expr} {f : Str} {pos : Pos} {ta : TE} (ho : PE X o ta) : PG X (.Attribute o f pos) (gFld X.K ta f) := by
  refine ⟨fun pins s σ H v u Q I r h => ?_⟩
  rw [arm_assign_Attribute]
  refine wpAny_bind (wpAny_holding (thn (ho.run pins s σ H _ I h) fun ov s1 ⟨x, H1, I1, r1, a, C, dx, fs, ex, ea, c, n, l, q⟩ => ?_))
  subst ex
  obtain rfl : ov = Value.ref a := r1
  refine wpAny_bind (wpAny_standAt (wpAny_bind (wpAny_holding (setattr_ok I1 ea c n l r fun s2 I2 => ?_))))
  exact wpAny_release ⟨σ, _, I2, q⟩
end
end L2.TT
namespace L2.TT
open PySem PySem.Spec PyProof.Rows L2 StX
/-- x(*y), x a local name that holds the class at C -/
def tMakeLS (i : Nat) (K : PySem.W.Frag) (C : Addr) (sp : Sp) (E : XK) (te : TE) : TE := fun σ H Q => σ[i]? = some (some (.ref C)) ∧ te σ H fun y H1 => ∃ a xs, y = V.ref a ∧ (SqT K H1 a xs ∨ SqL K H1 a xs) ∧
  ∀ o dx, H1 o = Option.none → H1 dx = Option.none → dx ≠ o → sp (V.ref o :: xs) (upd (upd H1 dx (.own o)) o (.ins C dx [])) (fun v H2 => v = .non ∧ Q (.ref o) H2) E
section
variable {X : Cx} {CX : CXT} {k i : Nat} {f C : Addr} {sp : Sp} {E : XK} {x : Str} {e : Expr} {te : TE} {p sp_ pos : Pos}
theorem pe_makeLS (M : Mk X.K C f) (F : FnR X.prog X.w X.K X.mg X.base CX k f sp) (hr : Room (k + 1) X.A) (hN : X.N[i]? = some x) (hv : Vis X.env.scope x) (hx : Passes CX X E) (he : PE X e te)
    (hdb : (x == ("__debug__" : Str)) = false := by decide) (hcd : (x == ("__classdict__" : Str)) = false := by decide)
    (hst : starEach [.Starred e sp_] X.env = [(true, eval e X.env)] := by rfl) : PE X (.Call (.Name x p) [.Starred e sp_] [] pos) (tMakeLS i X.K C sp E te) := by
  refine ⟨fun pins s σ H Q I h => ?_⟩
  obtain ⟨hs, ht⟩ := h
  refine wpAny_Call_Name_kw (thn ((pe_var (pos := p) hN hv hdb hcd).run pins s σ H (fun v H1 => v = .ref C ∧ H1 = H) I ⟨.ref C, hs, rfl, rfl⟩) fun u s1 ⟨v, H1, I1, r1, q1⟩ => ?_)
  obtain ⟨rfl, rfl⟩ := q1
  cases r1
  refine PySem.W.callWith_S (h₀ := X.base) I.ok.mod.kin M.kp (thn (he.run pins s1 σ _ _ I1 ht) fun v s2 ⟨y, H2, I2, ry, a, xs, ey, hxs, q⟩ => ?_) hst
  subst ey
  obtain rfl : v = Value.ref a := ry
  exact star_any I2 hxs fun us s3 I3 rv => ⟨I3.kIn, run_makeR M F hr hx I3 rv q⟩
end
end L2.TT
namespace L2.TT
open PySem PySem.Spec PyProof.Rows
section
variable {X : Cx} {pins : List (Addr × Obj)} {σ : St} {H : Hp} {s : Shared}
/-- xs + ys, two lists that may be known ones -/
def rCatL (K : PySem.W.Frag) : R2 := fun x y H Q => ∃ l b xs zs, x = .ref l ∧ y = .ref b ∧ SqL K H l xs ∧ SqL K H b zs ∧ xs.length + zs.length ≤ sizeLine ∧ ∀ p, H p = none → Q (.ref p) (upd H p (.lst (xs ++ zs)))
theorem op_catL : OpR X (binaryOp .Add) (rCatL X.K) := by
  intro pins s σ H x y v u Q I rx ry h
  obtain ⟨l, b, xs, zs, rfl, rfl, h1, h2, hz, q⟩ := h
  cases rx
  cases ry
  obtain ⟨its, r1, ⟨⟨c1, d1, e1, sl1⟩, n1, ho1, hc1, hd1, he1⟩, _⟩ := I.list h1
  obtain ⟨jts, r2, ⟨⟨c2, d2, e2, sl2⟩, n2, ho2, hc2, hd2, he2⟩, _⟩ := I.list h2
  simp only at hc1 he1 hc2 he2
  subst hc1 he1 hc2 he2
  have l1 := r1.length
  have l2 := r2.length
  refine concat_meets ⟨_, ho1, rfl⟩ ⟨_, ho2, rfl⟩ noFill_list_add seq_list_add PySem.F.slot_list_add PySem.F.entry_list_add (PySem.F.args_list_add_2 _ _) (list_addW l b its.toArray jts.toArray n1 n2 d1 d2 sl1 sl2 (by rw [List.size_toArray, List.size_toArray]; omega)) ⟨ho1, ho2, ?_⟩
  have ea : its.toArray ++ jts.toArray = (its ++ jts).toArray := by simp
  rw [ea]
  exact ⟨.ref _, _, I.lnew (t' := s.toks) (r1.append r2) (by rw [List.length_append]; omega), rfl, q _ I.fresh⟩
end
end L2.TT
namespace TR
open PySem PySem.Spec PyProof.Rows L2 L2.TT
/-- a def of the module and its promise -/
structure Use (P : Program) (w : World) (K : PySem.W.Frag) (mg : Str → Option Value) (base : Heap) (CX : CXT) (k : Nat) (x : Str) (f : Addr) (fd : FuncData) (ps : List Str) (sp : Sp) : Prop where
  G : FnOk P w K mg base CX k f fd ps sp
  m : mg x = some (.ref f)
  kp : PySem.W.keepIn K (.ref f) = true
  b : Binds K fd ps []
section
variable {X : Cx} {k : Nat} {x : Str} {f : Addr} {fd : FuncData} {ps : List Str} {sp : Sp} {e : Expr} {es : List Expr} {t : TA} {p pos : Pos}
theorem pe_use (U : Use X.prog X.w X.K X.mg X.base CX0 k x f fd ps sp) (hr : Room k X.A) (hg : Gl X x) (ha : PA X (e :: es) t) (hd : (x == ("__debug__" : Str)) = false := by decide)
    (he : starEach (e :: es) X.env = (false, eval e X.env) :: starEach es X.env := by rfl) (hpl : (backTo pos (starEach es X.env)).any (·.1) = false := by rfl) :
    PE X (.Call (.Name x p) (e :: es) [] pos) (tCall sp [] (fun _ _ _ => False) t) :=
  pe_call (p := p) (pos := pos) U.G hr hg U.m U.kp U.b .nil pass0 ha hd he hpl
end
/-- what is never reached -/
theorem ps_never {X : Cx} {st : Stmt} : PS X st (fun _ _ _ => False) := ⟨fun _ _ _ _ _ _ h => h.elim⟩
theorem pss_never {X : Cx} {st : Stmt} : PSs X [st] (fun _ _ _ => False) := pss_one ps_never
/-- the built-in names -/
structure Nm (mg : Str → Option Value) : Prop where
  len : mg "len" = none
  isi : mg "isinstance" = none
  int : mg "int" = none
  bool : mg "bool" = none
  tuple : mg "tuple" = none
  list : mg "list" = none
  sorted : mg "sorted" = none
  min : mg "min" = none
  max : mg "max" = none
  range : mg "range" = none
  enum : mg "enumerate" = none
  repr : mg "repr" = none
  set : mg "set" = none
  all : mg "all" = none
  any : mg "any" = none
  zip : mg "zip" = none
  str : mg "str" = none
/-- no int, and not a bool either -/
def NI (K : PySem.W.Frag) (H : Hp) (v : V) : Prop := (∃ b, v = .bl b) ∨ ∃ n : String, TyX K H v (.type n) ∧ kitB n "int" = some false
theorem NI.non {K : PySem.W.Frag} {H : Hp} : NI K H .non := .inr ⟨"NoneType", .base .non, by decide +kernel⟩
theorem NI.str {K : PySem.W.Frag} {H : Hp} {z : Str} : NI K H (.str z) := .inr ⟨"str", .base (.str z), by decide +kernel⟩
theorem NI.tup {K : PySem.W.Frag} {H : Hp} {a : Addr} {xs : List V} (h : H a = some (.tup xs)) : NI K H (.ref a) := .inr ⟨"tuple", .base (.tup h), by decide +kernel⟩
theorem NI.lst {K : PySem.W.Frag} {H : Hp} {a : Addr} {xs : List V} (h : H a = some (.lst xs)) : NI K H (.ref a) := .inr ⟨"list", .base (.lst h), by decide +kernel⟩
theorem NI.dK {K : PySem.W.Frag} {H : Hp} {a : Addr} {xs : List (Key × V)} (h : H a = some (.dK xs)) : NI K H (.ref a) := .inr ⟨"dict", .base (.dK h), by decide +kernel⟩
/-- one value, an int or none -/
def IV (K : PySem.W.Frag) (H : Hp) (v : V) : Prop := (∃ i, v = .int i) ∨ NI K H v
def asInt : V → Option Int
  | .int i => some i
  | _ => none
theorem NI.as {K : PySem.W.Frag} {H : Hp} {v : V} (h : NI K H v) : asInt v = none := by
  rcases h with ⟨b, rfl⟩ | ⟨n, t, kb⟩
  · rfl
  · cases v with
    | int i =>
      have e : (Value.type n) = .type "int" := by
        cases t with
        | base h => cases h; rfl
      cases e
      exact absurd kb (by decide +kernel)
    | _ => rfl
def spIsInt (K : PySem.W.Frag) : Sp := fun vs H Q _ => ∃ v, vs = [v] ∧ IV K H v ∧ Q (.bl (asInt v).isSome) H
def inR (v : V) (lo hi : Int) : Bool := match asInt v with
  | some i => decide (lo ≤ i) && decide (i ≤ hi)
  | none => false
def spNumFrom (K : PySem.W.Frag) : Sp := fun vs H Q _ => ∃ v lo hi, vs = [v, .int lo, .int hi] ∧ IV K H v ∧ Q (.bl (inR v lo hi)) H
theorem bit_int {K : PySem.W.Frag} : PySem.W.kitOne K (.type "bool") (.type "int") = some true := kit_ty (by decide +kernel)
theorem bit_bool {K : PySem.W.Frag} : PySem.W.kitOne K (.type "bool") (.type "bool") = some true := kit_ty (by decide +kernel)
theorem int_int {K : PySem.W.Frag} : PySem.W.kitOne K (.type "int") (.type "int") = some true := kit_ty (by decide +kernel)
theorem int_bool {K : PySem.W.Frag} : PySem.W.kitOne K (.type "int") (.type "bool") = some false := kit_ty (by decide +kernel)
section
variable {P : Program} {w : World} {K : PySem.W.Frag} {mg : Str → Option Value} {base : Heap}
theorem sc_isInt : FnScope ["value"] ["value"] (defScope s_is_integer) := ⟨rfl, rfl, rfl, by decide +kernel, rfl, by decide +kernel, by decide +kernel⟩
theorem ok_isInt {f : Addr} {fd : FuncData} (F : Fun K "is_integer" "is_integer" s_is_integer f fd) (N : Nm mg) : FnOk P w K mg base CX0 1 f fd ["value"] (spIsInt K) := by
  refine F.ok sc_isInt (fun vs H Q E h => ?_) (fun cdv A outer s H vs Q E hr h => ?_)
  · obtain ⟨v, rfl, _⟩ := h
    rfl
  · obtain ⟨v, rfl, hv, k⟩ := h
    refine ⟨_, pss_one (ps_ret (pe_and (pe_callB call_isi (by rfl) N.isi boot_isinstance (pa_cons (pv 0) (pa_cons (pe_bltn (v := .ty "int") (by rfl) N.int (by decide +kernel) rfl) pa_nil)))
      (pe_one (pe_not (pe_callB call_isi (by rfl) N.isi boot_isinstance (pa_cons (pv 0) (pa_cons (pe_bltn (v := .ty "bool") (by rfl) N.bool (by decide +kernel) rfl) pa_nil))))))), ?_⟩
    rcases hv with ⟨i, rfl⟩ | hv
    · refine ⟨_, rfl, _, _, _, _, true, rfl, .ty _, .base (.int i), int_int, true, rfl, ?_⟩
      refine iteT ?_
      exact ⟨_, rfl, _, _, _, _, false, rfl, .ty _, .base (.int i), int_bool, false, rfl, k⟩
    · have ka : (asInt v).isSome = false := by rw [hv.as]; rfl
      rw [ka] at k
      rcases hv with ⟨b, rfl⟩ | ⟨n, t, kb⟩
      · refine ⟨_, rfl, _, _, _, _, true, rfl, .ty _, .base (.bl b), bit_int, true, rfl, ?_⟩
        refine iteT ?_
        exact ⟨_, rfl, _, _, _, _, true, rfl, .ty _, .base (.bl b), bit_bool, true, rfl, k⟩
      · refine ⟨_, rfl, _, _, _, _, false, rfl, .ty _, t, kit_ty kb, false, rfl, ?_⟩
        exact iteF k
theorem sc_num : FnScope ["value", "least", "greatest"] ["value", "least", "greatest"] (defScope s_is_number_from) := ⟨rfl, rfl, rfl, by decide +kernel, rfl, by decide +kernel, by decide +kernel⟩
theorem ok_num {f fI : Addr} {fd fdI : FuncData} (F : Fun K "is_number_from" "is_number_from" s_is_number_from f fd) (U : Use P w K mg base CX0 1 "is_integer" fI fdI ["value"] (spIsInt K)) : FnOk P w K mg base CX0 2 f fd ["value", "least", "greatest"] (spNumFrom K) := by
  refine F.ok sc_num (fun vs H Q E h => ?_) (fun cdv A outer s H vs Q E hr h => ?_)
  · obtain ⟨v, lo, hi, rfl, _⟩ := h
    rfl
  · obtain ⟨v, lo, hi, rfl, hv, k⟩ := h
    refine ⟨_, pss_one (ps_ret (pe_and (pe_use U hr rfl (pa_cons (pv 0) pa_nil)) (pe_one (pe_chain op_le op_le (pv 1) (pv 0) (pv 2))))), ?_⟩
    refine ⟨_, rfl, v, rfl, hv, _, rfl, ?_⟩
    rcases hv with ⟨i, rfl⟩ | hv
    · refine iteT ?_
      refine ⟨_, rfl, _, rfl, _, _, rfl, rfl, _, rfl, ?_⟩
      have e : inR (.int i) lo hi = (decide (lo ≤ i) && decide (i ≤ hi)) := rfl
      rw [e] at k
      refine ite2 (fun h => ?_) (fun h => ?_)
      · rw [h, Bool.true_and] at k
        exact ⟨_, rfl, _, _, rfl, rfl, k⟩
      · rw [Bool.eq_false_iff.mpr h, Bool.false_and] at k
        exact k
    · have e : inR v lo hi = false := by
        show (match asInt v with
          | some i => decide (lo ≤ i) && decide (i ≤ hi)
          | none => false) = false
        rw [hv.as]
      rw [e] at k
      rw [hv.as]
      exact iteF k
end
end TR
namespace TR
open PySem PySem.Spec PyProof.Rows L2 L2.TT
/-- any value as a pair: the items where it is a tuple of two -/
inductive PV (K : PySem.W.Frag) (H : Hp) : V → Option (V × V) → Prop where
  | two {a : Addr} {x y : V} (h : H a = some (.tup [x, y])) (hx : IV K H x) (hy : IV K H y) : PV K H (.ref a) (some (x, y))
  | tup {a : Addr} {xs : List V} (h : H a = some (.tup xs)) (hn : xs.length ≠ 2) : PV K H (.ref a) none
  | no {v : V} {n : String} (t : TyX K H v (.type n)) (kb : kitB n "tuple" = some false) : PV K H v none
def isPr (o : Option (V × V)) (n : Int) : Bool := match o with
  | some (x, y) => inR x 0 (n - 1) && inR y 0 (n - 1) && decide (asInt x ≠ asInt y)
  | none => false
def spPair (K : PySem.W.Frag) : Sp := fun vs H Q _ => ∃ v n o, vs = [v, .int n] ∧ PV K H v o ∧ Q (.bl (isPr o n)) H
theorem tup_tup {K : PySem.W.Frag} : PySem.W.kitOne K (.type "tuple") (.type "tuple") = some true := kit_ty (by decide +kernel)
theorem inR_int {v : V} {lo hi : Int} (h : inR v lo hi = true) : ∃ i, v = .int i ∧ lo ≤ i ∧ i ≤ hi := by
  unfold inR at h
  cases v with
  | int i =>
    have h2 : (decide (lo ≤ i) && decide (i ≤ hi)) = true := h
    rw [Bool.and_eq_true] at h2
    exact ⟨i, rfl, of_decide_eq_true h2.1, of_decide_eq_true h2.2⟩
  | _ => cases h
section
variable {P : Program} {w : World} {K : PySem.W.Frag} {mg : Str → Option Value} {base : Heap}
theorem sc_pair : FnScope ["value", "size", "one", "other"] ["value", "size"] (defScope s_is_pair_of_stations) := ⟨rfl, rfl, rfl, by decide +kernel, rfl, by decide +kernel, by decide +kernel⟩
theorem ok_pair {f fI : Addr} {fd fdI : FuncData} (F : Fun K "is_pair_of_stations" "is_pair_of_stations" s_is_pair_of_stations f fd) (N : Nm mg) (U : Use P w K mg base CX0 2 "is_number_from" fI fdI ["value", "least", "greatest"] (spNumFrom K)) : FnOk P w K mg base CX0 3 f fd ["value", "size"] (spPair K) := by
  refine F.ok sc_pair (fun vs H Q E h => ?_) (fun cdv A outer s H vs Q E hr h => ?_)
  · obtain ⟨v, n, o, rfl, _⟩ := h
    rfl
  · obtain ⟨v, n, o, rfl, hv, k⟩ := h
    refine ⟨_, pss_cons (ps_if (PW.pt (pw_or (pt_not (pt_val (pe_callB call_isi (by rfl) N.isi boot_isinstance (pa_cons (pv 0) (pa_cons (pe_bltn (v := .ty "tuple") (by rfl) N.tuple (by decide +kernel) rfl) pa_nil)))))
        (pw_or1 (pt_cmpR op_ne (pe_callB call_len_seq (by rfl) N.len PySem.boot_len (pa_cons (pv 0) pa_nil)) pe_int (nomark _))))) (pss_one (ps_ret pe_bl)) pss_nil)
      (pss_cons (ps_asg (pv 0) (pg_tup rfl (pgs_cons (pg_name (i := 2) sc_pair.nd rfl (.inl rfl)) (pgs_cons (pg_name (i := 3) sc_pair.nd rfl (.inl rfl)) pgs_nil))))
      (pss_cons (ps_if (PW.pt (pw_or (pt_not (pt_val (pe_use U hr rfl (pa_cons (pv 2) (pa_cons pe_int (pa_cons (pe_op op_sub (pv 1) pe_int) pa_nil))))))
        (pw_or1 (pt_not (pt_val (pe_use U hr rfl (pa_cons (pv 3) (pa_cons pe_int (pa_cons (pe_op op_sub (pv 1) pe_int) pa_nil))))))))) (pss_one (ps_ret pe_bl)) pss_nil)
      (pss_one (ps_ret (pe_cmpR op_ne (pv 2) (pv 3) (nomark _)))))), ?_⟩
    have hle : (2 : Nat) ≤ sizeLine := by rw [sizeLine_eq]; decide
    cases hv with
    | no t kb =>
      refine ⟨_, rfl, _, _, _, _, false, rfl, .ty _, t, kit_ty kb, false, rfl, ?_⟩
      refine iteT ?_
      refine iteT ?_
      exact k
    | @tup a xs h hn =>
      refine ⟨_, rfl, _, _, _, _, true, rfl, .ty _, .base (.tup h), tup_tup, true, rfl, ?_⟩
      refine iteF ?_
      refine ⟨_, rfl, _, _, rfl, .inr (SqT.of h), rfl, _, rfl, ?_⟩
      refine ite2 (fun _ => ?_) (fun z => ?_)
      · exact k
      · exfalso
        apply z
        show (!decide (V.int (xs.length : Nat) = V.int 2)) = true
        simp only [Bool.not_eq_true', decide_eq_false_iff_not, V.int.injEq]
        omega
    | two h hx hy =>
      refine ⟨_, rfl, _, _, _, _, true, rfl, .ty _, .base (.tup h), tup_tup, true, rfl, ?_⟩
      refine iteF ?_
      refine ⟨_, rfl, _, _, rfl, .inr (SqT.of h), rfl, _, rfl, ?_⟩
      refine iteF ?_
      refine ⟨_, rfl, _, _, rfl, SqT.of h, rfl, ?_⟩
      refine ⟨_, _, rfl, _, _, rfl, rfl, ?_⟩
      refine ⟨_, rfl, _, rfl, _, _, rfl, rfl, _, _, _, rfl, hx, _, rfl, ?_⟩
      rename_i a x y
      cases e1 : inR x 0 (n - 1) with
      | false =>
        have e : isPr (some (x, y)) n = false := by show (inR x 0 (n - 1) && inR y 0 (n - 1) && decide (asInt x ≠ asInt y)) = false; rw [e1]; rfl
        rw [e] at k
        refine iteT ?_
        refine iteT ?_
        exact k
      | true =>
        refine iteF ?_
        refine ⟨_, rfl, _, rfl, _, _, rfl, rfl, _, _, _, rfl, hy, _, rfl, ?_⟩
        cases e2 : inR y 0 (n - 1) with
        | false =>
          have e : isPr (some (x, y)) n = false := by show (inR x 0 (n - 1) && inR y 0 (n - 1) && decide (asInt x ≠ asInt y)) = false; rw [e1, e2]; rfl
          rw [e] at k
          refine iteT ?_
          exact k
        | true =>
          refine iteF ?_
          obtain ⟨i, rfl, _⟩ := inR_int e1
          obtain ⟨j, rfl, _⟩ := inR_int e2
          have e : isPr (some (.int i, .int j)) n = decide (¬ (V.int i = V.int j)) := by
            show (inR (.int i) 0 (n - 1) && inR (.int j) 0 (n - 1) && decide (asInt (.int i) ≠ asInt (.int j))) = _
            rw [e1, e2]
            simp [asInt]
          rw [e] at k
          refine ⟨_, rfl, _, rfl, rfl, ?_⟩
          have e3 : decide (¬ (V.int i = V.int j)) = !decide (V.int i = V.int j) := by simp
          rw [e3] at k
          exact k
end
end TR
namespace TR
open PySem PySem.Spec PyProof.Rows L2 L2.TT
abbrev iv (n : Nat) : V := .int (n : Int)
theorem iv_inj {a b : Nat} : (iv a = iv b) ↔ a = b := by
  show (V.int (a : Int) = V.int (b : Int)) ↔ a = b
  rw [V.int.injEq]
  omega
theorem map_get {α β : Type} {f : α → β} {l : List α} {i : Nat} {x : α} (h : l[i]? = some x) : (l.map f)[i]? = some (f x) := by rw [List.getElem?_map, h]; rfl
theorem map_got {α β : Type} {f : α → β} {l : List α} {i : Nat} {y : β} (h : (l.map f)[i]? = some y) : ∃ x, l[i]? = some x ∧ f x = y := by
  rw [List.getElem?_map] at h
  cases e : l[i]? with
  | none => rw [e] at h; cases h
  | some x => rw [e] at h; exact ⟨x, rfl, Option.some.inj h⟩
theorem atN {xs : List V} {n : Nat} {v : V} (h : xs[n]? = some v) : atI xs (n : Int) = some v := atI_nat h
theorem take_snoc {α : Type} {l : List α} {i : Nat} {x : α} (h : l[i]? = some x) : l.take (i + 1) = l.take i ++ [x] := by
  rw [List.take_succ, h]
  rfl
/-- the tracks stand in the heap as tuples -/
def Prs (H : Hp) (ps : List Addr) (tr : List E2) : Prop := ps.length = tr.length ∧ ∀ (i : Nat) (p : Addr) (e : E2), ps[i]? = some p → tr[i]? = some e → H p = some (.tup [iv e.1, iv e.2])
theorem Prs.same {H H' : Hp} {ps : List Addr} {tr : List E2} (h : Prs H ps tr) (s : Same H H') : Prs H' ps tr := ⟨h.1, fun i p e a b => s _ _ (h.2 i p e a b)⟩
theorem Prs.get {H : Hp} {ps : List Addr} {tr : List E2} (h : Prs H ps tr) {i : Nat} {v : V} (e : (ps.map V.ref)[i]? = some v) : ∃ p e, v = .ref p ∧ ps[i]? = some p ∧ tr[i]? = some e ∧ H p = some (.tup [iv e.1, iv e.2]) := by
  obtain ⟨p, hp, rfl⟩ := map_got e
  have hl := (List.getElem?_eq_some_iff.mp hp).1
  rw [h.1] at hl
  exact ⟨p, tr[i], rfl, hp, List.getElem?_eq_getElem hl, h.2 i p _ hp (List.getElem?_eq_getElem hl)⟩
theorem _root_.L2.Same.tp {K : PySem.W.Frag} {H H' : Hp} {a : Addr} {xs : List V} (e : Same H H') (h : SqT K H a xs) : SqT K H' a xs := by
  rcases h with (h | ⟨o, h⟩) | h
  · exact .inl (.inl (e _ _ h))
  · exact .inl (.inr ⟨o, e _ _ h⟩)
  · exact .inr h
theorem rgV_iv (n : Nat) : rgV 0 ((n : Int) + 1) = (List.range (n + 1)).map iv := by
  unfold rgV
  have e : ((n : Int) + 1 - 0).toNat = n + 1 := by omega
  rw [e]
  refine List.map_congr_left fun i _ => ?_
  show V.int (0 + (i : Int)) = V.int (i : Int)
  rw [Int.zero_add]
theorem same_upd {H : Hp} {p : Addr} (h : H p = none) (o : HO) : Same H (upd H p o) := fun b u e => by rw [upd_ne (ne_of_none e h)]; exact e
theorem isPr_ok {x y n : Nat} (hx : x < n) (hy : y < n) (ne : x ≠ y) : isPr (some (iv x, iv y)) (n : Int) = true := by
  show (inR (iv x) 0 ((n : Int) - 1) && inR (iv y) 0 ((n : Int) - 1) && decide (asInt (iv x) ≠ asInt (iv y))) = true
  have h1 : inR (iv x) 0 ((n : Int) - 1) = true := by
    show (decide ((0 : Int) ≤ (x : Int)) && decide ((x : Int) ≤ (n : Int) - 1)) = true
    rw [Bool.and_eq_true]
    exact ⟨decide_eq_true (by omega), decide_eq_true (by omega)⟩
  have h2 : inR (iv y) 0 ((n : Int) - 1) = true := by
    show (decide ((0 : Int) ≤ (y : Int)) && decide ((y : Int) ≤ (n : Int) - 1)) = true
    rw [Bool.and_eq_true]
    exact ⟨decide_eq_true (by omega), decide_eq_true (by omega)⟩
  rw [h1, h2]
  have h3 : asInt (iv x) ≠ asInt (iv y) := fun z => ne (by
    have z2 : some (x : Int) = some (y : Int) := z
    have := Option.some.inj z2
    omega)
  simp [h3]
def spJoin (K : PySem.W.Frag) : Sp := fun vs H Q _ => ∃ (a : Addr) (gs : List Nat) (o t x y : Nat), vs = [.ref a, iv o, iv t] ∧ SqL K H a (gs.map iv) ∧ gs.length ≤ 1000 ∧ gs[o]? = some x ∧ gs[t]? = some y ∧ ∀ p, H p = none → Q (.ref p) (upd H p (.lst ((join gs x y).map iv)))
theorem iteT' {c : Bool} {A B : Prop} (hc : c = true) (h : A) : if c = true then A else B := by
  rw [if_pos hc]
  exact h
theorem iteF' {c : Bool} {A B : Prop} (hc : c = false) (h : B) : if c = true then A else B := by
  rw [hc]
  exact iteF h
theorem ix_K {X : Cx} {K : PySem.W.Frag} (h : X.K = K) : IxR X (rIxL K) := by
  subst h
  exact ix_list
section
variable {P : Program} {w : World} {K : PySem.W.Frag} {mg : Str → Option Value} {base : Heap}
theorem sc_join : FnScope ["groups", "one", "other", "group"] ["groups", "one", "other"] (defScope s_joined) := ⟨rfl, rfl, rfl, by decide +kernel, rfl, by decide +kernel, by decide +kernel⟩
theorem ok_join {f : Addr} {fd : FuncData} (F : Fun K "joined" "joined" s_joined f fd) : FnOk P w K mg base CX0 1 f fd ["groups", "one", "other"] (spJoin K) := by
  refine F.ok sc_join (fun vs H Q E h => ?_) (fun cdv A outer s H vs Q E hr h => ?_)
  · obtain ⟨a, gs, o, t, x, y, rfl, _⟩ := h
    rfl
  · obtain ⟨a, gs, o, t, x, y, rfl, hS, hl, ho, ht, k⟩ := h
    refine ⟨_, pss_one (ps_ret (pe_lc (own := [("group", 3)]) (g := gName 3) (tt := tYes) rfl sc_join.nd (pi_list (pv 0)) (blkOk_by (N := ["groups", "one", "other", "group"]) (sc := defScope s_joined) (by decide +kernel))
      (fun _ _ _ _ _ => pg_name (i := 3) sc_join.nd rfl (Or.inl rfl)) (fun _ _ _ _ _ => pts_nil)
      (fun _ _ _ _ _ => pe_ifExp (pt_cmpR op_eq (pv 3) (pe_ix (ix_K (K := K) rfl) (pv 0) (pv 2) (fun _ _ => rfl)) (nomark _)) (pe_ix (ix_K (K := K) rfl) (pv 0) (pv 1) (fun _ _ => rfl)) (pv 3)))), ?_⟩
    refine ⟨_, rfl, a, rfl, ⟨_, hS⟩, fun D nD => ?_⟩
    have sD : ∀ o, Same H (upd H D o) := fun o b u e => by rw [upd_ne (ne_of_none e nD)]; exact e
    refine lc_list (K := K) (a := a) (xs := gs.map iv) (fun i H' => H' = upd H D (.lst (((join gs x y).take i).map iv))) (by simp) (fun i H' _ e => by rw [e]; exact (sD _).seq hS) (fun i v H' hv e => ?_) fun H' e => ?_
    · obtain ⟨g, hg, rfl⟩ := map_got hv
      subst e
      have hS1 := (sD (.lst (((join gs x y).take i).map iv))).seq hS
      have hD := upd_same (H := H) (a := D) (o := .lst (((join gs x y).take i).map iv))
      have hj : (join gs x y)[i]? = some (if g = y then x else g) := map_get hg
      have hlen : (((join gs x y).take i).map iv).length < sizeLine := by
        rw [List.length_map, List.length_take, sizeLine_eq, join, List.length_map]
        omega
      refine ⟨rfl, ?_⟩
      refine ⟨_, rfl, _, rfl, _, rfl, a, _, _, _, rfl, rfl, hS1, atN (map_get ht), rfl, _, rfl, ?_⟩
      by_cases c : g = y
      · rw [if_pos c] at hj
        subst c
        refine iteT' (decide_eq_true rfl) ?_
        refine ⟨_, rfl, _, rfl, a, _, _, _, rfl, rfl, hS1, atN (map_get ho), _, hD, hlen, ?_⟩
        rw [upd_upd, take_snoc hj, List.map_append]
        rfl
      · rw [if_neg c] at hj
        refine iteF' (decide_eq_false fun z => c (iv_inj.mp z)) ?_
        refine ⟨_, rfl, _, hD, hlen, ?_⟩
        rw [upd_upd, take_snoc hj, List.map_append]
        rfl
    · subst e
      have e : (join gs x y).take (gs.map iv).length = join gs x y := List.take_of_length_le (by rw [join]; simp)
      rw [e]
      exact k D nD
def spFirst (K : PySem.W.Frag) : Sp := fun vs H Q _ => ∃ (a : Addr) (ps : List Addr) (tr : List E2), vs = [.ref a] ∧ SqT K H a (ps.map V.ref) ∧ Prs H ps tr ∧ TreeL tr ∧ tr.length ≤ 999 ∧ ∀ H', Same H H' → Q .non H'
theorem sc_first : FnScope ["tracks", "size", "groups", "index", "track", "one", "other"] ["tracks"] (defScope s_first_wrong_track) := ⟨rfl, rfl, rfl, by decide +kernel, rfl, by decide +kernel, by decide +kernel⟩
theorem ok_first {f fP fJ : Addr} {fd fdP fdJ : FuncData} (F : Fun K "first_wrong_track" "first_wrong_track" s_first_wrong_track f fd) (N : Nm mg)
    (UP : Use P w K mg base CX0 3 "is_pair_of_stations" fP fdP ["value", "size"] (spPair K)) (UJ : Use P w K mg base CX0 1 "joined" fJ fdJ ["groups", "one", "other"] (spJoin K)) : FnOk P w K mg base CX0 4 f fd ["tracks"] (spFirst K) := by
  refine F.ok sc_first (fun vs H Q E h => ?_) (fun cdv A outer s H vs Q E hr h => ?_)
  · obtain ⟨a, ps, tr, rfl, _⟩ := h
    rfl
  · obtain ⟨a, ps, tr, rfl, hS, hP, T, hl, k⟩ := h
    refine ⟨_, pss_cons (ps_set (i := 1) sc_first.nd rfl (.inl rfl) (pe_op op_add (pe_callB call_len_seq (by rfl) N.len PySem.boot_len (pa_cons (pv 0) pa_nil)) pe_int))
      (pss_cons (ps_set (i := 2) sc_first.nd rfl (.inl rfl) (pe_listRg rfl (by rfl) N.list (prg_1 (by rfl) N.range (pv 1))))
      (pss_cons (ps_for PassesOwn.never rfl (pi_enumT (by rfl) N.enum (pa_cons (pv 0) pa_nil)) (pg_tup rfl (pgs_cons (pg_name (i := 3) sc_first.nd rfl (.inl rfl)) (pgs_cons (pg_name (i := 4) sc_first.nd rfl (.inl rfl)) pgs_nil)))
        (pss_cons (ps_if (pt_not (pt_val (pe_use UP hr rfl (pa_cons (pv 4) (pa_cons (pv 1) pa_nil))))) (pss_one (ps_ret (pv 3))) pss_nil)
        (pss_cons (ps_asg (pv 4) (pg_tup rfl (pgs_cons (pg_name (i := 5) sc_first.nd rfl (.inl rfl)) (pgs_cons (pg_name (i := 6) sc_first.nd rfl (.inl rfl)) pgs_nil))))
        (pss_cons (ps_if (pt_cmpR op_eq (pe_ix ix_list (pv 2) (pv 5) (fun _ _ => rfl)) (pe_ix ix_list (pv 2) (pv 6) (fun _ _ => rfl)) (nomark _)) (pss_one (ps_ret (pv 3))) pss_nil)
        (pss_one (ps_set (i := 2) sc_first.nd rfl (.inl rfl) (pe_use UJ (hr.mono (by decide)) rfl (pa_cons (pv 2) (pa_cons (pv 5) (pa_cons (pv 6) pa_nil))))))))))
      (pss_one (ps_ret pe_non)))), ?_⟩
    have lp : (ps.map V.ref).length = tr.length := by rw [List.length_map, hP.1]
    refine ⟨_, rfl, a, _, rfl, .inr hS, _, _, rfl, rfl, ?_⟩
    refine ⟨_, rfl, _, rfl, ?_⟩
    refine ⟨RgOk.of_le (by decide) (by rw [lp]; omega) (by decide) (by omega), fun g0 ng => ?_⟩
    have s0 := same_upd ng (.lst (rgV 0 (((ps.map V.ref).length : Int) + 1)))
    have e0 : rgV 0 (((ps.map V.ref).length : Int) + 1) = (List.range (tr.length + 1)).map iv := by rw [lp, rgV_iv]
    have hg0 : upd H g0 (.lst (rgV 0 (((ps.map V.ref).length : Int) + 1))) g0 = some (.lst ((List.range (tr.length + 1)).map iv)) := by rw [← e0]; exact upd_same
    refine ⟨_, rfl, a, _, rfl, s0.tp hS, for_enumT (K := K) (a := a) (xs := ps.map V.ref) (fun i σ H' => ∃ (gs : List Nat) (g : Addr) (x3 x4 x5 x6 : Option V), σ = [some (.ref a), some (.int (((ps.map V.ref).length : Int) + 1)), some (.ref g), x3, x4, x5, x6] ∧ Same H H' ∧ H' g = some (.lst (gs.map iv)) ∧ GI tr i gs)
      ⟨List.range (tr.length + 1), g0, none, none, none, none, rfl, s0, hg0, GI.start tr⟩ (fun i σ H' _ ⟨_, _, _, _, _, _, _, s1, _⟩ => s1.tp hS) ?_ ?_⟩
    · rintro i v T0 σ H' hv ⟨gs, g, x3, x4, x5, x6, rfl, s1, hg, G⟩ nT
      obtain ⟨p, e, rfl, hp, he, hH⟩ := hP.get hv
      have hm := List.mem_of_getElem? he
      have sT := same_upd nT (.tup [V.int (i : Nat), V.ref p])
      have hT := upd_same (H := H') (a := T0) (o := .tup [V.int (i : Nat), V.ref p])
      have s2 := s1.trans sT
      have hg2 := sT _ _ hg
      have hH2 := s2 _ _ hH
      generalize upd H' T0 (.tup [V.int (i : Nat), V.ref p]) = H2 at sT hT s2 hg2 hH2
      have b1 := T.lt1 hm
      obtain ⟨x, hx⟩ : ∃ x, gs[e.1]? = some x := ⟨_, List.getElem?_eq_getElem (by rw [G.1]; exact b1.1)⟩
      obtain ⟨y, hy⟩ : ∃ y, gs[e.2]? = some y := ⟨_, List.getElem?_eq_getElem (by rw [G.1]; exact b1.2)⟩
      have nxy := G.ne T he hx hy
      refine ⟨T0, _, rfl, SqT.of hT, rfl, ?_⟩
      refine ⟨_, _, rfl, _, _, rfl, rfl, ?_⟩
      -- if not is_pair_of_stations(track, size)
      refine ⟨_, rfl, _, rfl, _, _, _, rfl, .two hH2 (.inl ⟨_, rfl⟩) (.inl ⟨_, rfl⟩), _, rfl, ?_⟩
      rw [lp]
      rw [show isPr (some (iv e.1, iv e.2)) ((tr.length : Int) + 1) = true from isPr_ok (n := tr.length + 1) b1.1 b1.2 (T.ne e hm)]
      refine iteF ?_
      -- one, other = track
      refine ⟨_, rfl, p, _, rfl, SqT.of hH2, rfl, ?_⟩
      refine ⟨_, _, rfl, _, _, rfl, rfl, ?_⟩
      -- if groups[one] == groups[other]
      refine ⟨_, rfl, _, rfl, g, _, _, _, rfl, rfl, SqL.of hg2, atN (map_get hx), _, rfl, _, rfl, g, _, _, _, rfl, rfl, SqL.of hg2, atN (map_get hy), rfl, _, rfl, ?_⟩
      refine iteF' (decide_eq_false fun z => nxy (iv_inj.mp z)) ?_
      -- groups = joined(groups, one, other)
      refine ⟨_, rfl, _, rfl, _, rfl, g, gs, e.1, e.2, x, y, rfl, SqL.of hg2, by rw [G.1]; omega, hx, hy, fun q nq => ?_⟩
      exact ⟨join gs x y, q, _, _, _, _, rfl, s2.trans (same_upd nq _), upd_same, G.next T he hx hy⟩
    · rintro σ H' ⟨gs, g, x3, x4, x5, x6, rfl, s1, hg, G⟩
      exact k H' s1
end
end TR
namespace TR
open PySem PySem.Spec PyProof.Rows L2 L2.TT
/-- a list of lists (or tuples) in the heap: rows as f tells, all apart, none before in H -/
structure Rws (H H' : Hp) (r : Addr) (n : Nat) (o : List V → HO) (as : List Addr) (f : Nat → List Nat) : Prop where
  own : H' r = some (.lst (as.map V.ref))
  new : H r = none
  len : as.length = n
  at_ : ∀ (v : Nat) (a : Addr), as[v]? = some a → H' a = some (o ((f v).map iv)) ∧ H a = none ∧ a ≠ r
  nd : as.Nodup
theorem ints_map (l : List Nat) : (l.map Int.ofNat).map V.int = l.map iv := by rw [List.map_map]; rfl
theorem nodup_snoc {α : Type} {l : List α} {a : α} (h : l.Nodup) (ha : a ∉ l) : (l ++ [a]).Nodup := by
  rw [List.nodup_append]
  refine ⟨h, by simp, fun x hx y hy => ?_⟩
  rw [List.mem_singleton] at hy
  rintro rfl
  exact ha (hy ▸ hx)
theorem get_snoc {α : Type} {l : List α} {a x : α} {i : Nat} (h : (l ++ [a])[i]? = some x) : l[i]? = some x ∨ (i = l.length ∧ x = a) := by
  by_cases c : i < l.length
  · rw [List.getElem?_append_left c] at h
    exact .inl h
  · rw [List.getElem?_append_right (by omega)] at h
    by_cases c2 : i - l.length = 0
    · rw [c2] at h
      exact .inr ⟨by omega, (Option.some.inj h).symm⟩
    · exfalso
      obtain ⟨k, hk⟩ := Nat.exists_eq_succ_of_ne_zero c2
      rw [hk] at h
      cases h
/-- [[] for station in range(n)] -/
theorem rws_start {H : Hp} {r : Addr} (o : List V → HO) (f : Nat → List Nat) (nr : H r = none) : Rws H (upd H r (.lst [])) r 0 o [] f := ⟨upd_same, nr, rfl, fun v a h => (by cases h), List.nodup_nil⟩
theorem Rws.grow {H H' : Hp} {r : Addr} {n : Nat} {o : List V → HO} {as : List Addr} {f : Nat → List Nat} (R : Rws H H' r n o as f) (s : Same H H') {p : Addr} {H2 : Hp} (np : H' p = none) (s2 : ∀ b, b ≠ p → H' b ≠ none → H2 b = H' b) (hp : H2 p = some (o ((f n).map iv))) :
    Rws H (upd H2 r (.lst (as.map V.ref ++ [.ref p]))) r (n + 1) o (as ++ [p]) f := by
  have npr : p ≠ r := fun z => by rw [z, R.own] at np; cases np
  refine ⟨by rw [upd_same, List.map_append]; rfl, R.new, by rw [List.length_append, R.len]; rfl, fun v a h => ?_, ?_⟩
  · rcases get_snoc h with h | ⟨e, rfl⟩
    · obtain ⟨h1, h2, h3⟩ := R.at_ v a h
      have nap : a ≠ p := fun z => by rw [z, np] at h1; cases h1
      exact ⟨by rw [upd_ne h3, s2 a nap (by rw [h1]; simp)]; exact h1, h2, h3⟩
    · rw [R.len] at e
      subst e
      exact ⟨by rw [upd_ne npr]; exact hp, s.free np, npr⟩
  · refine nodup_snoc R.nd fun hm => ?_
    obtain ⟨i, hi⟩ := List.mem_iff_getElem?.mp hm
    have := (R.at_ i p hi).1
    rw [np] at this
    cases this
theorem Rws.same {H H' : Hp} {r : Addr} {n : Nat} {o : List V → HO} {as : List Addr} {f : Nat → List Nat} (R : Rws H H' r n o as f) {H2 : Hp} (s : Same H' H2) : Rws H H2 r n o as f :=
  ⟨s _ _ R.own, R.new, R.len, fun v a h => ⟨s _ _ (R.at_ v a h).1, (R.at_ v a h).2⟩, R.nd⟩
/-- one row is grown -/
theorem Rws.put {H H' : Hp} {r : Addr} {n : Nat} {o : List V → HO} {as : List Addr} {f g : Nat → List Nat} (R : Rws H H' r n o as f) {v : Nat} {a : Addr} (ha : as[v]? = some a) (hg : ∀ u, u ≠ v → g u = f u) :
    Rws H (upd H' a (o ((g v).map iv))) r n o as g := by
  obtain ⟨h1, h2, h3⟩ := R.at_ v a ha
  refine ⟨by rw [upd_ne h3.symm]; exact R.own, R.new, R.len, fun u b hb => ?_, R.nd⟩
  obtain ⟨k1, k2, k3⟩ := R.at_ u b hb
  refine ⟨?_, k2, k3⟩
  by_cases c : u = v
  · subst c
    rw [ha] at hb
    cases hb
    exact upd_same
  · have ne : b ≠ a := by
      rintro rfl
      have hl := (List.getElem?_eq_some_iff.mp hb).1
      exact c ((List.getElem?_inj hl R.nd).mp (hb.trans ha.symm))
    rw [upd_ne ne, hg u c]
    exact k1
theorem same_old {H H' : Hp} {a : Addr} (s : Same H H') (na : H a = none) (o : HO) : Same H (upd H' a o) := fun b u e => by rw [upd_ne (ne_of_none e na)]; exact s b u e
theorem Rws.base {H0 H H' : Hp} {r : Addr} {n : Nat} {o : List V → HO} {as : List Addr} {f : Nat → List Nat} (R : Rws H H' r n o as f) (s : Same H0 H) : Rws H0 H' r n o as f :=
  ⟨R.own, s.free R.new, R.len, fun v a h => ⟨(R.at_ v a h).1, s.free (R.at_ v a h).2.1, (R.at_ v a h).2.2⟩, R.nd⟩
theorem Rws.get {H H' : Hp} {r : Addr} {n : Nat} {o : List V → HO} {as : List Addr} {f : Nat → List Nat} (R : Rws H H' r n o as f) {v : Nat} (h : v < n) : ∃ a, as[v]? = some a ∧ H' a = some (o ((f v).map iv)) ∧ H a = none ∧ a ≠ r := by
  have hl : v < as.length := by rw [R.len]; exact h
  exact ⟨as[v], List.getElem?_eq_getElem hl, R.at_ v _ (List.getElem?_eq_getElem hl)⟩
theorem Rws.cong {H H' : Hp} {r : Addr} {n : Nat} {o : List V → HO} {as : List Addr} {f g : Nat → List Nat} (R : Rws H H' r n o as f) (e : ∀ v, v < n → f v = g v) : Rws H H' r n o as g :=
  ⟨R.own, R.new, R.len, fun v a h => by
    have hl := (List.getElem?_eq_some_iff.mp h).1
    rw [R.len] at hl
    rw [← e v hl]
    exact R.at_ v a h, R.nd⟩
end TR
namespace TR
open PySem PySem.Spec PyProof.Rows L2 L2.TT
theorem ixN_lt {n v : Nat} (h : v < n) : ixN n (v : Int) = some v := by
  unfold ixN
  rw [if_pos (by omega), if_pos (by omega)]
  simp
theorem cs_K {X : Cx} {K : PySem.W.Frag} (h : X.K = K) : CallR X (.builtin "sorted") (rSortedI K) := by
  subst h
  exact cr_sortedI
def rTupOf (K : PySem.W.Frag) : List V → Hp → VK → Prop := fun xs H Q => ∃ p ys, xs = [.ref p] ∧ ((SqL K H p ys ∧ ∀ l, H l = none → Q (.ref l) (upd H l (.tup ys))) ∨ (SqT K H p ys ∧ Q (.ref p) H))
theorem ct_K {X : Cx} {K : PySem.W.Frag} (h : X.K = K) : CallR X (.type "tuple") (rTupOf K) := by
  subst h
  exact call_tuple_of
def spNbs (K : PySem.W.Frag) : Sp := fun vs H Q _ => ∃ (a : Addr) (ps : List Addr) (tr : List E2), vs = [.ref a] ∧ SqT K H a (ps.map V.ref) ∧ Prs H ps tr ∧ (∀ e ∈ tr, e.1 ≠ e.2 ∧ e.1 < tr.length + 1 ∧ e.2 < tr.length + 1) ∧ tr.length ≤ 999 ∧
  ∀ (D : Addr) (ts : List Addr) (H' : Hp), Same H H' → Rws H H' D (tr.length + 1) HO.tup ts (nb tr) → Q (.ref D) H'
section
variable {P : Program} {w : World} {K : PySem.W.Frag} {mg : Str → Option Value} {base : Heap}
theorem sc_nbs : FnScope ["tracks", "rows", "one", "other", "station", "row"] ["tracks"] (defScope s_neighbours_of) := ⟨rfl, rfl, rfl, by decide +kernel, rfl, by decide +kernel, by decide +kernel⟩
theorem ok_nbs {f : Addr} {fd : FuncData} (F : Fun K "_neighbours_of" "_neighbours_of" s_neighbours_of f fd) (N : Nm mg) : FnOk P w K mg base CX0 1 f fd ["tracks"] (spNbs K) := by
  refine F.ok sc_nbs (fun vs H Q E h => ?_) (fun cdv A outer s H vs Q E hr h => ?_)
  · obtain ⟨a, ps, tr, rfl, _⟩ := h
    rfl
  · obtain ⟨a, ps, tr, rfl, hS, hP, T, hl, k⟩ := h
    refine ⟨_, pss_cons (ps_setLc (i := 1) (own := [("station", 4)]) (g := gName 4) (tt := tYes) (by rfl) sc_nbs.nd rfl rfl (sw_true rfl rfl rfl (by decide +kernel))
        (pi_range1 (by rfl) N.range (pa_cons (pe_op op_add (pe_callB call_len_seq (by rfl) N.len PySem.boot_len (pa_cons (pv 0) pa_nil)) pe_int) pa_nil))
        (blkOk_by (N := ["tracks", "rows", "one", "other", "station", "row"]) (sc := defScope s_neighbours_of) (by decide +kernel))
        (fun _ _ _ _ _ => pg_name (i := 4) sc_nbs.nd rfl (Or.inl rfl)) (fun _ _ _ _ _ => pts_nil) (fun _ _ _ _ _ => pe_lst pa_nil))
      (pss_cons (ps_for PassesOwn.never rfl (pi_tup (pv 0)) (pg_tup rfl (pgs_cons (pg_name (i := 2) sc_nbs.nd rfl (.inl rfl)) (pgs_cons (pg_name (i := 3) sc_nbs.nd rfl (.inl rfl)) pgs_nil)))
        (pss_cons (ps_expr (pe_bm PySem.F.plainAttrs_list PySem.F.slot_list_append PySem.F.type_list_append mt_append (pe_ix ix_list (pv 1) (pv 2) (fun _ _ => rfl)) (pa_cons (pv 3) pa_nil)))
        (pss_one (ps_expr (pe_bm PySem.F.plainAttrs_list PySem.F.slot_list_append PySem.F.type_list_append mt_append (pe_ix ix_list (pv 1) (pv 3) (fun _ _ => rfl)) (pa_cons (pv 2) pa_nil))))))
      (pss_one (ps_ret (pe_lc (own := [("row", 5)]) (g := gName 5) (tt := tYes) rfl sc_nbs.nd (pi_list (pv 1)) (blkOk_by (N := ["tracks", "rows", "one", "other", "station", "row"]) (sc := defScope s_neighbours_of) (by decide +kernel))
        (fun _ _ _ _ _ => pg_name (i := 5) sc_nbs.nd rfl (Or.inl rfl)) (fun _ _ _ _ _ => pts_nil)
        (fun _ _ _ _ _ => pe_callTy (ct_K (K := K) rfl) (by rfl) N.tuple boot_tuple (pa_cons (pe_callB (cs_K (K := K) rfl) (by rfl) N.sorted boot_sorted (pa_cons (pv 5) pa_nil)) pa_nil)))))), ?_⟩
    have lp : (ps.map V.ref).length = tr.length := by rw [List.length_map, hP.1]
    have e62 : (2 : Int) ^ 62 = 4611686018427387904 := by decide
    refine ⟨_, rfl, a, _, rfl, .inr hS, _, _, rfl, rfl, _, rfl, by omega, by rw [lp, e62]; omega, fun r nr => ?_⟩
    refine lc_range (lo := 0) (fun i H' => ∃ as, Rws H H' r i HO.lst as (fun _ => []) ∧ Same H H') ⟨[], rws_start _ _ nr, same_upd nr _⟩ ?_ ?_
    · rintro i H' hi ⟨as, R, s1⟩
      refine ⟨rfl, by show 0 ≤ sizeLine; exact Nat.zero_le _, fun p np => ⟨as.map V.ref, ?_, ?_, as ++ [p], ?_, ?_⟩⟩
      · have npr : r ≠ p := fun z => by rw [← z, R.own] at np; cases np
        rw [upd_ne npr]
        exact R.own
      · rw [List.length_map, R.len, sizeLine_eq]
        rw [lp] at hi
        omega
      · exact R.grow s1 np (fun b hb _ => upd_ne hb) upd_same
      · exact same_old (s1.trans (same_upd np _)) nr _
    rintro H1 ⟨as, R, s1⟩
    have en : (((ps.map V.ref).length : Int) + 1).toNat = tr.length + 1 := by rw [lp]; omega
    have R1 : Rws H H1 r (tr.length + 1) HO.lst as (fun _ => []) := en ▸ R
    clear R
    -- for one, other in tracks
    refine ⟨_, rfl, a, rfl, ⟨_, s1.tp hS⟩, for_tup (K := K) (a := a) (xs := ps.map V.ref) (fun i σ H' => ∃ (as : List Addr) (x2 x3 x4 x5 : Option V), σ = [some (.ref a), some (.ref r), x2, x3, x4, x5] ∧ Same H H' ∧ Rws H H' r (tr.length + 1) HO.lst as (rowOf (tr.take i)))
      ⟨as, none, none, none, none, rfl, s1, R1⟩ (fun i σ H' _ ⟨_, _, _, _, _, _, s2, _⟩ => s2.tp hS) ?_ ?_⟩
    · rintro i v σ H' hv ⟨as, x2, x3, x4, x5, rfl, s2, R⟩
      obtain ⟨p, e, rfl, hp, he, hH⟩ := hP.get hv
      have hm := List.mem_of_getElem? he
      obtain ⟨ne, b1, b2⟩ := T e hm
      have hH2 := s2 _ _ hH
      refine ⟨p, _, rfl, SqT.of hH2, rfl, ?_⟩
      refine ⟨_, _, rfl, _, _, rfl, rfl, ?_⟩
      obtain ⟨r1, g1, h1, n1, d1⟩ := R.get b1
      have hlen : ∀ u, ((rowOf (tr.take i) u).map iv).length ≤ 999 := fun u => by
        rw [List.length_map]
        have := rowOf_len (tr.take i) u
        rw [List.length_take] at this
        omega
      refine ⟨_, rfl, _, rfl, r, _, _, _, rfl, rfl, SqL.of R.own, atN (map_get g1), .inl ⟨rfl, _, SqL.of h1⟩, _, rfl, _, _, _, rfl, rfl, h1, by rw [sizeLine_eq]; have := hlen e.1; omega, ?_⟩
      have e1 : (rowOf (tr.take i) e.1).map iv ++ [iv e.2] = ((fun u => if u = e.1 then rowOf (tr.take i) u ++ [e.2] else rowOf (tr.take i) u) e.1).map iv := by simp
      have R2 := R.put (g := fun u => if u = e.1 then rowOf (tr.take i) u ++ [e.2] else rowOf (tr.take i) u) g1 (fun u hu => by simp [hu])
      rw [← e1] at R2
      have s3 := same_old s2 n1 (.lst ((rowOf (tr.take i) e.1).map iv ++ [iv e.2]))
      generalize upd H' r1 (.lst ((rowOf (tr.take i) e.1).map iv ++ [iv e.2])) = H2 at R2 s3
      obtain ⟨r2, g2, h2, n2, d2⟩ := R2.get b2
      rw [if_neg fun z => ne z.symm] at h2
      refine ⟨_, rfl, _, rfl, r, _, _, _, rfl, rfl, SqL.of R2.own, atN (map_get g2), .inl ⟨rfl, _, SqL.of h2⟩, _, rfl, _, _, _, rfl, rfl, h2, by rw [sizeLine_eq]; have := hlen e.2; omega, ?_⟩
      have et : tr.take (i + 1) = tr.take i ++ [e] := take_snoc he
      have e2 : (rowOf (tr.take i) e.2).map iv ++ [iv e.1] = (rowOf (tr.take (i + 1)) e.2).map iv := by
        rw [et, rowOf_snoc, List.map_append]
        have : bit e.2 e = [e.1] := by unfold bit; rw [if_neg ne, if_pos rfl]
        rw [this]
        rfl
      refine ⟨as, _, _, _, _, rfl, same_old s3 n2 _, ?_⟩
      rw [e2]
      refine R2.put g2 fun u hu => ?_
      rw [et, rowOf_snoc]
      show rowOf (tr.take i) u ++ bit u e = if u = e.1 then rowOf (tr.take i) u ++ [e.2] else rowOf (tr.take i) u
      by_cases c : u = e.1
      · rw [if_pos c]
        unfold bit
        rw [if_pos c.symm]
      · rw [if_neg c]
        unfold bit
        rw [if_neg fun z => c z.symm, if_neg fun z => hu z.symm, List.append_nil]
    · rintro σ H' ⟨as, x2, x3, x4, x5, rfl, s2, R⟩
      have ea : tr.take (ps.map V.ref).length = tr := by rw [lp]; exact List.take_length
      rw [ea] at R
      refine ⟨_, rfl, r, rfl, ⟨_, SqL.of R.own⟩, fun D nD => ?_⟩
      refine lc_list (K := K) (a := r) (xs := as.map V.ref) (fun i H2 => ∃ ts, Rws H' H2 D i HO.tup ts (nb tr) ∧ Same H' H2) ⟨[], rws_start _ _ nD, same_upd nD _⟩ (fun i H2 _ ⟨_, _, s3⟩ => s3.seq (SqL.of R.own)) ?_ ?_
      · rintro i v H2 hv ⟨ts, R2, s3⟩
        obtain ⟨b, hb, rfl⟩ := map_got hv
        obtain ⟨h1, _, _⟩ := R.at_ i b hb
        refine ⟨rfl, ?_⟩
        refine ⟨_, rfl, b, (rowOf tr i).map Int.ofNat, rfl, by rw [ints_map]; exact s3.seq (SqL.of h1), fun ns' p hp hs np => ?_⟩
        have en' : ns'.map V.int = (nb tr i).map iv := by
          rw [srt_of hp hs, ints_map]
          rfl
        rw [en']
        refine ⟨p, _, rfl, .inl ⟨SqL.of upd_same, fun l nl => ⟨ts.map V.ref, ?_, ?_, ts ++ [l], ?_, ?_⟩⟩⟩
        · have n1 : D ≠ l := fun z => by
            rw [← z, same_upd np _ _ _ R2.own] at nl
            cases nl
          rw [upd_ne n1]
          exact same_upd np _ _ _ R2.own
        · rw [List.length_map, R2.len, sizeLine_eq]
          have := (List.getElem?_eq_some_iff.mp hb).1
          rw [R.len] at this
          omega
        · refine (R2.same (same_upd np _)).grow (s3.trans (same_upd np _)) nl (fun b hb _ => upd_ne hb) upd_same
        · exact same_old ((s3.trans (same_upd np _)).trans (same_upd nl _)) nD _
      · rintro H2 ⟨ts, R2, s3⟩
        refine k D ts H2 (s2.trans s3) ?_
        have el : (as.map V.ref).length = tr.length + 1 := by rw [List.length_map, R.len]
        rw [← el]
        exact R2.base s2
end
end TR
namespace TR
open PySem PySem.Spec PyProof.Rows L2 L2.TT
def vec (n : Nat) (f : Nat → Nat) : List V := (List.range n).map fun v => iv (f v)
theorem vec_len (n : Nat) (f : Nat → Nat) : (vec n f).length = n := by simp [vec]
theorem vec_get {n v : Nat} {f : Nat → Nat} (h : v < n) : (vec n f)[v]? = some (iv (f v)) := by
  unfold vec
  rw [List.getElem?_map, List.getElem?_range h]
  rfl
theorem vec_snoc (n : Nat) (f : Nat → Nat) : vec (n + 1) f = vec n f ++ [iv (f n)] := by
  unfold vec
  rw [List.range_succ, List.map_append]
  rfl
theorem vec_set {n j x : Nat} {f : Nat → Nat} : (vec n f).set j (iv x) = vec n (fun v => if v = j then x else f v) := by
  apply List.ext_getElem?
  intro i
  rw [List.getElem?_set]
  by_cases hi : i < n
  · rw [vec_get hi, vec_get hi, vec_len]
    by_cases c : j = i
    · subst c
      rw [if_pos rfl, if_pos hi, if_pos rfl]
    · rw [if_neg c, if_neg fun z => c z.symm]
  · have e1 : (vec n f)[i]? = none := by rw [List.getElem?_eq_none_iff, vec_len]; omega
    have e2 : (vec n (fun v => if v = j then x else f v))[i]? = none := by rw [List.getElem?_eq_none_iff, vec_len]; omega
    rw [e1, e2, vec_len]
    by_cases c : j = i
    · subst c
      rw [if_pos rfl, if_neg hi]
    · rw [if_neg c]
theorem vec_cong {n : Nat} {f g : Nat → Nat} (h : ∀ v, v < n → f v = g v) : vec n f = vec n g := by
  unfold vec
  refine List.map_congr_left fun v hv => ?_
  rw [h v (List.mem_range.mp hv)]
noncomputable def fA (tr : List E2) (k v : Nat) : Nat := if dep tr v ≤ k then p0 tr v else 0
noncomputable def gA (tr : List E2) (k v : Nat) : Nat := if dep tr v ≤ k then dep tr v else 0
noncomputable def fB (tr : List E2) (k : Nat) (bl : List Nat) (v : Nat) : Nat := if v ∈ bl then par tr v else fA tr k v
noncomputable def gB (tr : List E2) (k : Nat) (bl : List Nat) (v : Nat) : Nat := if v ∈ bl then dep tr v else gA tr k v
/-- the two lists under way -/
structure Two (H H' : Hp) (A L : Addr) (n : Nat) (f g : Nat → Nat) : Prop where
  same : Same H H'
  nA : H A = none
  nL : H L = none
  ne : A ≠ L
  hA : H' A = some (.lst (vec n f))
  hL : H' L = some (.lst (vec n g))
theorem Two.ext {H H' H2 : Hp} {A L : Addr} {n : Nat} {f g : Nat → Nat} (t : Two H H' A L n f g) (s : Same H' H2) : Two H H2 A L n f g := ⟨t.same.trans s, t.nA, t.nL, t.ne, s _ _ t.hA, s _ _ t.hL⟩
theorem Two.cong {H H' : Hp} {A L : Addr} {n : Nat} {f g f' g' : Nat → Nat} (t : Two H H' A L n f g) (e : ∀ v, v < n → f v = f' v) (e' : ∀ v, v < n → g v = g' v) : Two H H' A L n f' g' := ⟨t.same, t.nA, t.nL, t.ne, by rw [← vec_cong e]; exact t.hA, by rw [← vec_cong e']; exact t.hL⟩
def spPlaces (K : PySem.W.Frag) : Sp := fun vs H Q _ => ∃ (a : Addr) (ts : List Addr) (tr : List E2), vs = [.ref a] ∧ SqL K H a (ts.map V.ref) ∧ ts.length = tr.length + 1 ∧ (∀ (v : Nat) (t : Addr), ts[v]? = some t → H t = some (.tup ((nb tr v).map iv))) ∧ TreeL tr ∧ tr.length ≤ 999 ∧
  ∀ (t A L : Addr) (H' : Hp), Two H H' A L (tr.length + 1) (p0 tr) (dep tr) → H' t = some (.tup [.ref A, .ref L]) → Q (.ref t) H'
/-- the state of a layer's walk -/
structure St3 (H H' : Hp) (A L lr b : Addr) (tr : List E2) (k : Nat) (bl : List Nat) : Prop where
  two : Two H H' A L (tr.length + 1) (fB tr k bl) (gB tr k bl)
  hlr : H' lr = some (.lst ((lay tr k).map iv))
  hb : H' b = some (.lst (bl.map iv))
theorem flat_take (tr : List E2) (k i : Nat) : (((lay tr k).take i).flatMap (kids tr)).length ≤ (lay tr (k + 1)).length := by
  show _ ≤ ((lay tr k).flatMap (kids tr)).length
  rw [show (lay tr k).flatMap (kids tr) = ((lay tr k).take i).flatMap (kids tr) ++ ((lay tr k).drop i).flatMap (kids tr) by rw [← List.flatMap_append, List.take_append_drop], List.length_append]
  omega
section
variable {P : Program} {w : World} {K : PySem.W.Frag} {mg : Str → Option Value} {base : Heap}
abbrev NPl : List Str := ["neighbours", "station", "above", "levels", "layer", "below", "near"]
theorem sc_pl : FnScope NPl ["neighbours"] (defScope s_places_below_first) := ⟨rfl, rfl, rfl, by decide +kernel, rfl, by decide +kernel, by decide +kernel⟩
theorem ok_places {f : Addr} {fd : FuncData} (F : Fun K "_places_below_first" "_places_below_first" s_places_below_first f fd) (N : Nm mg) : FnOk P w K mg base CX0 1 f fd ["neighbours"] (spPlaces K) := by
  refine F.ok sc_pl (fun vs H Q E h => ?_) (fun cdv A outer s H vs Q E hr h => ?_)
  · obtain ⟨a, ts, tr, rfl, _⟩ := h
    rfl
  · obtain ⟨a, ts, tr, rfl, hS, hts, hT, T, hl, k⟩ := h
    refine ⟨_, pss_cons (ps_setLc (i := 2) (own := [("station", 1)]) (g := gName 1) (tt := tYes) (by rfl) sc_pl.nd rfl rfl (sw_true rfl rfl rfl (by decide +kernel))
        (pi_list (pv 0)) (blkOk_by (N := NPl) (sc := defScope s_places_below_first) (by decide +kernel))
        (fun _ _ _ _ _ => pg_name (i := 1) sc_pl.nd rfl (Or.inl rfl)) (fun _ _ _ _ _ => pts_nil) (fun _ _ _ _ _ => pe_int))
      (pss_cons (ps_setLc (i := 3) (own := [("station", 1)]) (g := gName 1) (tt := tYes) (by rfl) sc_pl.nd rfl rfl (sw_true rfl rfl rfl (by decide +kernel))
        (pi_list (pv 0)) (blkOk_by (N := NPl) (sc := defScope s_places_below_first) (by decide +kernel))
        (fun _ _ _ _ _ => pg_name (i := 1) sc_pl.nd rfl (Or.inl rfl)) (fun _ _ _ _ _ => pts_nil) (fun _ _ _ _ _ => pe_int))
      (pss_cons (ps_set (i := 4) sc_pl.nd rfl (.inl rfl) (pe_lst (pa_cons pe_int pa_nil)))
      (pss_cons (ps_while PassesOwn.never (pt_truth (pv 4) (by intro _; rfl))
        (pss_cons (ps_set (i := 5) sc_pl.nd rfl (.inl rfl) (pe_lst pa_nil))
        (pss_cons (ps_for PassesOwn.never rfl (pi_list (pv 4)) (pg_name (i := 1) sc_pl.nd rfl (.inl rfl))
          (pss_one (ps_for PassesOwn.never rfl (pi_tup (pe_ix ix_list (pv 0) (pv 1) (fun _ _ => rfl))) (pg_name (i := 6) sc_pl.nd rfl (.inl rfl))
            (pss_one (ps_if (pt_cmpR op_ne (pv 6) (pe_ix ix_list (pv 2) (pv 1) (fun _ _ => rfl)) (nomark _))
              (pss_cons (ps_asg (pv 1) (pg_sub (pv 2) (pv 6) set_list))
              (pss_cons (ps_asg (pe_op op_add (pe_ix ix_list (pv 3) (pv 1) (fun _ _ => rfl)) pe_int) (pg_sub (pv 3) (pv 6) set_list))
              (pss_one (ps_expr (pe_bm PySem.F.plainAttrs_list PySem.F.slot_list_append PySem.F.type_list_append mt_append (pv 5) (pa_cons (pv 6) pa_nil)))))) pss_nil)))))
        (pss_one (ps_set (i := 4) sc_pl.nd rfl (.inl rfl) (pv 5))))))
      (pss_one (ps_ret (pe_tup (pa_cons (pv 2) (pa_cons (pv 3) pa_nil)))))))), ?_⟩
    have lts : (ts.map V.ref).length = tr.length + 1 := by rw [List.length_map, hts]
    refine ⟨_, rfl, a, rfl, ⟨_, hS⟩, fun Aa nA => ?_⟩
    refine lc_list (K := K) (a := a) (xs := ts.map V.ref) (fun i H' => H' = upd H Aa (.lst (vec i fun _ => 0))) rfl (fun i H' _ e => by rw [e]; exact (same_upd nA _).seq hS) (fun i v H' hv e => ?_) fun H1 e => ?_
    · subst e
      have hi := (List.getElem?_eq_some_iff.mp hv).1
      exact ⟨rfl, _, upd_same, by rw [vec_len, sizeLine_eq]; omega, by rw [upd_upd, vec_snoc]; rfl⟩
    have s1 : Same H H1 := e ▸ same_upd nA _
    have hA1 : H1 Aa = some (.lst (vec (tr.length + 1) fun _ => 0)) := by rw [e, lts]; exact upd_same
    clear e
    refine ⟨_, rfl, a, rfl, ⟨_, s1.seq hS⟩, fun L nL1 => ?_⟩
    refine lc_list (K := K) (a := a) (xs := ts.map V.ref) (fun i H' => H' = upd H1 L (.lst (vec i fun _ => 0))) rfl (fun i H' _ e => by rw [e]; exact (same_upd nL1 _).seq (s1.seq hS)) (fun i v H' hv e => ?_) fun H2 e => ?_
    · subst e
      have hi := (List.getElem?_eq_some_iff.mp hv).1
      exact ⟨rfl, _, upd_same, by rw [vec_len, sizeLine_eq]; omega, by rw [upd_upd, vec_snoc]; rfl⟩
    have s2 : Same H1 H2 := e ▸ same_upd nL1 _
    have hL2 : H2 L = some (.lst (vec (tr.length + 1) fun _ => 0)) := by rw [e, lts]; exact upd_same
    clear e
    have nAL : Aa ≠ L := fun z => by rw [← z, hA1] at nL1; cases nL1
    have tw0 : Two H H2 Aa L (tr.length + 1) (fun _ => 0) (fun _ => 0) := ⟨s1.trans s2, nA, s1.free nL1, nAL, s2 _ _ hA1, hL2⟩
    clear s1 s2 hA1 hL2 nL1
    refine ⟨by show 1 ≤ sizeLine; rw [sizeLine_eq]; decide, fun lr nlr => ?_⟩
    have l0A : lr ≠ Aa := fun z => by rw [z, tw0.hA] at nlr; cases nlr
    have l0L : lr ≠ L := fun z => by rw [z, tw0.hL] at nlr; cases nlr
    have tw1 := tw0.ext (same_upd nlr (.lst [V.int 0]))
    have hlr1 := upd_same (H := H2) (a := lr) (o := .lst [V.int 0])
    have nlrH := tw0.same.free nlr
    generalize upd H2 lr (.lst [V.int 0]) = H3 at tw1 hlr1
    clear tw0 nlr H1 H2
    have tw2 : Two H H3 Aa L (tr.length + 1) (fA tr 0) (gA tr 0) := tw1.cong (fun v hv => by
        show 0 = if dep tr v ≤ 0 then p0 tr v else 0
        by_cases c : v = 0
        · subst c
          rw [if_pos (by rw [dep_zero]; exact Nat.le_refl _)]
          unfold p0
          rw [if_pos rfl]
        · rw [if_neg (by rw [dep_succ T (by omega)]; omega)]) (fun v hv => by
        show 0 = if dep tr v ≤ 0 then dep tr v else 0
        split <;> omega)
    refine ⟨fun m σ H' => ∃ (k : Nat) (lr : Addr) (x1 x5 x6 : Option V), m = tr.length + 1 - k ∧ k ≤ tr.length + 1 ∧ σ = [some (.ref a), x1, some (.ref Aa), some (.ref L), some (.ref lr), x5, x6] ∧ Two H H' Aa L (tr.length + 1) (fA tr k) (gA tr k) ∧ H' lr = some (.lst ((lay tr k).map iv)) ∧ lr ≠ Aa ∧ lr ≠ L ∧ H lr = none,
      ⟨tr.length + 1, 0, lr, none, none, none, rfl, Nat.zero_le _, rfl, tw2, hlr1, l0A, l0L, nlrH⟩, ?_⟩
    clear tw1 tw2 hlr1 l0A l0L nlrH lr H3
    rintro m σ H1 ⟨kk, lr, x1, x5, x6, rfl, hk, rfl, tw, hlr, lA, lL, nlr⟩
    refine ⟨_, rfl, _, .inl ⟨_, SqL.of hlr, rfl⟩, ?_⟩
    refine ite2 (fun hc => ?_) (fun hc => ?_)
    · have hne : lay tr kk ≠ [] := fun z => by rw [z] at hc; cases hc
      have hkl := lay_lt T hne
      refine ⟨fun σ' H' => ∃ (lr : Addr) (x1 x5 x6 : Option V), σ' = [some (.ref a), x1, some (.ref Aa), some (.ref L), some (.ref lr), x5, x6] ∧ Two H H' Aa L (tr.length + 1) (fA tr (kk + 1)) (gA tr (kk + 1)) ∧ H' lr = some (.lst ((lay tr (kk + 1)).map iv)) ∧ lr ≠ Aa ∧ lr ≠ L ∧ H lr = none,
        fun σ' H' ⟨lr, x1, x5, x6, e, t, h1, h2, h3, h4⟩ => ⟨tr.length + 1 - (kk + 1), by omega, kk + 1, lr, x1, x5, x6, rfl, by omega, e, t, h1, h2, h3, h4⟩, ?_⟩
      refine ⟨by show 0 ≤ sizeLine; exact Nat.zero_le _, fun b nb1 => ?_⟩
      have bA : b ≠ Aa := fun z => by rw [z, tw.hA] at nb1; cases nb1
      have bL : b ≠ L := fun z => by rw [z, tw.hL] at nb1; cases nb1
      have bl : b ≠ lr := fun z => by rw [z, hlr] at nb1; cases nb1
      have nbH := tw.same.free nb1
      have tw1 := tw.ext (same_upd nb1 (.lst []))
      have hb1 := upd_same (H := H1) (a := b) (o := .lst [])
      have hlr1 := same_upd nb1 (.lst []) _ _ hlr
      generalize upd H1 b (.lst []) = H2 at tw1 hb1 hlr1
      clear tw hlr nb1 H1
      have S0 : St3 H H2 Aa L lr b tr kk [] := ⟨tw1.cong (fun v _ => by simp [fB]) (fun v _ => by simp [gB]), hlr1, hb1⟩
      clear tw1 hb1 hlr1
      refine ⟨_, rfl, lr, rfl, ⟨_, SqL.of S0.hlr⟩, for_list (K := K) (a := lr) (xs := (lay tr kk).map iv) (fun i σ H' => ∃ (x1 x6 : Option V), σ = [some (.ref a), x1, some (.ref Aa), some (.ref L), some (.ref lr), some (.ref b), x6] ∧ St3 H H' Aa L lr b tr kk (((lay tr kk).take i).flatMap (kids tr)))
        ⟨_, _, rfl, S0⟩ (fun i σ H' _ ⟨_, _, _, S⟩ => SqL.of S.hlr) ?_ ?_⟩
      · rintro i v σ H' hv ⟨x1, x6, rfl, S⟩
        obtain ⟨st, hst, rfl⟩ := map_got hv
        obtain ⟨hst1, hst2⟩ := (mem_lay T).mp (List.mem_of_getElem? hst)
        obtain ⟨t, ht⟩ : ∃ t, ts[st]? = some t := ⟨_, List.getElem?_eq_getElem (by omega)⟩
        have hHt := hT st t ht
        have blk : ∀ w ∈ ((lay tr kk).take i).flatMap (kids tr), dep tr w = kk + 1 := fun w hw => by
          obtain ⟨u, hu, hw⟩ := List.mem_flatMap.mp hw
          obtain ⟨w1, w2, w3⟩ := (mem_kids T).mp hw
          rw [dep_succ T w1, w2, ((mem_lay T).mp (List.mem_of_mem_take hu)).2]
        have bll := flat_take tr kk i
        have bl2 := lay_len T (kk + 1)
        generalize hbl : ((lay tr kk).take i).flatMap (kids tr) = B at S blk bll
        refine ⟨_, rfl, _, rfl, a, _, _, _, rfl, rfl, S.two.same.seq hS, atN (map_get ht), t, rfl, ⟨_, SqT.of (S.two.same _ _ hHt)⟩, for_tup (K := K) (a := t) (xs := (nb tr st).map iv) (fun j σ H' => ∃ (x6 : Option V), σ = [some (.ref a), some (iv st), some (.ref Aa), some (.ref L), some (.ref lr), some (.ref b), x6] ∧ St3 H H' Aa L lr b tr kk (B ++ ((nb tr st).take j).filter fun w => decide (w ≠ p0 tr st)))
          ⟨_, rfl, by simpa using S⟩ (fun j σ H' _ ⟨_, _, S⟩ => SqT.of (S.two.same _ _ hHt)) ?_ ?_⟩
        · rintro j v σ H' hv ⟨x6, rfl, S⟩
          obtain ⟨nw, hw, rfl⟩ := map_got hv
          have hnb : ((nb tr st).take (j + 1)).filter (fun w => decide (w ≠ p0 tr st)) = ((nb tr st).take j).filter (fun w => decide (w ≠ p0 tr st)) ++ [nw].filter (fun w => decide (w ≠ p0 tr st)) := by
            rw [take_snoc hw, List.filter_append]
          have blk2 : ∀ w ∈ B ++ ((nb tr st).take j).filter (fun w => decide (w ≠ p0 tr st)), dep tr w = kk + 1 := fun w hw => by
            rcases List.mem_append.mp hw with hw | hw
            · exact blk w hw
            · have hw2 : w ∈ kids tr st := by
                have := List.mem_filter.mp hw
                exact List.mem_filter.mpr ⟨List.mem_of_mem_take this.1, this.2⟩
              obtain ⟨w1, w2, w3⟩ := (mem_kids T).mp hw2
              rw [dep_succ T w1, w2, hst2]
          have len2 : ((B ++ ((nb tr st).take j).filter (fun w => decide (w ≠ p0 tr st))).map iv).length < sizeLine := by
            rw [List.length_map, List.length_append, sizeLine_eq]
            have h1 := List.length_filter_le (fun w => decide (w ≠ p0 tr st)) ((nb tr st).take j)
            rw [List.length_take] at h1
            have h2 := nb_len tr st
            omega
          generalize hB2 : B ++ ((nb tr st).take j).filter (fun w => decide (w ≠ p0 tr st)) = B2 at S blk2 len2
          have stB : st ∉ B2 := fun z => by have := blk2 st z; omega
          have fst : fB tr kk B2 st = p0 tr st := by
            unfold fB fA
            rw [if_neg stB, if_pos (by omega)]
          have gst : gB tr kk B2 st = kk := by
            unfold gB gA
            rw [if_neg stB, if_pos (by omega), hst2]
          have hA := S.two.hA
          refine ⟨_, rfl, _, rfl, _, rfl, Aa, _, _, _, rfl, rfl, SqL.of hA, atN (vec_get (by omega)), rfl, _, rfl, ?_⟩
          rw [fst]
          refine ite2 (fun hd => ?_) (fun hd => ?_)
          · have hne : nw ≠ p0 tr st := fun z => by rw [z] at hd; simp at hd
            have hkid : nw ∈ kids tr st := List.mem_filter.mpr ⟨List.mem_of_getElem? hw, decide_eq_true hne⟩
            obtain ⟨w1, w2, w3⟩ := (mem_kids T).mp hkid
            have dw : dep tr nw = kk + 1 := by rw [dep_succ T w1, w2, hst2]
            refine ⟨_, rfl, _, rfl, _, rfl, Aa, _, _, nw, rfl, rfl, hA, by rw [vec_len]; exact ixN_lt (by omega), ?_⟩
            rw [vec_set]
            have hL := S.two.hL
            have hb := S.hb
            have hlr := S.hlr
            have sm := same_old S.two.same S.two.nA (.lst (vec (tr.length + 1) fun v => if v = nw then st else fB tr kk B2 v))
            have hL' : upd H' Aa (.lst (vec (tr.length + 1) fun v => if v = nw then st else fB tr kk B2 v)) L = some (.lst (vec (tr.length + 1) (gB tr kk B2))) := by rw [upd_ne nAL.symm]; exact hL
            have hb' : upd H' Aa (.lst (vec (tr.length + 1) fun v => if v = nw then st else fB tr kk B2 v)) b = some (.lst (B2.map iv)) := by rw [upd_ne bA]; exact hb
            have hlr' : upd H' Aa (.lst (vec (tr.length + 1) fun v => if v = nw then st else fB tr kk B2 v)) lr = some (.lst ((lay tr kk).map iv)) := by rw [upd_ne lA]; exact hlr
            have hA' := upd_same (H := H') (a := Aa) (o := .lst (vec (tr.length + 1) fun v => if v = nw then st else fB tr kk B2 v))
            generalize upd H' Aa (.lst (vec (tr.length + 1) fun v => if v = nw then st else fB tr kk B2 v)) = H4 at sm hL' hb' hlr' hA'
            refine ⟨_, rfl, _, rfl, L, _, _, _, rfl, rfl, SqL.of hL', atN (vec_get (by omega)), _, _, rfl, rfl, _, rfl, _, rfl, L, _, _, nw, rfl, rfl, hL', by rw [vec_len]; exact ixN_lt (by omega), ?_⟩
            have ev : V.int (((gB tr kk B2 st : Nat) : Int) + 1) = iv (dep tr nw) := by
              rw [gst, dw]
              rfl
            generalize hz : (fun i j : Int => V.int (i + j)) ((gB tr kk B2 st : Nat) : Int) 1 = z
            have hz2 : z = iv (dep tr nw) := by rw [← hz]; exact ev
            subst hz2
            rw [vec_set]
            have sm2 := same_old sm S.two.nL (.lst (vec (tr.length + 1) fun v => if v = nw then dep tr nw else gB tr kk B2 v))
            have hA2 : upd H4 L (.lst (vec (tr.length + 1) fun v => if v = nw then dep tr nw else gB tr kk B2 v)) Aa = some (.lst (vec (tr.length + 1) fun v => if v = nw then st else fB tr kk B2 v)) := by rw [upd_ne nAL]; exact hA'
            have hb2 : upd H4 L (.lst (vec (tr.length + 1) fun v => if v = nw then dep tr nw else gB tr kk B2 v)) b = some (.lst (B2.map iv)) := by rw [upd_ne bL]; exact hb'
            have hlr2 : upd H4 L (.lst (vec (tr.length + 1) fun v => if v = nw then dep tr nw else gB tr kk B2 v)) lr = some (.lst ((lay tr kk).map iv)) := by rw [upd_ne lL]; exact hlr'
            have hL2 := upd_same (H := H4) (a := L) (o := .lst (vec (tr.length + 1) fun v => if v = nw then dep tr nw else gB tr kk B2 v))
            generalize upd H4 L (.lst (vec (tr.length + 1) fun v => if v = nw then dep tr nw else gB tr kk B2 v)) = H5 at sm2 hA2 hb2 hlr2 hL2
            refine ⟨_, rfl, .inl ⟨rfl, _, SqL.of hb2⟩, _, rfl, _, _, _, rfl, rfl, hb2, len2, ?_⟩
            have eB : B ++ ((nb tr st).take (j + 1)).filter (fun w => decide (w ≠ p0 tr st)) = B2 ++ [nw] := by
              rw [hnb, ← List.append_assoc, hB2]
              simp [hne]
            refine ⟨_, rfl, ?_⟩
            rw [eB]
            have cf : ∀ v, v < tr.length + 1 → (if v = nw then st else fB tr kk B2 v) = fB tr kk (B2 ++ [nw]) v := fun v _ => by
              unfold fB
              by_cases c : v = nw
              · subst c
                rw [if_pos rfl, if_pos (by simp), w2]
              · rw [if_neg c]
                by_cases c2 : v ∈ B2
                · rw [if_pos c2, if_pos (by simp [c2])]
                · rw [if_neg c2, if_neg (by simp [c, c2])]
            have cg : ∀ v, v < tr.length + 1 → (if v = nw then dep tr nw else gB tr kk B2 v) = gB tr kk (B2 ++ [nw]) v := fun v _ => by
              unfold gB
              by_cases c : v = nw
              · subst c
                rw [if_pos rfl, if_pos (by simp)]
              · rw [if_neg c]
                by_cases c2 : v ∈ B2
                · rw [if_pos c2, if_pos (by simp [c2])]
                · rw [if_neg c2, if_neg (by simp [c, c2])]
            refine ⟨⟨same_old sm2 nbH _, nA, S.two.nL, nAL, by rw [upd_ne bA.symm, ← vec_cong cf]; exact hA2, by rw [upd_ne bL.symm, ← vec_cong cg]; exact hL2⟩, by rw [upd_ne bl.symm]; exact hlr2, by rw [upd_same, List.map_append]; rfl⟩
          · have he : nw = p0 tr st := by
              by_cases c : nw = p0 tr st
              · exact c
              · exfalso
                apply hd
                have : ¬ (iv nw = iv (p0 tr st)) := fun z => c (iv_inj.mp z)
                simp [this]
            have eB : B ++ ((nb tr st).take (j + 1)).filter (fun w => decide (w ≠ p0 tr st)) = B2 := by
              rw [hnb, ← List.append_assoc, hB2]
              simp [he]
            refine ⟨_, rfl, ?_⟩
            rw [eB]
            exact S
        · rintro σ H' ⟨x6, rfl, S⟩
          refine ⟨_, _, rfl, ?_⟩
          rw [take_snoc hst, List.flatMap_append, hbl]
          have e1 : (nb tr st).take ((nb tr st).map iv).length = nb tr st := List.take_of_length_le (by rw [List.length_map]; exact Nat.le_refl _)
          rw [e1] at S
          have e2 : [st].flatMap (kids tr) = kids tr st := by simp
          rw [e2]
          exact S
      · rintro σ H' ⟨x1, x6, rfl, S⟩
        have e1 : (lay tr kk).take ((lay tr kk).map iv).length = lay tr kk := List.take_of_length_le (by rw [List.length_map]; exact Nat.le_refl _)
        rw [e1] at S
        have S : St3 H H' Aa L lr b tr kk (lay tr (kk + 1)) := S
        refine ⟨_, rfl, b, _, _, _, rfl, S.two.cong (fun v hv => ?_) (fun v hv => ?_), S.hb, bA, bL, nbH⟩
        · unfold fB fA
          by_cases c : v ∈ lay tr (kk + 1)
          · obtain ⟨c1, c2⟩ := (mem_lay T).mp c
            rw [if_pos c, if_pos (by omega)]
            unfold p0
            rw [if_neg]
            rintro rfl
            rw [dep_zero] at c2
            cases c2
          · rw [if_neg c]
            have c2 : dep tr v ≠ kk + 1 := fun z => c ((mem_lay T).mpr ⟨by omega, z⟩)
            by_cases c3 : dep tr v ≤ kk
            · rw [if_pos c3, if_pos (by omega)]
            · rw [if_neg c3, if_neg (by omega)]
        · unfold gB gA
          by_cases c : v ∈ lay tr (kk + 1)
          · obtain ⟨c1, c2⟩ := (mem_lay T).mp c
            rw [if_pos c, if_pos (by omega)]
          · rw [if_neg c]
            have c2 : dep tr v ≠ kk + 1 := fun z => c ((mem_lay T).mpr ⟨by omega, z⟩)
            by_cases c3 : dep tr v ≤ kk
            · rw [if_pos c3, if_pos (by omega)]
            · rw [if_neg c3, if_neg (by omega)]
    · have he : lay tr kk = [] := by
        cases e : lay tr kk with
        | nil => rfl
        | cons x r =>
          exfalso
          apply hc
          rw [e]
          rfl
      have hd := fun v (hv : v < tr.length + 1) => lay_none T he v v (Nat.le_refl _) (by omega)
      refine ⟨_, rfl, _, rfl, by show 2 ≤ sizeLine; rw [sizeLine_eq]; decide, fun t nt => ?_⟩
      refine k t Aa L _ ((tw.ext (same_upd nt _)).cong (fun v hv => ?_) (fun v hv => ?_)) upd_same
      · have := hd v hv
        unfold fA
        rw [if_pos (by omega)]
      · have := hd v hv
        unfold gA
        rw [if_pos (by omega)]
end
end TR
namespace TR
def nrm (e : E2) : E2 := (mn e, mx e)
/-- pairs in their order -/
def lexle (a b : E2) : Bool := decide (a.1 < b.1) || (decide (a.1 = b.1) && decide (a.2 ≤ b.2))
theorem lexle_iff {a b : E2} : lexle a b = true ↔ a.1 < b.1 ∨ (a.1 = b.1 ∧ a.2 ≤ b.2) := by
  unfold lexle
  simp
def srt2 (l : List E2) : List E2 := l.mergeSort lexle
theorem srt2_perm (l : List E2) : (srt2 l).Perm l := List.mergeSort_perm l _
theorem srt2_le (l : List E2) : (srt2 l).Pairwise (fun a b => lexle a b = true) :=
  List.pairwise_mergeSort (le := lexle) (fun a b c h k => by
    rw [lexle_iff] at h k ⊢
    omega) (fun a b => by
    rw [Bool.or_eq_true, lexle_iff, lexle_iff]
    omega) l
theorem srt2_of {l l' : List E2} (hp : l'.Perm l) (hs : l'.Pairwise (fun a b => lexle a b = true)) : l' = srt2 l := by
  refine List.Perm.eq_of_pairwise (le := fun a b => lexle a b = true) (fun a b _ _ h1 h2 => ?_) hs (srt2_le l) (hp.trans (srt2_perm l).symm)
  rw [lexle_iff] at h1 h2
  have e1 : a.1 = b.1 := by omega
  have e2 : a.2 = b.2 := by omega
  exact Prod.ext e1 e2
/-- the tracks as a railway tells them -/
def nrmS (tr : List E2) : List E2 := srt2 (tr.map nrm)
theorem nrmS_len (tr : List E2) : (nrmS tr).length = tr.length := by
  unfold nrmS
  rw [(srt2_perm _).length_eq, List.length_map]
theorem nrmS_norm (tr : List E2) : Norm tr (nrmS tr) := ⟨srt2_perm _⟩
theorem TreeL.nS {tr : List E2} (T : TreeL tr) : TreeL (nrmS tr) := (nrmS_norm tr).tree T
/-- tracks as they are drawn: each greater end once -/
theorem tree_drawn {tr : List E2} (ne : ∀ e ∈ tr, e.1 ≠ e.2) (pm : (tr.map mx).Perm (List.range' 1 tr.length)) : TreeL tr := by
  have bd : ∀ e ∈ tr, mx e ≤ tr.length := fun e h => by
    have := pm.mem_iff.mp (List.mem_map_of_mem (f := mx) h)
    rw [List.mem_range'] at this
    obtain ⟨i, h1, h2⟩ := this
    omega
  refine ⟨ne, fun e h => by have := bd e h; unfold mx at this; omega, ?_⟩
  intro v
  induction v using Nat.strongRecOn with
  | ind v ih =>
    intro hv
    by_cases c : v = 0
    · exact ⟨0, c⟩
    · have : v ∈ tr.map mx := pm.mem_iff.mpr (by rw [List.mem_range']; exact ⟨v - 1, by omega, by omega⟩)
      obtain ⟨e, he, q⟩ := List.mem_map.mp this
      have h1 := mn_lt (ne e he)
      obtain ⟨k, hk⟩ := ih (mn e) (by omega) (by omega)
      refine ⟨k + 1, mn e, hk, ?_⟩
      rw [← q]
      rcases ends e with ⟨e1, e2⟩ | ⟨e1, e2⟩
      · exact .inr (by rw [← e1, ← e2]; exact he)
      · exact .inl (by rw [← e1, ← e2]; exact he)
theorem wn_app {tr tr' : List E2} : ∀ {k v}, WN tr k v → WN (tr ++ tr') k v
  | 0, v, h => h
  | k + 1, v, ⟨u, h1, h2⟩ => ⟨u, wn_app h1, h2.imp (List.mem_append_left _) (List.mem_append_left _)⟩
/-- a new station -/
theorem TreeL.push {tr : List E2} (T : TreeL tr) {x : Nat} (h : x ≤ tr.length) : TreeL (tr ++ [(x, tr.length + 1)]) := by
  refine ⟨fun d hd => ?_, fun d hd => ?_, fun v hv => ?_⟩
  · rcases List.mem_append.mp hd with h1 | h1
    · exact T.ne d h1
    · rw [List.mem_singleton.mp h1]
      show x ≠ tr.length + 1
      omega
  · rw [List.length_append, List.length_singleton]
    rcases List.mem_append.mp hd with h1 | h1
    · have := T.le d h1
      omega
    · rw [List.mem_singleton.mp h1]
      show x ≤ _ ∧ tr.length + 1 ≤ _
      omega
  · rw [List.length_append, List.length_singleton] at hv
    by_cases c : v ≤ tr.length
    · obtain ⟨k, hk⟩ := T.co v c
      exact ⟨k, wn_app hk⟩
    · have : v = tr.length + 1 := by omega
      subst this
      obtain ⟨k, hk⟩ := T.co x h
      exact ⟨k + 1, x, wn_app hk, .inl (by simp)⟩
end TR
namespace TR
open PySem PySem.Spec PyProof.Rows L2 L2.TT StX ClX
theorem f01 : ¬ (("_tracks" : Str) = "_neighbours") := by decide +kernel
theorem f02 : ¬ (("_tracks" : Str) = "_above") := by decide +kernel
theorem f03 : ¬ (("_tracks" : Str) = "_levels") := by decide +kernel
theorem f12 : ¬ (("_neighbours" : Str) = "_above") := by decide +kernel
theorem f13 : ¬ (("_neighbours" : Str) = "_levels") := by decide +kernel
theorem f23 : ¬ (("_above" : Str) = "_levels") := by decide +kernel
def flR (tt na A L : Addr) : List (Str × V) := putF "_levels" (.ref L) (putF "_above" (.ref A) (putF "_neighbours" (.ref na) (putF "_tracks" (.ref tt) [])))
theorem flR_t {tt na A L : Addr} : (flR tt na A L).lookup ("_tracks" : Str) = some (.ref tt) := by
  unfold flR
  rw [lookup_putF, if_neg f03, lookup_putF, if_neg f02, lookup_putF, if_neg f01, lookup_putF, if_pos rfl]
theorem flR_n {tt na A L : Addr} : (flR tt na A L).lookup ("_neighbours" : Str) = some (.ref na) := by
  unfold flR
  rw [lookup_putF, if_neg f13, lookup_putF, if_neg f12, lookup_putF, if_pos rfl]
theorem flR_a {tt na A L : Addr} : (flR tt na A L).lookup ("_above" : Str) = some (.ref A) := by
  unfold flR
  rw [lookup_putF, if_neg f23, lookup_putF, if_pos rfl]
theorem flR_l {tt na A L : Addr} : (flR tt na A L).lookup ("_levels" : Str) = some (.ref L) := by
  unfold flR
  rw [lookup_putF, if_pos rfl]
theorem flR_no {tt na A L : Addr} {m : Str} (h0 : ¬ m = "_tracks") (h1 : ¬ m = "_neighbours") (h2 : ¬ m = "_above") (h3 : ¬ m = "_levels") : (flR tt na A L).lookup m = none := by
  unfold flR
  rw [lookup_putF, if_neg h3, lookup_putF, if_neg h2, lookup_putF, if_neg h1, lookup_putF, if_neg h0]
  rfl
/-- at r: a railway with the tracks tr (normed) -/
structure RailAt (C : Addr) (H : Hp) (r : Addr) (tr : List E2) : Prop where
  T : TreeL tr
  few : tr.length ≤ 99
  ex : ∃ (dx tt na A L : Addr) (ps ts : List Addr), H r = some (.ins C dx (flR tt na A L)) ∧ H tt = some (.tup (ps.map V.ref)) ∧ Prs H ps tr ∧ H na = some (.lst (ts.map V.ref)) ∧ ts.length = tr.length + 1 ∧
    (∀ (v : Nat) (t : Addr), ts[v]? = some t → H t = some (.tup ((nb tr v).map iv))) ∧ H A = some (.lst (vec (tr.length + 1) (p0 tr))) ∧ H L = some (.lst (vec (tr.length + 1) (dep tr)))
theorem RailAt.same {C : Addr} {H H' : Hp} {r : Addr} {tr : List E2} (R : RailAt C H r tr) (s : Same H H') : RailAt C H' r tr := by
  obtain ⟨T, few, dx, tt, na, A, L, ps, ts, h1, h2, h3, h4, h5, h6, h7, h8⟩ := R
  exact ⟨T, few, dx, tt, na, A, L, ps, ts, s _ _ h1, s _ _ h2, h3.same s, s _ _ h4, h5, fun v t h => s _ _ (h6 v t h), s _ _ h7, s _ _ h8⟩
/-- what the top has made of the class -/
structure TxtR (K : PySem.W.Frag) (mg : Str → Option Value) (C : Addr) : Prop where
  cl : Cls K C
  nT : NoAttr K C "_tracks"
  nN : NoAttr K C "_neighbours"
  nA : NoAttr K C "_above"
  nL : NoAttr K C "_levels"
  mgC : mg "Railway" = some (.ref C)
  cr : ∃ mc t, CRead K C mc ∧ CVal K C mc "MOST_STATIONS" (.int 100) (.int 100 t)
theorem maxK {X : Cx} {K : PySem.W.Frag} (h : X.K = K) (hc : X.calm = true) : CallR X (.builtin "max") (rMaxP K) := by
  subst h
  exact cr_maxP hc
theorem minK {X : Cx} {K : PySem.W.Frag} (h : X.K = K) (hc : X.calm = true) : CallR X (.builtin "min") (rMinP K) := by
  subst h
  exact cr_minP hc
theorem Prs.snoc {H : Hp} {qs : List Addr} {l : List E2} {q : Addr} {e : E2} (h : Prs H qs l) (hq : H q = some (.tup [iv e.1, iv e.2])) : Prs H (qs ++ [q]) (l ++ [e]) := by
  refine ⟨by rw [List.length_append, List.length_append, h.1]; rfl, fun i p d hp hd => ?_⟩
  rcases get_snoc hp with hp | ⟨e1, e2⟩
  · rcases get_snoc hd with hd | ⟨e3, e4⟩
    · exact h.2 i p d hp hd
    · exfalso
      have := (List.getElem?_eq_some_iff.mp hp).1
      rw [h.1] at this
      omega
  · rcases get_snoc hd with hd | ⟨e3, e4⟩
    · exfalso
      have := (List.getElem?_eq_some_iff.mp hd).1
      rw [h.1] at e1
      omega
    · rw [e2, e4]
      exact hq
def unref : V → Addr
  | .ref p => p
  | _ => 0
theorem refs_perm {ys : List V} {qs : List Addr} (h : ys.Perm (qs.map V.ref)) : ∃ ps : List Addr, ys = ps.map V.ref ∧ ps.Perm qs := by
  refine ⟨ys.map unref, ?_, ?_⟩
  · rw [List.map_map]
    symm
    calc ys.map (V.ref ∘ unref) = ys.map id := List.map_congr_left fun y hy => by
          obtain ⟨q, _, rfl⟩ := List.mem_map.mp (h.mem_iff.mp hy)
          rfl
      _ = ys := List.map_id _
  · have := h.map unref
    rw [List.map_map] at this
    have e : qs.map (unref ∘ V.ref) = qs := by
      calc qs.map (unref ∘ V.ref) = qs.map id := List.map_congr_left fun _ _ => rfl
        _ = qs := List.map_id _
    rw [e] at this
    exact this
def edOf (qs : List Addr) (l : List E2) (p : Addr) : E2 := l.getD (qs.idxOf p) (0, 0)
theorem ed_get {H : Hp} {qs : List Addr} {l : List E2} (h : Prs H qs l) (nd : qs.Nodup) {i : Nat} {p : Addr} (hp : qs[i]? = some p) : l[i]? = some (edOf qs l p) := by
  have hl := (List.getElem?_eq_some_iff.mp hp).1
  rw [h.1] at hl
  unfold edOf
  rw [idxOf_get nd hp, List.getD_eq_getElem?_getD, List.getElem?_eq_getElem hl]
  rfl
theorem ed_heap {H : Hp} {qs : List Addr} {l : List E2} (h : Prs H qs l) (nd : qs.Nodup) {p : Addr} (hp : p ∈ qs) : H p = some (.tup [iv (edOf qs l p).1, iv (edOf qs l p).2]) := by
  obtain ⟨i, hi⟩ := List.mem_iff_getElem?.mp hp
  exact h.2 i p _ hi (ed_get h nd hi)
theorem ed_map {H : Hp} {qs : List Addr} {l : List E2} (h : Prs H qs l) (nd : qs.Nodup) : qs.map (edOf qs l) = l := by
  apply List.ext_getElem?
  intro i
  cases e : qs[i]? with
  | none =>
    rw [List.getElem?_map, e]
    have hl := List.getElem?_eq_none_iff.mp e
    rw [h.1] at hl
    exact (List.getElem?_eq_none_iff.mpr hl).symm
  | some p => rw [List.getElem?_map, e, ed_get h nd e]; rfl
def kfOf (qs : List Addr) (l : List E2) : V → Int × Int
  | .ref p => (((edOf qs l p).1 : Nat), ((edOf qs l p).2 : Nat))
  | _ => (0, 0)
def spRI (C : Addr) (K : PySem.W.Frag) : Sp := fun vs H Q _ => ∃ (r dx a : Addr) (ps : List Addr) (tr : List E2), vs = [.ref r, .ref a] ∧ H r = some (.ins C dx []) ∧ SqT K H a (ps.map V.ref) ∧ Prs H ps tr ∧ TreeL tr ∧ tr.length ≤ 99 ∧
  ∀ (H' : Hp), (∀ b o, H b = some o → b ≠ r → H' b = some o) → RailAt C H' r (nrmS tr) → Q .non H'
section
variable {P : Program} {w : World} {K : PySem.W.Frag} {mg : Str → Option Value} {base : Heap}
abbrev NRi : List Str := ["self", "tracks", "wrong", "track"]
theorem sc_ri : FnScope NRi ((["self"] : List Str) ++ (["tracks"] : List Str)) (defScope s_Railway_init) := ⟨rfl, rfl, rfl, by decide +kernel, rfl, by decide +kernel, by decide +kernel⟩
theorem body_ri {f fF fN fP C : Addr} {fdF fdN fdP : FuncData} (N : Nm mg) (X : TxtR K mg C) (UF : Use P w K mg base CX0 4 "first_wrong_track" fF fdF ["tracks"] (spFirst K)) (UN : Use P w K mg base CX0 1 "_neighbours_of" fN fdN ["tracks"] (spNbs K))
    (UP : Use P w K mg base CX0 1 "_places_below_first" fP fdP ["neighbours"] (spPlaces K)) (cdv : Value) (A : Around) (outer : List Env) (s : Shared) (H : Hp) (vs : List V) (Q : VK) (E : XK)
    (hr : Room 4 (A.deeper (envOfC "Railway.__init__" (defScope s_Railway_init) s.heap.objs.size f cdv))) (h : spRI C K vs H Q E) :
    ∃ t, PSs (cxOf CX0 P w K mg base NRi "Railway.__init__" (defScope s_Railway_init) f cdv A outer s H E).nox (defBody s_Railway_init) t ∧ t { nx := fun _ H' => Q .non H', rt := Q } (start NRi vs) H := by
  obtain ⟨r, dx, a, ps, tr, rfl, hr0, hS, hP, T, hl, k⟩ := h
  obtain ⟨mc, ct, hcr, hcv⟩ := X.cr
  have hr1 : Room 1 (A.deeper (envOfC "Railway.__init__" (defScope s_Railway_init) s.heap.objs.size f cdv)) := hr.mono (by decide)
  refine ⟨_, pss_cons (ps_if (pt_cmpR op_ge (pe_callB call_len_seq (by rfl) N.len PySem.boot_len (pa_cons (pv 1) pa_nil)) (pe_cval (pe_glob (v := .ref C) (by rfl) X.mgC rfl)) (nomark _)) pss_never pss_nil)
    (pss_cons (ps_set (i := 2) sc_ri.nd rfl (.inl rfl) (pe_use UF hr rfl (pa_cons (pv 1) pa_nil)))
    (pss_cons (ps_if (pt_cmpR op_notN (pv 2) pe_non (nomark _)) pss_never pss_nil)
    (pss_cons (ps_fld (pv 0) (pe_callTy call_tuple_of (by rfl) N.tuple boot_tuple (pa_cons (pe_callB cr_sortedPO (by rfl) N.sorted boot_sorted (pa_cons
        (pe_lc (own := [("track", 3)]) (g := gName 3) (tt := tYes) rfl sc_ri.nd (pi_tup (pv 1)) (blkOk_by (N := NRi) (sc := defScope s_Railway_init) (by decide +kernel))
          (fun _ _ _ _ _ => pg_name (i := 3) sc_ri.nd rfl (Or.inl rfl)) (fun _ _ _ _ _ => pts_nil)
          (fun _ _ _ _ _ => pe_tup (pa_cons (pe_callB (minK (K := K) rfl rfl) (by rfl) N.min PyProof.Rows.boot_min (pa_cons (pv 3) pa_nil)) (pa_cons (pe_callB (maxK (K := K) rfl rfl) (by rfl) N.max PyProof.Rows.boot_max (pa_cons (pv 3) pa_nil)) pa_nil)))) pa_nil)) pa_nil)) rfl)
    (pss_cons (ps_fld (pv 0) (pe_use UN hr1 rfl (pa_cons (pe_fld (pv 0) rfl) pa_nil)) rfl)
    (pss_one (ps_asg (pe_use UP hr1 rfl (pa_cons (pe_fld (pv 0) rfl) pa_nil)) (pg_tup rfl (pgs_cons (pg_fld (pv 0)) (pgs_cons (pg_fld (pv 0)) pgs_nil)))))))))  , ?_⟩
  have lp : (ps.map V.ref).length = tr.length := by rw [List.length_map, hP.1]
  refine ⟨_, rfl, a, _, rfl, .inr hS, C, mc, .int 100, _, rfl, hcr, hcv, _, _, rfl, rfl, _, rfl, ?_⟩
  refine iteF' (decide_eq_false (by rw [lp]; omega)) ?_
  refine ⟨_, rfl, a, ps, tr, rfl, hS, hP, T, by omega, fun H1 s1 => ?_⟩
  refine ⟨_, rfl, rfl, _, rfl, ?_⟩
  refine iteNS rfl ?_
  -- the normed tracks
  refine ⟨_, rfl, a, rfl, ⟨_, s1.tp hS⟩, fun D nD => ?_⟩
  have hP1 := hP.same s1
  refine lc_tup (K := K) (a := a) (xs := ps.map V.ref) (fun i H' => ∃ qs, H' D = some (.lst (qs.map V.ref)) ∧ Same H1 H' ∧ Prs H' qs ((tr.take i).map nrm) ∧ qs.Nodup) ⟨[], upd_same, same_upd nD _, ⟨rfl, fun _ _ _ h => by cases h⟩, List.nodup_nil⟩ (fun i H' _ ⟨_, _, s2, _⟩ => s2.tp (s1.tp hS)) ?_ ?_
  · rintro i v H' hv ⟨qs, hD, s2, hQ, nd⟩
    obtain ⟨p, e, rfl, hp, he, hH⟩ := hP1.get hv
    have hH2 := s2 _ _ hH
    refine ⟨rfl, _, rfl, p, _, _, rfl, SqT.of hH2, _, rfl, p, _, _, rfl, SqT.of hH2, by show 2 ≤ sizeLine; rw [sizeLine_eq]; decide, fun q nq => ⟨qs.map V.ref, ?_, ?_, qs ++ [q], ?_, ?_, ?_, ?_⟩⟩
    · have nD2 : D ≠ q := fun z => by rw [← z, hD] at nq; cases nq
      rw [upd_ne nD2]
      exact hD
    · rw [List.length_map, hQ.1, List.length_map, List.length_take, sizeLine_eq]
      omega
    · rw [upd_same, List.map_append]
      rfl
    · exact same_old (s2.trans (same_upd nq _)) nD _
    · have e1 : min (e.1 : Int) (e.2 : Int) = ((nrm e).1 : Nat) := by show _ = ((mn e : Nat) : Int); unfold mn; omega
      have e2 : max (e.1 : Int) (e.2 : Int) = ((nrm e).2 : Nat) := by show _ = ((mx e : Nat) : Int); unfold mx; omega
      have et : (tr.take (i + 1)).map nrm = (tr.take i).map nrm ++ [nrm e] := by rw [take_snoc he, List.map_append]; rfl
      rw [et]
      have qD : q ≠ D := fun z => by rw [z, hD] at nq; cases nq
      have hq1 : upd H' q (.tup [V.int (min (e.1 : Int) (e.2 : Int)), V.int (max (e.1 : Int) (e.2 : Int))]) q = some (.tup [iv (nrm e).1, iv (nrm e).2]) := by rw [upd_same, e1, e2]
      have hQ2 := (hQ.same (same_upd nq (.tup [V.int (min (e.1 : Int) (e.2 : Int)), V.int (max (e.1 : Int) (e.2 : Int))]))).snoc hq1
      refine ⟨hQ2.1, fun j x y hx hy => ?_⟩
      have hxy := hQ2.2 j x y hx hy
      have xD : x ≠ D := fun z => by
        rw [z, upd_ne qD.symm, hD] at hxy
        cases hxy
      exact (upd_ne xD).trans hxy
    · refine nodup_snoc nd fun hm => ?_
      obtain ⟨j, hj⟩ := List.mem_iff_getElem?.mp hm
      have hl := (List.getElem?_eq_some_iff.mp hj).1
      rw [hQ.1] at hl
      have := hQ.2 j q _ hj (List.getElem?_eq_getElem hl)
      rw [nq] at this
      cases this
  rintro H2 ⟨qs, hD, s2, hQ, nd⟩
  have et : (tr.take (ps.map V.ref).length).map nrm = tr.map nrm := by rw [lp, List.take_length]
  rw [et] at hQ
  refine ⟨D, _, kfOf qs (tr.map nrm), rfl, SqL.of hD, fun x hx => ?_, fun ys p hsr hst np => ?_⟩
  · obtain ⟨q, hq, rfl⟩ := List.mem_map.mp hx
    exact ⟨q, rfl, ed_heap hQ nd hq⟩
  obtain ⟨ps2, rfl, hpm⟩ := refs_perm hst.perm
  refine ⟨p, _, rfl, .inl ⟨SqL.of upd_same, fun l nl => ?_⟩⟩
  have s3 := same_upd np (.lst (ps2.map V.ref))
  have s4 := s3.trans (same_upd nl (.tup (ps2.map V.ref)))
  have hl4 := upd_same (H := upd H2 p (.lst (ps2.map V.ref))) (a := l) (o := .tup (ps2.map V.ref))
  generalize upd (upd H2 p (.lst (ps2.map V.ref))) l (.tup (ps2.map V.ref)) = H4 at s4 hl4
  have s04 : Same H H4 := (s1.trans s2).trans s4
  have nm : Norm tr (ps2.map (edOf qs (tr.map nrm))) := by
    refine ⟨?_⟩
    have := hpm.map (edOf qs (tr.map nrm))
    rw [ed_map hQ nd] at this
    exact this
  have enS : ps2.map (edOf qs (tr.map nrm)) = nrmS tr := by
    refine srt2_of nm.pm ?_
    have h0 : (ps2.map V.ref).Pairwise (fun x y => ltP (kfOf qs (tr.map nrm)) y x = false) := hsr
    rw [List.pairwise_map] at h0 ⊢
    refine h0.imp fun {a b} h => ?_
    have h2 := SrtO.lexB_no.mp h
    rw [lexle_iff]
    simp only [kfOf] at h2
    omega
  have hQ4 : Prs H4 ps2 (ps2.map (edOf qs (tr.map nrm))) := by
    refine ⟨(List.length_map _).symm, fun i x y hx hy => ?_⟩
    obtain ⟨x', hx', rfl⟩ := map_got hy
    rw [hx] at hx'
    cases hx'
    exact s4 _ _ (ed_heap hQ nd (hpm.mem_iff.mp (List.mem_of_getElem? hx)))
  generalize ps2.map (edOf qs (tr.map nrm)) = tr2 at nm hQ4 enS
  have T2 := nm.tree T
  have len2 := nm.len
  have hr4 := s04 _ _ hr0
  have lr : l ≠ r := ne_of hl4 hr4 (by intro z; cases z)
  refine ⟨_, rfl, r, C, dx, [], rfl, hr4, X.cl, X.nT, by show 0 < 1000; decide, ?_⟩
  have hr5 := upd_same (H := H4) (a := r) (o := .ins C dx (putF "_tracks" (.ref l) []))
  have k5 : ∀ b o, H4 b = some o → b ≠ r → upd H4 r (.ins C dx (putF "_tracks" (.ref l) [])) b = some o := fun b o e ne => by rw [upd_ne ne]; exact e
  generalize upd H4 r (.ins C dx (putF "_tracks" (.ref l) [])) = H5 at hr5 k5
  have hl5 := k5 _ _ hl4 lr
  have hQ5 : Prs H5 ps2 tr2 := ⟨hQ4.1, fun i x y hx hy => k5 _ _ (hQ4.2 i x y hx hy) (ne_of (hQ4.2 i x y hx hy) hr4 (by intro z; cases z))⟩
  refine ⟨_, rfl, r, C, dx, _, _, rfl, hr5, X.cl, X.nT, by rw [lookup_putF, if_pos rfl], l, ps2, tr2, rfl, SqT.of hl5, hQ5, fun e he => ⟨T2.ne e he, T2.lt1 he⟩, by omega, fun D2 ts H6 s6 R => ?_⟩
  refine ⟨_, rfl, r, C, dx, _, rfl, s6 _ _ hr5, X.cl, X.nN, by show 1 < 1000; decide, ?_⟩
  have hr6 := s6 _ _ hr5
  have hr7 := upd_same (H := H6) (a := r) (o := .ins C dx (putF "_neighbours" (.ref D2) (putF "_tracks" (.ref l) [])))
  have k7 : ∀ b o, H6 b = some o → b ≠ r → upd H6 r (.ins C dx (putF "_neighbours" (.ref D2) (putF "_tracks" (.ref l) []))) b = some o := fun b o e ne => by rw [upd_ne ne]; exact e
  generalize upd H6 r (.ins C dx (putF "_neighbours" (.ref D2) (putF "_tracks" (.ref l) []))) = H7 at hr7 k7
  have hD7 := k7 _ _ R.own (ne_of R.own hr6 (by intro z; cases z))
  have ht7 : ∀ (v : Nat) (t : Addr), ts[v]? = some t → H7 t = some (.tup ((nb tr2 v).map iv)) := fun v t h => k7 _ _ (R.at_ v t h).1 (ne_of (R.at_ v t h).1 hr6 (by intro z; cases z))
  refine ⟨_, rfl, r, C, dx, _, _, rfl, hr7, X.cl, X.nN, by rw [lookup_putF, if_pos rfl], D2, ts, tr2, rfl, SqL.of hD7, R.len, ht7, T2, by omega, fun t Aa L H8 tw ht => ?_⟩
  have hr8 := tw.same _ _ hr7
  refine ⟨t, _, rfl, SqT.of ht, rfl, ?_⟩
  refine ⟨_, _, rfl, _, rfl, r, C, dx, _, rfl, hr8, X.cl, X.nA, by show 2 < 1000; decide, ?_⟩
  refine ⟨_, _, rfl, _, rfl, r, C, dx, _, rfl, upd_same, X.cl, X.nL, by show 3 < 1000; decide, rfl, ?_⟩
  rw [upd_upd]
  have hrF := upd_same (H := H8) (a := r) (o := .ins C dx (putF "_levels" (.ref L) (putF "_above" (.ref Aa) (putF "_neighbours" (.ref D2) (putF "_tracks" (.ref l) [])))))
  have kF : ∀ b o, H8 b = some o → b ≠ r → upd H8 r (.ins C dx (putF "_levels" (.ref L) (putF "_above" (.ref Aa) (putF "_neighbours" (.ref D2) (putF "_tracks" (.ref l) []))))) b = some o := fun b o e ne => by rw [upd_ne ne]; exact e
  generalize upd H8 r (.ins C dx (putF "_levels" (.ref L) (putF "_above" (.ref Aa) (putF "_neighbours" (.ref D2) (putF "_tracks" (.ref l) []))))) = HF at hrF kF
  have all : ∀ b o, H4 b = some o → b ≠ r → HF b = some o := fun b o e ne => kF _ _ (tw.same _ _ (k7 _ _ (s6 _ _ (k5 _ _ e ne)) ne)) ne
  have all7 : ∀ b o, H7 b = some o → b ≠ r → HF b = some o := fun b o e ne => kF _ _ (tw.same _ _ e) ne
  refine k HF (fun b o e ne => all b o (s04 _ _ e) ne) (enS ▸ ⟨T2, by omega, dx, l, D2, Aa, L, ps2, ts, hrF, all _ _ hl4 lr, ⟨hQ4.1, fun i x y hx hy => all _ _ (hQ4.2 i x y hx hy) (ne_of (hQ4.2 i x y hx hy) hr4 (by intro z; cases z))⟩,
    all7 _ _ hD7 (ne_of hD7 hr7 (by intro z; cases z)), R.len, fun v t h => all7 _ _ (ht7 v t h) (ne_of (ht7 v t h) hr7 (by intro z; cases z)), kF _ _ tw.hA (ne_of tw.hA hr8 (by intro z; cases z)), kF _ _ tw.hL (ne_of tw.hL hr8 (by intro z; cases z))⟩)
end
end TR
namespace TR
open PySem PySem.Spec PyProof.Rows L2 L2.TT StX ClX
def spRail (C : Addr) : Sp := fun vs H Q _ => ∃ (r dx : Addr) (ps : List Addr) (tr : List E2), vs = .ref r :: ps.map V.ref ∧ H r = some (.ins C dx []) ∧ Prs H ps tr ∧ TreeL tr ∧ tr.length ≤ 99 ∧
  ∀ (H' : Hp), (∀ b o, H b = some o → b ≠ r → H' b = some o) → RailAt C H' r (nrmS tr) → Q .non H'
def spRof (C : Addr) : Sp := fun vs H Q _ => ∃ (a : Addr) (ps : List Addr) (tr : List E2), vs = [.ref C, .ref a] ∧ H a = some (.tup (ps.map V.ref)) ∧ Prs H ps tr ∧ TreeL tr ∧ tr.length ≤ 99 ∧
  ∀ (r : Addr) (H' : Hp), H r = none → Same H H' → RailAt C H' r (nrmS tr) → Q (.ref r) H'
def spSize (C : Addr) : Sp := fun vs H Q _ => ∃ (r : Addr) (tr : List E2), vs = [.ref r] ∧ RailAt C H r tr ∧ Q (.int ((tr.length : Int) + 1)) H
def spIsSt (C : Addr) (K : PySem.W.Frag) : Sp := fun vs H Q _ => ∃ (r : Addr) (tr : List E2) (v : V), vs = [.ref r, v] ∧ RailAt C H r tr ∧ IV K H v ∧ Q (.bl (inR v 0 tr.length)) H
def spChkSt (C : Addr) : Sp := fun vs H Q _ => ∃ (r : Addr) (tr : List E2) (v : Nat), vs = [.ref r, iv v] ∧ RailAt C H r tr ∧ v ≤ tr.length ∧ Q .non H
section
variable {P : Program} {w : World} {K : PySem.W.Frag} {mg : Str → Option Value} {base : Heap}
theorem fn_init {f fF fN fP C : Addr} {fd fdF fdN fdP : FuncData} (F : Fun K "__init__" "Railway.__init__" s_Railway_init f fd) (N : Nm mg) (X : TxtR K mg C) (UF : Use P w K mg base CX0 4 "first_wrong_track" fF fdF ["tracks"] (spFirst K)) (UN : Use P w K mg base CX0 1 "_neighbours_of" fN fdN ["tracks"] (spNbs K))
    (UP : Use P w K mg base CX0 1 "_places_below_first" fP fdP ["neighbours"] (spPlaces K)) : FnR P w K mg base CX0 5 f (spRail C) := by
  obtain ⟨oc, od, kV, doc, pm, an, cdv, ct, osl, rfl, lk, hcd⟩ := F.ex
  have G := fn_star (P := P) (w := w) (mg := mg) (base := base) (CX := CX0) (k := 4) (ps := ["self"]) (pv := "tracks") (N := NRi) (sp := spRI C K) lk hcd sc_ri cxUp_none (bind_star1 (B := fun vs => bindArgs (PySem.W.fnOf "__init__" "Railway.__init__" (defArgs s_Railway_init) (defBody s_Railway_init) (defScope s_Railway_init) .none kV doc pm an cdv ct) ⟨vs, []⟩) (p1 := "self") (pv := "tracks") (fun a => rfl) (fun a r rs => rfl))
    (fun A outer s H vs Q E hr h => by
      obtain ⟨t, h1, h2⟩ := body_ri (f := f) N X UF UN UP cdv A outer s H vs Q E hr h
      exact ⟨t, h1.nox, h2⟩)
  refine G.imp fun vs H Q E h => ?_
  obtain ⟨r, dx, ps, tr, rfl, hr, hP, T, hl, k⟩ := h
  refine ⟨[.ref r], ps.map V.ref, rfl, rfl, by rw [List.length_map, hP.1, sizeLine_eq]; omega, fun p np => ?_⟩
  have s0 := same_upd np (.tup (ps.map V.ref))
  have rp : r ≠ p := ne_of_none hr np
  refine ⟨r, dx, p, ps, tr, rfl, s0 _ _ hr, SqT.of upd_same, hP.same s0, T, hl, fun H' kp R => ?_⟩
  exact k H' (fun b o e ne => kp b o (s0 _ _ e) ne) R
theorem sc_rof : FnScope ["cls", "tracks"] ["cls", "tracks"] (defScope s_Railway_of) := ⟨rfl, rfl, rfl, by decide +kernel, rfl, by decide +kernel, by decide +kernel⟩
theorem ok_rof {f fI C : Addr} {fd : FuncData} (F : Fun K "of" "Railway.of" s_Railway_of f fd) (N : Nm mg) (M : Mk K C fI) (FI : FnR P w K mg base CX0 5 fI (spRail C)) : FnOk P w K mg base CX0 7 f fd ["cls", "tracks"] (spRof C) := by
  refine F.ok sc_rof (fun vs H Q E h => ?_) (fun cdv A outer s H vs Q E hr h => ?_)
  · obtain ⟨a, ps, tr, rfl, _⟩ := h
    rfl
  · obtain ⟨a, ps, tr, rfl, ha, hP, T, hl, k⟩ := h
    refine ⟨_, pss_cons (ps_if (pt_not (pt_val (pe_callB call_isi (by rfl) N.isi boot_isinstance (pa_cons (pv 1) (pa_cons (pe_bltn (v := .ty "tuple") (by rfl) N.tuple (by decide +kernel) rfl) pa_nil))))) pss_never pss_nil)
      (pss_one (ps_ret (pe_makeLS (i := 0) M FI hr rfl (.inl rfl) pass0 (pv 1)))), ?_⟩
    refine ⟨_, rfl, _, _, _, _, true, rfl, .ty _, .base (.tup ha), tup_tup, true, rfl, ?_⟩
    refine iteF ?_
    refine ⟨rfl, _, rfl, a, _, rfl, .inl (SqT.of ha), fun o dx no ndx ne => ?_⟩
    have s1 : Same H (upd (upd H dx (.own o)) o (.ins C dx [])) := fun b u e => by
      rw [upd_ne (ne_of_none e no), upd_ne (ne_of_none e ndx)]
      exact e
    refine ⟨o, dx, ps, tr, rfl, upd_same, hP.same s1, T, hl, fun H' kp R => ⟨rfl, ?_⟩⟩
    exact k o H' no (fun b u e => kp b u (s1 _ _ e) (ne_of_none e no)) R
theorem sc_size : FnScope ["self"] ["self"] (defScope s_Railway_size) := ⟨rfl, rfl, rfl, by decide +kernel, rfl, by decide +kernel, by decide +kernel⟩
theorem ok_size {f C : Addr} {fd : FuncData} (F : Fun K "size" "Railway.size" s_Railway_size f fd) (N : Nm mg) (X : TxtR K mg C) : FnOk P w K mg base CX0 1 f fd ["self"] (spSize C) := by
  refine F.ok sc_size (fun vs H Q E h => ?_) (fun cdv A outer s H vs Q E hr h => ?_)
  · obtain ⟨r, tr, rfl, _⟩ := h
    rfl
  · obtain ⟨r, tr, rfl, R, k⟩ := h
    obtain ⟨T, few, dx, tt, na, Aa, L, ps, ts, h1, h2, h3, h4, h5, h6, h7, h8⟩ := R
    refine ⟨_, pss_one (ps_ret (pe_callB call_len_seq (by rfl) N.len PySem.boot_len (pa_cons (pe_fld (pv 0) rfl) pa_nil))), ?_⟩
    refine ⟨_, rfl, r, C, dx, _, _, rfl, h1, X.cl, X.nN, flR_n, na, _, rfl, .inl (SqL.of h4), ?_⟩
    rw [List.length_map, h5]
    exact k
/-- the property size as a rule -/
structure SizeOf (P : Program) (w : World) (K : PySem.W.Frag) (mg : Str → Option Value) (base : Heap) (C p g : Addr) (fd : FuncData) : Prop where
  cl : Cls K C
  hp : PropOf K C "size" p g
  G : FnOk P w K mg base CX0 1 g fd ["self"] (spSize C)
  b : Binds K fd ["self"] []
theorem sc_isst : FnScope ["railway", "value"] ["railway", "value"] (defScope s_is_station) := ⟨rfl, rfl, rfl, by decide +kernel, rfl, by decide +kernel, by decide +kernel⟩
theorem ok_isst {f fI C p g : Addr} {fd fdI fdS : FuncData} (F : Fun K "is_station" "is_station" s_is_station f fd) (U : Use P w K mg base CX0 2 "is_number_from" fI fdI ["value", "least", "greatest"] (spNumFrom K)) (Z : SizeOf P w K mg base C p g fdS) : FnOk P w K mg base CX0 3 f fd ["railway", "value"] (spIsSt C K) := by
  refine F.ok sc_isst (fun vs H Q E h => ?_) (fun cdv A outer s H vs Q E hr h => ?_)
  · obtain ⟨r, tr, v, rfl, _⟩ := h
    rfl
  · obtain ⟨r, tr, v, rfl, R, hv, k⟩ := h
    refine ⟨_, pss_one (ps_ret (pe_use U hr rfl (pa_cons (pv 1) (pa_cons pe_int (pa_cons (pe_op op_sub (pe_prop (pv 0) Z.cl Z.hp Z.G (hr.mono (by decide)) Z.b .nil pass0 rfl) pe_int) pa_nil))))), ?_⟩
    obtain ⟨T, few, dx, tt, na, Aa, L, ps, ts, h1, h2⟩ := id R
    refine ⟨_, rfl, _, rfl, r, dx, _, rfl, h1, r, tr, rfl, R, _, _, rfl, rfl, v, 0, _, rfl, hv, ?_⟩
    rw [show (tr.length : Int) + 1 - 1 = tr.length by omega]
    exact k
theorem sc_chk : FnScope ["railway", "station"] ["railway", "station"] (defScope s_check_station) := ⟨rfl, rfl, rfl, by decide +kernel, rfl, by decide +kernel, by decide +kernel⟩
theorem ok_chk {f fI C : Addr} {fd fdI : FuncData} (F : Fun K "check_station" "check_station" s_check_station f fd) (U : Use P w K mg base CX0 3 "is_station" fI fdI ["railway", "value"] (spIsSt C K)) : FnOk P w K mg base CX0 4 f fd ["railway", "station"] (spChkSt C) := by
  refine F.ok sc_chk (fun vs H Q E h => ?_) (fun cdv A outer s H vs Q E hr h => ?_)
  · obtain ⟨r, tr, v, rfl, _⟩ := h
    rfl
  · obtain ⟨r, tr, v, rfl, R, hv, k⟩ := h
    refine ⟨_, pss_one (ps_if (pt_not (pt_val (pe_use U hr rfl (pa_cons (pv 0) (pa_cons (pv 1) pa_nil))))) pss_never pss_nil), ?_⟩
    refine ⟨_, rfl, _, rfl, r, tr, _, rfl, R, .inl ⟨_, rfl⟩, _, rfl, ?_⟩
    have e : inR (iv v) 0 tr.length = true := by
      show (decide ((0 : Int) ≤ (v : Int)) && decide ((v : Int) ≤ (tr.length : Int))) = true
      rw [Bool.and_eq_true]
      exact ⟨decide_eq_true (by omega), decide_eq_true (by omega)⟩
    rw [e]
    exact iteF k
end
end TR
namespace TR
open PySem PySem.Spec PyProof.Rows L2 L2.TT StX ClX
theorem at_last {l : List Nat} {x : Nat} : atI ((l ++ [x]).map iv) (-1) = some (iv x) := by
  have e : ixN ((l ++ [x]).map iv).length (-1) = some l.length := by
    unfold ixN
    rw [if_neg (by omega), if_pos (by rw [List.length_map, List.length_append, List.length_singleton]; omega), List.length_map, List.length_append, List.length_singleton]
    have : ((-1 : Int) + ((l.length + 1 : Nat) : Int)).toNat = l.length := by omega
    rw [this]
  unfold atI
  rw [e]
  show ((l ++ [x]).map iv)[l.length]? = _
  rw [List.map_append, List.getElem?_append_right (by rw [List.length_map]; exact Nat.le_refl _), List.length_map, Nat.sub_self]
  rfl
def spPath (C : Addr) : Sp := fun vs H Q _ => ∃ (r : Addr) (tr : List E2) (a b : Nat), vs = [.ref r, iv a, iv b] ∧ RailAt C H r tr ∧ a ≤ tr.length ∧ b ≤ tr.length ∧
  ∀ (l : List Nat) (p : Addr) (H' : Hp), SW tr a b l → Same H H' → H p = none → H' p = some (.tup (l.map iv)) → Q (.ref p) H'
section
variable {P : Program} {w : World} {K : PySem.W.Frag} {mg : Str → Option Value} {base : Heap}
theorem sc_path : FnScope ["self", "one", "other", "front", "back"] ["self", "one", "other"] (defScope s_Railway_path) := ⟨rfl, rfl, rfl, by decide +kernel, rfl, by decide +kernel, by decide +kernel⟩
theorem ok_path {f fc C : Addr} {fd fdc : FuncData} (F : Fun K "path" "Railway.path" s_Railway_path f fd) (N : Nm mg) (X : TxtR K mg C) (U : Use P w K mg base CX0 4 "check_station" fc fdc ["railway", "station"] (spChkSt C)) : FnOk P w K mg base CX0 5 f fd ["self", "one", "other"] (spPath C) := by
  refine F.ok sc_path (fun vs H Q E h => ?_) (fun cdv A outer s H vs Q E hr h => ?_)
  · obtain ⟨r, tr, a, b, rfl, _⟩ := h
    rfl
  · obtain ⟨r, tr, a, b, rfl, R, ha, hb, k⟩ := h
    refine ⟨_, pss_cons (ps_expr (pe_use U hr rfl (pa_cons (pv 0) (pa_cons (pv 1) pa_nil))))
      (pss_cons (ps_expr (pe_use U hr rfl (pa_cons (pv 0) (pa_cons (pv 2) pa_nil))))
      (pss_cons (ps_set (i := 3) sc_path.nd rfl (.inl rfl) (pe_lst (pa_cons (pv 1) pa_nil)))
      (pss_cons (ps_set (i := 4) sc_path.nd rfl (.inl rfl) (pe_lst (pa_cons (pv 2) pa_nil)))
      (pss_cons (ps_while PassesOwn.never (pt_cmpR op_ne (pe_ix ix_list (pv 3) (pe_un un_neg pe_int) (fun _ _ => rfl)) (pe_ix ix_list (pv 4) (pe_un un_neg pe_int) (fun _ _ => rfl)) (nomark _))
        (pss_one (ps_if (pt_cmpR op_gt (pe_ix ix_list (pe_fld (pv 0) rfl) (pe_ix ix_list (pv 3) (pe_un un_neg pe_int) (fun _ _ => rfl)) (fun _ _ => rfl)) (pe_ix ix_list (pe_fld (pv 0) rfl) (pe_ix ix_list (pv 4) (pe_un un_neg pe_int) (fun _ _ => rfl)) (fun _ _ => rfl)) (nomark _))
          (pss_one (ps_expr (pe_bm PySem.F.plainAttrs_list PySem.F.slot_list_append PySem.F.type_list_append mt_append (pv 3) (pa_cons (pe_ix ix_list (pe_fld (pv 0) rfl) (pe_ix ix_list (pv 3) (pe_un un_neg pe_int) (fun _ _ => rfl)) (fun _ _ => rfl)) pa_nil))))
          (pss_one (ps_expr (pe_bm PySem.F.plainAttrs_list PySem.F.slot_list_append PySem.F.type_list_append mt_append (pv 4) (pa_cons (pe_ix ix_list (pe_fld (pv 0) rfl) (pe_ix ix_list (pv 4) (pe_un un_neg pe_int) (fun _ _ => rfl)) (fun _ _ => rfl)) pa_nil)))))))
      (pss_cons (ps_expr (pe_bm0 PySem.F.plainAttrs_list PySem.F.slot_list_pop PySem.F.type_list_pop mt_pop (pv 4)))
      (pss_one (ps_ret (pe_callTy call_tuple_of (by rfl) N.tuple boot_tuple (pa_cons (pe_op op_cat (pv 3) (pe_revL (pv 4))) pa_nil)))))))))
      , ?_⟩
    obtain ⟨T, few, dx, tt, na, Aa, L, ps, ts, h1, h2, h3, h4, h5, h6, h7, h8⟩ := id R
    refine ⟨_, rfl, _, rfl, r, tr, a, rfl, R, ha, ?_⟩
    refine ⟨_, rfl, _, rfl, r, tr, b, rfl, R, hb, ?_⟩
    refine ⟨_, rfl, by show 1 ≤ sizeLine; rw [sizeLine_eq]; decide, fun fa nfa => ?_⟩
    refine ⟨_, rfl, by show 1 ≤ sizeLine; rw [sizeLine_eq]; decide, fun ba nba1 => ?_⟩
    have sf := same_upd nfa (.lst [iv a])
    have nba := sf.free nba1
    have s0 := sf.trans (same_upd nba1 (.lst [iv b]))
    have nfb : fa ≠ ba := fun z => by rw [← z, upd_same] at nba1; cases nba1
    have hf0 : upd (upd H fa (.lst [iv a])) ba (.lst [iv b]) fa = some (.lst [iv a]) := by rw [upd_ne nfb, upd_same]
    have hb0 := upd_same (H := upd H fa (.lst [iv a])) (a := ba) (o := .lst [iv b])
    generalize upd (upd H fa (.lst [iv a])) ba (.lst [iv b]) = H0 at s0 hf0 hb0
    refine ⟨fun m σ H' => ∃ (x y : Nat) (F B : List Nat), m = dep tr x + dep tr y ∧ σ = [some (.ref r), some (iv a), some (iv b), some (.ref fa), some (.ref ba)] ∧ Clb tr a b x y F B ∧ Same H H' ∧ H' fa = some (.lst ((F ++ [x]).map iv)) ∧ H' ba = some (.lst ((B ++ [y]).map iv)),
      ⟨_, a, b, [], [], rfl, rfl, Clb.start ha hb, s0, hf0, hb0⟩, ?_⟩
    clear sf nba1 s0 hf0 hb0 H0
    rintro m σ H1 ⟨x, y, F, B, rfl, rfl, c, s1, hf, hb1⟩
    have lx := c.lx
    have ly := c.ly
    refine ⟨_, rfl, _, rfl, fa, _, _, _, rfl, rfl, SqL.of hf, at_last, _, rfl, _, rfl, ba, _, _, _, rfl, rfl, SqL.of hb1, at_last, rfl, _, rfl, ?_⟩
    have hr1 := s1 _ _ h1
    have hA1 := s1 _ _ h7
    have hL1 := s1 _ _ h8
    refine ite2 (fun hc => ?_) (fun hc => ?_)
    · have ne : x ≠ y := fun z => by rw [z] at hc; simp at hc
      refine ⟨fun σ' H' => ∃ (x' y' : Nat) (F B : List Nat), dep tr x' + dep tr y' < dep tr x + dep tr y ∧ σ' = [some (.ref r), some (iv a), some (iv b), some (.ref fa), some (.ref ba)] ∧ Clb tr a b x' y' F B ∧ Same H H' ∧ H' fa = some (.lst ((F ++ [x']).map iv)) ∧ H' ba = some (.lst ((B ++ [y']).map iv)),
        fun σ' H' ⟨x', y', F, B, lt, e⟩ => ⟨_, lt, x', y', F, B, rfl, e⟩, ?_⟩
      refine ⟨_, rfl, r, C, dx, _, _, rfl, hr1, X.cl, X.nL, flR_l, _, rfl, _, rfl, fa, _, _, _, rfl, rfl, SqL.of hf, at_last, L, _, _, _, rfl, rfl, SqL.of hL1, atN (vec_get (by omega)), ?_⟩
      refine ⟨_, rfl, r, C, dx, _, _, rfl, hr1, X.cl, X.nL, flR_l, _, rfl, _, rfl, ba, _, _, _, rfl, rfl, SqL.of hb1, at_last, L, _, _, _, rfl, rfl, SqL.of hL1, atN (vec_get (by omega)), _, _, rfl, rfl, _, rfl, ?_⟩
      refine ite2 (fun hd => ?_) (fun hd => ?_)
      · have hlt : dep tr y < dep tr x := by
          have := of_decide_eq_true hd
          omega
        obtain ⟨q1, q2, c2⟩ := c.up1 T ne hlt
        have ep : p0 tr x = par tr x := by unfold p0; rw [if_neg (by omega)]
        refine ⟨_, rfl, .inl ⟨rfl, _, SqL.of hf⟩, _, rfl, r, C, dx, _, _, rfl, hr1, X.cl, X.nA, flR_a, _, rfl, _, rfl, fa, _, _, _, rfl, rfl, SqL.of hf, at_last, Aa, _, _, _, rfl, rfl, SqL.of hA1, atN (vec_get (by omega)), _, _, _, rfl, rfl, hf, ?_, ?_⟩
        · have h9 : (F ++ [x]).length ≤ tr.length + 1 := nd_len c.nf fun z hz => by
            rcases mem_snoc.mp hz with hz | rfl
            · exact c.lf z hz
            · exact lx
          rw [List.length_map, sizeLine_eq]
          omega
        · refine ⟨par tr x, y, F ++ [x], B, by omega, rfl, c2, same_old s1 nfa _, ?_, by rw [upd_ne nfb.symm]; exact hb1⟩
          rw [upd_same, ep, List.map_append (l₁ := F ++ [x])]
          rfl
      · have hlt : ¬ dep tr y < dep tr x := by
          intro z
          apply hd
          exact decide_eq_true (by show ((dep tr y : Nat) : Int) < ((dep tr x : Nat) : Int); omega)
        obtain ⟨q1, q2, c2⟩ := c.up2 T ne hlt
        have ep : p0 tr y = par tr y := by unfold p0; rw [if_neg (by omega)]
        refine ⟨_, rfl, .inl ⟨rfl, _, SqL.of hb1⟩, _, rfl, r, C, dx, _, _, rfl, hr1, X.cl, X.nA, flR_a, _, rfl, _, rfl, ba, _, _, _, rfl, rfl, SqL.of hb1, at_last, Aa, _, _, _, rfl, rfl, SqL.of hA1, atN (vec_get (by omega)), _, _, _, rfl, rfl, hb1, ?_, ?_⟩
        · have h9 : (B ++ [y]).length ≤ tr.length + 1 := nd_len c.nb fun z hz => by
            rcases mem_snoc.mp hz with hz | rfl
            · exact c.lb z hz
            · exact ly
          rw [List.length_map, sizeLine_eq]
          omega
        · refine ⟨x, par tr y, F, B ++ [y], by omega, rfl, c2, same_old s1 nba _, by rw [upd_ne nfb]; exact hf, ?_⟩
          rw [upd_same, ep, List.map_append (l₁ := B ++ [y])]
          rfl
    · have e : x = y := by
        by_cases z : x = y
        · exact z
        · exfalso
          apply hc
          have : ¬ (iv x = iv y) := fun q => z (iv_inj.mp q)
          simp [this]
      subst e
      have sw := c.done
      have hlen : (F ++ [x] ++ B.reverse).length ≤ tr.length + 1 := nd_len sw.nd fun z hz => by
        rcases List.mem_append.mp hz with hz | hz
        · rcases mem_snoc.mp hz with hz | rfl
          · exact c.lf z hz
          · exact lx
        · exact c.lb z (List.mem_reverse.mp hz)
      rw [List.length_append, List.length_reverse] at hlen
      have e1 : ((B ++ [x]).map iv).dropLast = B.map iv := by rw [List.map_append]; exact List.dropLast_concat
      have e2 : ((B ++ [x]).map iv)[((B ++ [x]).map iv).length - 1]? = some (iv x) := by
        rw [List.length_map, List.length_append, List.length_singleton, Nat.add_sub_cancel, List.map_append, List.getElem?_append_right (by rw [List.length_map]; exact Nat.le_refl _), List.length_map, Nat.sub_self]
        rfl
      refine ⟨_, rfl, .inl ⟨rfl, _, SqL.of hb1⟩, ba, _, _, rfl, rfl, hb1, e2, ?_⟩
      rw [e1]
      have s2 := same_old s1 nba (.lst (B.map iv))
      have hf2 : upd H1 ba (.lst (B.map iv)) fa = some (.lst ((F ++ [x]).map iv)) := by rw [upd_ne nfb]; exact hf
      have hb2 := upd_same (H := H1) (a := ba) (o := .lst (B.map iv))
      generalize upd H1 ba (.lst (B.map iv)) = H2 at s2 hf2 hb2
      refine ⟨_, rfl, _, rfl, ba, _, rfl, SqL.of hb2, fun p np => ?_⟩
      refine ⟨fa, p, _, _, rfl, rfl, same_upd np _ _ _ hf2, upd_same, ?_, fun q nq => ?_⟩
      · rw [List.length_map, List.length_reverse, List.length_map, sizeLine_eq]
        omega
      refine ⟨q, _, rfl, .inl ⟨SqL.of upd_same, fun t nt => ?_⟩⟩
      refine k (F ++ [x] ++ B.reverse) t _ sw (((s2.trans (same_upd np _)).trans (same_upd nq _)).trans (same_upd nt _)) ?_ ?_
      · exact (s2.trans ((same_upd np _).trans (same_upd nq _))).free nt
      · rw [upd_same, List.map_append (l₁ := F ++ [x]), List.map_reverse]
end
end TR
namespace L2.TT
open PySem PySem.Spec PyProof.Rows PySem.W
/-- an exception stands at a: of the class at C, with these fields -/
def ExcAt (H : Hp) (a C : Addr) (fs : List (Str × V)) : Prop := ∃ d, H a = some (exo a C (some d)) ∧ H d = some (exd d fs)
theorem ExcAt.same {H H' : Hp} {a C : Addr} {fs : List (Str × V)} (e : ExcAt H a C fs) (s : Same H H') : ExcAt H' a C fs := by
  obtain ⟨d, h1, h2⟩ := e
  exact ⟨d, s _ _ h1, s _ _ h2⟩
section
variable {X : Cx} {pins : List (Addr × Obj)} {σ : St} {H : Hp} {s : Shared} {a C : Addr} {f : Str} {y : V} {u : Value} {Q : Unit → Shared → Prop} {E : Value → Shared → Prop} {A : Around} {B newId initId : String} {bmB : List Value}
/-- self.f = y on an exception that is being made: its dict is laid -/
theorem xset_first (Y : XB B newId initId bmB) (T : XC X.K C bmB newId) (I : Inv X pins σ H s) (e : H a = some (exo a C none)) (hno : findIn X.K (.ref C) f = some none) (ry : RelV y u)
    (h : ∀ dx s', H dx = none → dx ≠ a → Inv X pins σ (upd (upd H dx (exd dx [(f, y)])) a (exo a C (some dx))) s' → Q () s') : wpAny (model X.prog X.w) A (setAttr (.ref a) f u) Q E s := by
  obtain ⟨t1, ho⟩ := exo_at I.hok e
  obtain ⟨hp, g, d, t, os⟩ := s
  refine set_plain I.kIn (ox := excObj C t1 none .none) (od := none) ⟨ho, rfl, rfl, trivial⟩ T.sa ?_
  refine osa_first Y T I.kIn ho hno (fun h' tk' hn hs => ?_)
  have nda : hp.objs.size ≠ a := (Nat.ne_of_lt (Heap.lt_size ho)).symm
  have fr : H hp.objs.size = none := I.hok.fresh (Nat.le_refl _)
  -- the dict, empty
  have n0 : (hp.push (dictOf [] 0)).Ns1 hp.objs.size (fun _ => none) := Heap.Ns1.of_empty ⟨_, #[], _, Heap.get?_push_at rfl rfl, rfl, fun e he => absurd he (by simp), fun _ => rfl⟩
  have I1 := I.laid (t' := t) (a := hp.objs.size) (o := exd hp.objs.size []) (h' := hp.push (dictOf [] 0)) (fun b o e => Heap.get?_push_of_some _ e) (Nat.le_refl _) (exd_ok n0 fun _ => True.intro)
  have ho1 : (hp.push (dictOf [] 0)).get? a = some (excObj C t1 none .none) := Heap.get?_push_of_some _ ho
  have hx2 : (dictLaid hp a).get? a = some (excObj C t1 (some hp.objs.size) .none) := Heap.get?_update_self _ ho1 rfl
  have ea1 : upd H hp.objs.size (exd hp.objs.size []) a = some (exo a C none) := by rw [upd_ne nda.symm]; exact e
  have I2 := I1.write (t' := t) (x := a) (e := a) (o := exo a C (some hp.objs.size)) (h' := dictLaid hp a) (by rw [ea1]; exact True.intro) (.inl rfl) (fun b o hb e => (Heap.get?_update_ne _ _ _ _ hb).trans e) ⟨_, hx2⟩ (exo_ok hx2)
  have ed2 : upd (upd H hp.objs.size (exd hp.objs.size [])) a (exo a C (some hp.objs.size)) hp.objs.size = some (exd hp.objs.size []) := by rw [upd_ne nda, upd_same]
  have I3 := I2.write (t' := tk') (x := hp.objs.size) (e := hp.objs.size) (o := exd hp.objs.size [(f, y)]) (h' := h') (by rw [ed2]; exact True.intro) (.inl rfl) (fun b o hb e => (hs.2 b hb).trans e)
    (by obtain ⟨o, _, _, q, _⟩ := hn; exact ⟨o, q⟩) (exd_ok hn (relO_put (fs := []) ry fun g => True.intro))
  refine h hp.objs.size _ fr nda ?_
  have eq : upd (upd (upd H hp.objs.size (exd hp.objs.size [])) a (exo a C (some hp.objs.size))) hp.objs.size (exd hp.objs.size [(f, y)]) = upd (upd H hp.objs.size (exd hp.objs.size [(f, y)])) a (exo a C (some hp.objs.size)) := by
    funext b
    by_cases h1 : b = hp.objs.size
    · rw [h1, upd_same, upd_ne nda, upd_same]
    · rw [upd_ne h1]
      by_cases h2 : b = a
      · rw [h2, upd_same, upd_same]
      · rw [upd_ne h2, upd_ne h1, upd_ne h2, upd_ne h1]
  rw [← eq]
  exact I3
/-- self.f = y, a further field -/
theorem xset_more (Y : XB B newId initId bmB) (T : XC X.K C bmB newId) {dx : Addr} {fs : List (Str × V)} (I : Inv X pins σ H s) (e : H a = some (exo a C (some dx))) (ed : H dx = some (exd dx fs)) (hl : fs.length ≤ 900) (hno : findIn X.K (.ref C) f = some none) (ry : RelV y u)
    (h : ∀ s', Inv X pins σ (upd H dx (exd dx ((f, y) :: fs))) s' → Q () s') : wpAny (model X.prog X.w) A (setAttr (.ref a) f u) Q E s := by
  obtain ⟨t1, ho⟩ := exo_at I.hok e
  obtain ⟨mA, hns, rel⟩ := exd_at I.hok ed
  have hw := within_of rel
  obtain ⟨hp, g, d, t, os⟩ := s
  obtain ⟨oD, _, _, hoD, _, _⟩ := hns.count hw
  have ht : takerIn X.K C f = some none := by unfold takerIn; rw [hno]; rfl
  refine set_plain I.kIn (ox := excObj C t1 (some dx) .none) (od := some oD) ⟨ho, rfl, rfl, hoD⟩ T.sa ?_
  refine osa_openX (s := ⟨hp, g, d, t + 1, os⟩) (od := some oD) Y.st I.kIn ⟨ho, rfl, rfl, hoD⟩ T.ovr ht fun b => ?_
  obtain ⟨cd, hc, hd'⟩ := any_some T.hd
  refine wpAny_bind (wpAny_pure (wpAny_bind (wpAny_bind (wpAny_loadPart (s := ⟨hp, g, d, t + 1, os⟩) ho (wpAny_bind ((looks_clsIn (h := hp) I.kIn hc).at ?_))))))
  rw [hd']
  refine wpAny_pure (a := some dx) ?_
  refine OEX.store_in_old hns hw (by rw [List.length_map]; omega) fun h' tk' hn hs => ?_
  refine h _ (I.write (t' := tk') (x := dx) (e := dx) (o := exd dx ((f, y) :: fs)) (by rw [ed]; exact True.intro) (.inl rfl) (fun b o hb e => (hs.2 b hb).trans e) ?_ (exd_ok hn (relO_put ry rel)))
  obtain ⟨o, _, _, e', _⟩ := hn
  exact ⟨o, e'⟩
end
/-- self.f = e, self an exception that is being made -/
def tXst (K : Frag) (f : Str) (to te : TE) : TS := fun D σ H => te σ H fun y H1 => to σ H1 fun x H2 => ∃ (a C : Addr) (B newId initId : String) (bmB : List Value), x = .ref a ∧ XB B newId initId bmB ∧ XC K C bmB newId ∧ findIn K (.ref C) f = some none ∧
  ((H2 a = some (exo a C none) ∧ ∀ dx, H2 dx = none → dx ≠ a → D.nx σ (upd (upd H2 dx (exd dx [(f, y)])) a (exo a C (some dx)))) ∨
    ∃ (dx : Addr) (fs : List (Str × V)), H2 a = some (exo a C (some dx)) ∧ H2 dx = some (exd dx fs) ∧ fs.length ≤ 900 ∧ D.nx σ (upd H2 dx (exd dx ((f, y) :: fs))))
section
variable {X : Cx} {o e : Expr} {to te : TE} {f : Str} {p' pos : Pos}
theorem ps_xst (ho : PE X o to) (he : PE X e te) (hs : swapsWith e (some (.Attribute o f p')) pos.line X.env = pure false := by rfl) : PS X (.Assign [.Attribute o f p'] e pos) (tXst X.K f to te) := by
  refine ⟨fun pins s σ H D I h => ?_⟩
  refine plainObj_wpAny_Assign_Attribute (thn (he.run pins s σ H _ I h) fun v s1 ⟨y, H1, I1, r1, q1⟩ => thn (ho.run pins s1 σ H1 _ I1 q1) fun u s2 ⟨x, H2, I2, r2, a, C, B, newId, initId, bmB, ex, Y, T, hno, q⟩ => ?_) hs
  subst ex
  obtain rfl : u = Value.ref a := r2
  rcases q with ⟨ea, q⟩ | ⟨dx, fs, ea, ed, hl, q⟩
  · exact xset_first Y T I2 ea hno r1 fun dx s' n ne J => ⟨σ, _, J, q dx n ne⟩
  · exact xset_more Y T I2 ea ed hl hno r1 fun s' J => ⟨σ, _, J, q⟩
end
/-- the promise of an __init__ that stores its one argument -/
def spI1 (C : Addr) (f : Str) : Sp := fun vs H Q _ => ∃ (a : Addr) (y : V), vs = [.ref a, y] ∧ H a = some (exo a C none) ∧ ∀ d, H d = none → d ≠ a → Q .non (upd (upd H d (exd d [(f, y)])) a (exo a C (some d)))
end L2.TT
namespace L2.TT
open PySem PySem.Spec PyProof.Rows PySem.W
open Builtin
/-! ### the call of an exception class with keywords -/
section
variable {prog : Program} {w : World} {A : Around} {E : Value → Shared → Prop} {R : Result → Shared → Prop} {h : Heap} {g : Array GenState} {d : Drawn} {t : Nat} {os : OsState}
variable {nm q : Str} {C N : Addr} {bs bm bmB : List Value} {hdct : Bool} {sn : List Str} {sub : List Value} {ab : Bool} {col : Option Bool} {dd : Option Addr} {k0 k1 k2 k3 k5 : Option Value} {B newId initId : String} {rest : List Value} {kw : List (Str × Value)}
theorem chk_call (hC : h.get? C = some (excClassObj nm q C N bs bm hdct sn sub ab col dd k0 k1 k2 k3 k5 newId)) {Q : Unit → Shared → Prop}
    (hq : Q () ⟨h, g, d, t, os⟩) : wpAny (model prog w) A (checkBuiltinCall "type.__call__" ⟨.ref C :: rest, kw⟩) Q E ⟨h, g, d, t, os⟩ := by
  have hTy : (⟨h, g, d, t, os⟩ : Shared).TypeIs (.ref C) "type" := ⟨_, hC, rfl⟩
  have f3 := tc_sub
  simp only [checkBuiltinCall, tc_kind, tc_split]
  repeat (any_goals (first | assumption | with_reducible refine wpAny_loadPart_at hC ?_ | with_reducible refine wpAny_onRaise ?_ | with_reducible refine wpAny_map ?_ | wp_step))
theorem chk_new (F : ExcBaseFacts B newId initId bmB) (hT : ∀ X : String, bm.contains (.type X) = bmB.contains (.type X)) {Q : Unit → Shared → Prop}
    (hC : h.get? C = some (excClassObj nm q C N bs bm hdct sn sub ab col dd k0 k1 k2 k3 k5 newId)) (hq : Q () ⟨h, g, d, t, os⟩) : wpAny (model prog w) A (checkBuiltinCall newId ⟨.ref C :: rest, kw⟩) Q E ⟨h, g, d, t, os⟩ := by
  have c1 : (Value.ref C :: bm).contains (.type B) = true := by rw [List.contains_cons, hT, F.hasB, Bool.or_true]
  have c2 := F.noStar
  simp only [checkBuiltinCall, F.newKind, F.newSplit, F.newRow]
  repeat (first | refine wpAny_loadPart_at hC ?_ | (refine wpAny_isSubtype_exc hC ?_; rw [c1]) | refine wpAny_staticBase_exc hC ?_ | refine wpAny_madeBy_exc hC ?_ | simp only [bne_self_eq_false, Bool.false_eq_true, if_false] | wp_step)
  exact hq
theorem run_new (F : ExcBaseFacts B newId initId bmB) (hT : ∀ X : String, bm.contains (.type X) = bmB.contains (.type X))
    (hC : h.get? C = some (excClassObj nm q C N bs bm hdct sn sub ab col dd k0 k1 k2 k3 k5 newId))
    (hq : R (.ok (.ret (.ref (h.objs.size + 1)))) ⟨(h.push (kdv_tup rest)).push (HandSPX.excO C h.objs.size), g, d, t, os⟩) (hrest : rest.length ≤ sizeLine) :
    codeAny (model prog w) A (.builtin newId ⟨.ref C :: rest, kw⟩) R ⟨h, g, d, t, os⟩ := by
  have c0 := F.ends
  have c1 : (Value.ref C :: bm).contains (.type B) = true := by rw [List.contains_cons, hT, F.hasB, Bool.or_true]
  have c2 : (Value.ref C :: bm).contains (.type "AttributeError") = false := by rw [List.contains_cons, hT, F.noAttr]; rfl
  have c3 : (Value.ref C :: bm).contains (.type "NameError") = false := by rw [List.contains_cons, hT, F.noName]; rfl
  refine codeAny_builtinAt F.entry ?_
  unfold Builtin.«BaseException.__new__»
  refine PySem.wpAt_bind ?_
  show PySem.wpAt _ _ _ (stack >>= _) _ _ _
  refine PySem.wpAt_bind (PySem.wpAt_stack fun p below => PySem.wpAt_of_wpAny ?_)
  wp_walk
  refine PySem.wpAt_of_wpAny ?_
  rw [F.owner]
  repeat (first | with_reducible refine wpAny_madeHere_exc F.canon hC ?_ | with_reducible refine wpAny_loadPart_at hC ?_ | (with_reducible refine wpAny_isSubtype_exc hC ?_; first | rw [c1] | rw [c2] | rw [c3]) | wp_step)
  show R _ _
  rw [Heap.size_push]
  exact hq
theorem typ_call (F : ExcBaseFacts B newId initId bmB) (hT : ∀ X : String, bm.contains (.type X) = bmB.contains (.type X)) {fI : Addr} {Q : Fin → Shared → Prop}
    (hC : h.get? C = some (excClassObj nm q C N bs bm hdct sn sub ab col dd k0 k1 k2 k3 k5 newId))
    (hi : Looks (model prog w) h (typeLookup (.ref C) "__init__") (some (.ref fI))) (hb : ∀ self, Looks (model prog w) h (bindSpecial (.ref fI) self) (.ref fI, [self])) (hrest : rest.length ≤ sizeLine)
    (hq : codeAny (model prog w) A (.call (.ref fI) ⟨.ref (h.objs.size + 1) :: rest, kw⟩)
      (fun r s' => match r with | .ok (.ret v) => v = .none ∧ Q (.done (.ret (.ref (h.objs.size + 1)))) s' | .ok _ => False | .error e => E e s')
      ⟨(h.push (kdv_tup rest)).push (HandSPX.excO C h.objs.size), g, d, t, os⟩) :
    wpAny (model prog w) A (Builtin.«type.__call__» ⟨.ref C :: rest, kw⟩) Q E ⟨h, g, d, t, os⟩ := by
  repeat (first | with_reducible refine wpAny_loadPart_at hC ?_ | with_reducible refine wpAny_madeBy_exc hC ?_ | wp_step)
  refine codeAny_call_builtin_code (Code.quiet_builtin _ F.quiet) (chk_new F hT hC ?_)
  refine run_new F hT hC ?_ hrest
  show wpAny _ _ _ _ _ _
  have k : ∀ b o, h.get? b = some o → ((h.push (kdv_tup rest)).push (HandSPX.excO C h.objs.size)).get? b = some o := fun b o e => Heap.get?_push_of_some _ (Heap.get?_push_of_some _ e)
  have hC₁ := k _ _ hC
  have hget : ((h.push (kdv_tup rest)).push (HandSPX.excO C h.objs.size)).get? (h.objs.size + 1) = some (HandSPX.excO C h.objs.size) := by heap_get
  have hcC : (Value.ref C :: bm).contains (.ref C) = true := by simp
  have i1 := hi.keeps k
  have b1 := (hb (.ref (h.objs.size + 1))).keeps k
  unfold isInstance
  repeat (first | with_reducible refine wpAny_loadPart_at hget ?_ | (with_reducible refine wpAny_isSubtype_exc hC₁ ?_; rw [hcC]) | wp_step)
  show wpAny _ _ (typeLookup (.ref C) _) _ _ _
  refine i1.at ?_
  refine wpAny_holding (wpAny_bind (b1.at ?_))
  refine wpAny_bind (wpAny_call (codeAny_mono hq fun r s' z => ?_))
  rcases r with e | (v | _ | _ | _) <;> first | exact z | exact z.elim | skip
  obtain ⟨rfl, z⟩ := z
  first
    | exact wpAny_pure (wpAny_pure z)
    | (wp_walk; exact z)
theorem call_exc (F : ExcBaseFacts B newId initId bmB) (hT : ∀ X : String, bm.contains (.type X) = bmB.contains (.type X)) {fI : Addr}
    (hC : h.get? C = some (excClassObj nm q C N bs bm hdct sn sub ab col dd k0 k1 k2 k3 k5 newId))
    (hi : Looks (model prog w) h (typeLookup (.ref C) "__init__") (some (.ref fI))) (hb : ∀ self, Looks (model prog w) h (bindSpecial (.ref fI) self) (.ref fI, [self])) (hrest : rest.length ≤ sizeLine)
    (hq : codeAny (model prog w) (A.under (.builtin "type.__call__" ⟨.ref C :: rest, kw⟩)) (.call (.ref fI) ⟨.ref (h.objs.size + 1) :: rest, kw⟩) (InitBack (h.objs.size + 1) R)
      ⟨(h.push (kdv_tup rest)).push (HandSPX.excO C h.objs.size), g, d, t, os⟩) :
    codeAny (model prog w) A (.call (.ref C) ⟨rest, kw⟩) R ⟨h, g, d, t, os⟩ := by
  have f1 := tc_lookup
  have f2 := tc_bind (.ref C)
  have hTy : (⟨h, g, d, t, os⟩ : Shared).TypeIs (.ref C) "type" := ⟨_, hC, rfl⟩
  refine codeAny_of_tree ?_
  show wpAny _ _ (callAny (.ref C) _) _ _ _
  repeat (any_goals (first | assumption | with_reducible refine wpAny_loadPart_at hC ?_ | wp_step))
  refine ⟨rfl, ?_⟩
  refine codeAny_call_builtin_at (Code.quiet_builtin _ (by decide +kernel)) entry_typeCall (chk_call hC (typ_call F hT hC hi hb hrest ?_))
  refine codeAny_mono hq fun r s' z => ?_
  rcases r with e | (v | _ | _ | _) <;> exact z
end
end L2.TT
namespace L2.TT
open PySem PySem.Spec PyProof.Rows PySem.W
/-! ### C(e, ..), C(k = v, ..): a new exception as a value -/
section
variable {X : Cx} {CX : CXT} {k n : Nat} {f C : Addr} {fd : FuncData} {ps ks : List Str} {sp : Sp} {E : XK} {x : Str} {p pos : Pos} {e : Expr} {es : List Expr} {kws : List Keyword} {ta tk : TA} {g : List Value → List Value → List Value} {gV : List V → List V → List V}
variable {B newId initId : String} {bmB : List Value}
theorem small_of {us : List Value} {vs : List V} (r : Vals vs us) (h : vs.length ≤ 1000) : us.length ≤ sizeLine := by
  rw [← r.length, sizeLine_eq]
  omega
end
/-! ### e.f, isinstance(e, C) -/
section
variable {X : Cx} {e : Expr} {te : TE} {n : Str} {pos : Pos}
/-- what the written part says of object's __class__ -/
structure KCls (K : Frag) : Prop where
  gt : specialIn K (.builtin "object.__class__") "__get__" = some (some (.builtin "getset_descriptor.__get__"))
  tk : takesIn K (.builtin "object.__class__") = some true
end
end L2.TT
namespace L2.TT
open PySem PySem.Spec PyProof.Rows PySem.W
/-! ### data that may be shown: dicts too -/
def keyD : Key → PyData
  | .inl i => .int i
  | .inr x => .str x
/-- a flat value -/
inductive FlatD : V → PyData → Prop
  | non : FlatD .non .none
  | bl (b : Bool) : FlatD (.bl b) (.bool b)
  | int (i : Int) : FlatD (.int i) (.int i)
  | str (x : Str) : FlatD (.str x) (.str x)
abbrev KvD : List (Key × V) → List (PyData × PyData) → Prop := Paired fun p q => q.1 = keyD p.1 ∧ FlatD p.2 q.2
/-- flat, or a dict of flat things -/
inductive FD (H : Hp) : V → PyData → Prop
  | flat {v : V} {d : PyData} : FlatD v d → FD H v d
  | dic {a : Addr} {kvs : List (Key × V)} {es : List (PyData × PyData)} : H a = some (.dK kvs) → KvD kvs es → FD H (.ref a) (.dict es)
inductive DS (K : Frag) (H : Hp) : V → PyData → Prop
  | fd {v : V} {d : PyData} : FD H v d → DS K H v d
  | tup {a : Addr} {xs : List V} {ds : List PyData} : SqT K H a xs → Paired (FD H) xs ds → DS K H (.ref a) (.tuple ds)
/-- the items of a list that may be shown -/
def DL (K : Frag) (H : Hp) (vs : List V) (ds : List PyData) : Prop := (DpAll K H vs ds ∧ PyData.canLayAll0 ds = true) ∨ Paired (DS K H) vs ds
section
variable {X : Cx} {pins : List (Addr × Obj)} {σ : St} {H : Hp} {s : Shared}
theorem FlatD.reads {v : V} {d : PyData} {u : Value} (f : FlatD v d) (r : RelV v u) (h : Heap) : Reads h u d [] := by
  cases f with
  | non => cases r; exact .none
  | bl b => cases r; exact .bool b
  | int i => obtain ⟨t, rfl⟩ := r; exact .int i t
  | str x => obtain ⟨t, rfl⟩ := r; exact .str x t
theorem reads_vals : ∀ {kvs : List (Key × V)} {es : List (PyData × PyData)} {vs : List (Key × Value)} {ds : List DictEntry} {h : Heap} {P : Program} {w : World}, KvD kvs es → KV kvs vs → Pairs (mixKind P w) ds vs →
    ReadsAll h (ds.map (·.key)) (es.map (·.1)) [] ∧ ReadsAll h (ds.map (·.val)) (es.map (·.2)) []
  | _, _, _, _, _, _, _, .nil, .nil, .nil => ⟨.nil, .nil⟩
  | _, _, _, _, h, _, _, .cons (a := p) (b := q) ⟨e1, f⟩ t, .cons (b := z) ⟨e2, r⟩ t2, .cons (e := e) (kv := _) i v t3 => by
    obtain ⟨h1, h2⟩ := reads_vals (h := h) t t2 t3
    have rk : Reads h e.key q.1 [] := by
      rw [e1, e2]
      have i' : keyIs z.1 e.key = true := i
      rcases keyIs_shape i' with ⟨n, tk, ek, ev⟩ | ⟨x, tk, ek, ev⟩
      · rw [ek, ev]; exact .int n tk
      · rw [ek, ev]; exact .str x tk
    have rv : Reads h e.val q.2 [] := by rw [v]; exact f.reads r h
    exact ⟨ReadsAll.cons rk h1, ReadsAll.cons rv h2⟩
theorem FD.reads (I : Inv X pins σ H s) {v : V} {d : PyData} {u : Value} (f : FD H v d) (r : RelV v u) : ∃ as, Reads s.heap u d as ∧ sysModules ∉ as := by
  cases f with
  | flat f => exact ⟨[], f.reads r _, fun z => nomatch z⟩
  | dic e k =>
    rename_i a kvs es
    cases r
    obtain ⟨_, hs, vs, rel, o, eo, ep, ho, hx, hd, _, hp, _⟩ := dk_of I.hok e
    obtain ⟨h1, h2⟩ := reads_vals (h := s.heap) k rel hp
    refine ⟨_, Reads.dict ho hx.1 hd h1 h2, ?_⟩
    intro z
    have z' : sysModules = a := by simpa using z
    rw [← z'] at hs
    simp at hs
theorem FD.readsAll (I : Inv X pins σ H s) : ∀ {vs : List V} {ds : List PyData} {us : List Value}, Paired (FD H) vs ds → Vals vs us → ∃ as, ReadsAll s.heap us ds as ∧ sysModules ∉ as
  | _, _, _, .nil, .nil => ⟨[], .nil, fun z => nomatch z⟩
  | _, _, _, .cons f t, .cons r t2 => by
    obtain ⟨as, h1, n1⟩ := f.reads I r
    obtain ⟨bs, h2, n2⟩ := FD.readsAll I t t2
    exact ⟨as ++ bs, .cons h1 h2, fun z => (List.mem_append.mp z).elim n1 n2⟩
theorem DS.reads (I : Inv X pins σ H s) {v : V} {d : PyData} {u : Value} (f : DS X.K H v d) (r : RelV v u) : ∃ as, Reads s.heap u d as ∧ sysModules ∉ as := by
  cases f with
  | fd f => exact f.reads I r
  | tup hs ha =>
    cases r
    obtain ⟨its, rv, ⟨o, ho, hc, n, hd⟩, _⟩ := I.tuple hs
    obtain ⟨as, q, n⟩ := FD.readsAll I ha rv
    exact ⟨_, .tuple ho hc hd q, n⟩
theorem DS.readsAll (I : Inv X pins σ H s) : ∀ {vs : List V} {ds : List PyData} {us : List Value}, Paired (DS X.K H) vs ds → Vals vs us → ∃ as, ReadsAll s.heap us ds as ∧ sysModules ∉ as
  | _, _, _, .nil, .nil => ⟨[], .nil, fun z => nomatch z⟩
  | _, _, _, .cons f t, .cons r t2 => by
    obtain ⟨as, h1, n1⟩ := f.reads I r
    obtain ⟨bs, h2, n2⟩ := DS.readsAll I t t2
    exact ⟨as ++ bs, .cons h1 h2, fun z => (List.mem_append.mp z).elim n1 n2⟩
theorem DL.reads (I : Inv X pins σ H s) {vs : List V} {ds : List PyData} {us : List Value} (f : DL X.K H vs ds) (r : Vals vs us) : ∃ as, ReadsAll s.heap us ds as ∧ (PyData.hasDictAll ds = true → sysModules ∉ as) := by
  rcases f with ⟨f, c⟩ | f
  · obtain ⟨as, q⟩ := Dp.readsAll I ds vs us f r
    refine ⟨as, q, fun z => ?_⟩
    rw [PyData.hasDictAll_of_canLayAll ds c] at z
    exact absurd z Bool.false_ne_true
  · obtain ⟨as, q, n⟩ := DS.readsAll I f r
    exact ⟨as, q, fun _ => n⟩
end
end L2.TT
namespace L2.TT
open PySem PySem.Spec PyProof.Rows
/-! ### a def's promise where no repr is under way: repr asks the guards -/
def NoGuard (A : Around) : Prop := A.guards = some []
structure FnG (P : Program) (w : World) (K : PySem.W.Frag) (mg : Str → Option Value) (base : Heap) (CX : CXT) (k : Nat) (f : Addr) (fd : FuncData) (ps : List Str) (sp : Sp) : Prop where
  len : ∀ vs H Q E, sp vs H Q E → vs.length = ps.length
  run : ∀ (A : Around) (outer : List Env) (s : Shared) (H : Hp) (args : Args) (us : List Value) (vs : List V) (Q : VK) (E : XK), NoGuard A → Room k A → Env0 P w K mg base A outer s H → BindsTo s fd args (ps.zip us) → Vals vs us → sp vs H Q E →
    codeAny (model P w) A (.call (.ref f) args) (CR CX outer P w H s Q E) s
/-- a def by its body, where no repr is under way -/
theorem fnG_of {CX : CXT} {P : Program} {w : World} {K : PySem.W.Frag} {mg : Str → Option Value} {base : Heap} {k : Nat} {f : Addr} {name qual : Str} {params : Arguments} {body : List Stmt} {scope : Scope} {dV kV doc pm cdv ct oc : Value} {an od : Option Addr}
    {osl : Array (Option Value)} {N ps : List Str} {sp : Sp} (lk : K.lookup f = some ⟨oc, od, .func (PySem.W.fnOf name qual params body scope dV kV doc pm an cdv ct), osl⟩) (hcd : PySem.W.codeIn K cdv qual = true) (S : FnScope N ps scope)
    (len : ∀ vs H Q E, sp vs H Q E → vs.length = ps.length)
    (hbody : ∀ (A : Around) (outer : List Env) (s : Shared) (H : Hp) (vs : List V) (Q : VK) (E : XK), NoGuard (A.deeper (envOfC qual scope s.heap.objs.size f cdv)) → Room k (A.deeper (envOfC qual scope s.heap.objs.size f cdv)) → sp vs H Q E →
      ∃ t, PSs (cxOf CX P w K mg base N qual scope f cdv A outer s H E) body t ∧ t { nx := fun _ H' => Q .non H', rt := Q } (start N vs) H) :
    FnG P w K mg base CX (k + 1) f (PySem.W.fnOf name qual params body scope dV kV doc pm an cdv ct) ps sp := by
  refine ⟨len, fun A outer s H args us vs Q E hG hr e0 hb r hsp => ?_⟩
  have KX : K.In s.heap := e0.mod.kin.keeps fun b o e => (e0.bs b o e).1
  have lim : s.heap.NoLimit := e0.mod.nolimit.keeps fun b o e => (e0.bs b o e).1
  refine codeAny_call_function hr.depth (KX _ _ lk) rfl S.co S.gen rfl (PySem.W.codeRec_of KX hcd) (hb _ _ _ _ ?_)
  refine wpAny_newFunctionEnv_cells S.kind (fun ⟨n, v⟩ hy => ?_) fun env he s1 x => ?_
  · rcases S.par n (List.of_mem_zip hy).1 with q | q
    · exact .inl q
    · exact .inr ⟨q, PySem.W.cellsFrom_some _ _ _ (.inl q)⟩
  · subst he
    refine ⟨lim.keeps x.toInCall.keep, codeAny_func ?_⟩
    obtain ⟨t, ht, hq⟩ := hbody A outer s H vs Q E hG (hr.deeper _) hsp
    have I : Inv (cxOf CX P w K mg base N qual scope f cdv A outer s H E) [] (start N vs) H s1 := inv_start S hr.hd e0 (len _ _ _ _ hsp) r x
    refine wpAny_mono (ht.run [] s1 (start N vs) H _ I hq) (fun fl s' hs => ?_) fun e s' hs => hs
    cases fl with
    | ret u =>
      obtain ⟨v, σ', H', J, rv, q⟩ := hs
      exact ⟨v, H', J.os, J.bare, J.base, J.hok, rv, q⟩
    | next =>
      obtain ⟨σ', H', J, q⟩ := hs
      exact ⟨.non, H', J.os, J.bare, J.base, J.hok, rfl, q⟩
    | brk => exact hs.elim fun _ z => z.elim fun _ y => y.2.elim
    | cont => exact hs.elim fun _ z => z.elim fun _ y => y.2.elim
section
variable {P : Program} {w : World} {K : PySem.W.Frag} {mg : Str → Option Value} {base : Heap}
theorem Fun.okG {x qual : Str} {st : Stmt} {f : Addr} {fd : FuncData} {N ps : List Str} {k : Nat} {sp : Sp} (F : Fun K x qual st f fd) (S : FnScope N ps (defScope st)) (len : ∀ vs H Q E, sp vs H Q E → vs.length = ps.length)
    (hbody : ∀ (cdv : Value) (A : Around) (outer : List Env) (s : Shared) (H : Hp) (vs : List V) (Q : VK) (E : XK), NoGuard (A.deeper (envOfC qual (defScope st) s.heap.objs.size f cdv)) → Room k (A.deeper (envOfC qual (defScope st) s.heap.objs.size f cdv)) → sp vs H Q E →
      ∃ t, PSs (cxOf CX0 P w K mg base N qual (defScope st) f cdv A outer s H E).nox (defBody st) t ∧ t { nx := fun _ H' => Q .non H', rt := Q } (start N vs) H) : FnG P w K mg base CX0 (k + 1) f fd ps sp := by
  obtain ⟨oc, od, kV, doc, pm, an, cdv, ct, osl, rfl, lk, hcd⟩ := F.ex
  refine fnG_of lk hcd S len fun A outer s H vs Q E hG hr hsp => ?_
  obtain ⟨t, h, q⟩ := hbody cdv A outer s H vs Q E hG hr hsp
  exact ⟨t, h.nox, q⟩
end
/-- what the script's object is taken for: known, or an object of the module -/
def scriptHp (K : PySem.W.Frag) (a : Addr) (o : Obj) (xs : List V) : Hp := fun b => if b = a ∧ K.lookup a = none then some (.frz o (.lst xs)) else none
theorem lawG_call {P : Program} {w : World} {K : PySem.W.Frag} {mg mb : Str → Option Value} {k : Nat} {fa a : Addr} {fd : FuncData} {x : Str} {sp : Sp} {s₁ : Shared} {vs : List Value} {ns : List Int}
    (KX : K.In s₁.heap) (hns : s₁.heap.Ns mainGlobals mg) (hb : s₁.heap.Ns builtinsNs mb) (hbb : ∀ x : Str, x ≠ "__name__" → mb x = bootBuiltins x) (hlim : s₁.heap.NoLimit) (hg : s₁.gens = #[])
    (ha : s₁.heap.get? a = some { cls := .type "list", data := .seq vs.toArray }) (hi : IntsAre vs ns) (hl : ns.length ≤ sizeLine) (hr : Room k callerA)
    (F : ∀ base : Heap, K.In base → base.Ns mainGlobals mg → FnG P w K mg base CX0 k fa fd [x] sp) (hbind : ∀ (s : Shared) (u : Value), BindsTo s fd ⟨[u], []⟩ [(x, u)])
    (hsp : ∀ H : Hp, Only H → SqL K H a (ns.map V.int) → sp [.ref a] H (fun v _ => v = .bl true) fun _ _ _ => False) :
    codeAny (model P w) callerA (.call (.ref fa) ⟨[.ref a], []⟩) (fun r s' => r = .ok (.ret (.bool true)) ∧ OldK s₁.heap s'.heap ∧ s'.os = s₁.os ∧ AllBare s'.gens) s₁ := by
  have rv := vals_ints hi
  have lenV := hi.length
  generalize eH : scriptHp K a { cls := .type "list", data := .seq vs.toArray } (ns.map V.int) = H
  have at_ : ∀ b u, H b = some u → b = a ∧ K.lookup a = none ∧ u = .frz { cls := .type "list", data := .seq vs.toArray } (.lst (ns.map V.int)) := fun b u z => by
    rw [← eH] at z
    unfold scriptHp at z
    by_cases c : b = a ∧ K.lookup a = none
    · rw [if_pos c] at z
      exact ⟨c.1, c.2, (Option.some.inj z).symm⟩
    · rw [if_neg c] at z
      cases z
  have hO : Only H := fun b => by
    cases q : H b with
    | none => exact .inl rfl
    | some u =>
      obtain ⟨_, _, e⟩ := at_ b u q
      exact .inr ⟨_, _, by rw [e]⟩
  have hok : HOk P w H s₁.heap := fun b u z => by
    obtain ⟨e1, _, e2⟩ := at_ b u z
    subst e1 e2
    exact ⟨ha, by rw [List.length_map]; exact hl, vs, _, rv, ha⟩
  have hS : SqL K H a (ns.map V.int) := by
    cases hk : K.lookup a with
    | some o =>
      have e := KX a o hk
      rw [ha] at e
      cases e
      exact .inr ⟨_, vs.toArray, _, hk, rfl, rfl, rfl, by rw [List.size_toArray, lenV]; exact hl, by simpa using rv⟩
    | none => exact .inl (.inr ⟨{ cls := .type "list", data := .seq vs.toArray }, by rw [← eH]; exact if_pos ⟨rfl, hk⟩⟩)
  -- the base: what is not tracked
  have off : ∀ {b : Addr} {o : Obj}, s₁.heap.get? b = some o → (b = a → K.lookup a ≠ none ∨ o.data ≠ .seq vs.toArray) → H b = none := fun {b o} e n => by
    cases q : H b with
    | none => rfl
    | some u =>
      obtain ⟨e1, e2, _⟩ := at_ b u q
      rcases n e1 with z | z
      · exact absurd e2 z
      · rw [e1, ha] at e
        cases e
        exact absurd rfl z
  have ns0 : ∀ {b : Addr} {m : Str → Option Value}, s₁.heap.Ns b m → (hidT s₁.heap H).Ns b m := fun {b m} ⟨o, es, ep, e, d, r⟩ =>
    ⟨o, es, ep, hidT_get e (off e fun _ => .inr (by rw [d]; intro z; cases z)), d, r⟩
  have hKb : K.In (hidT s₁.heap H) := fun b o e => hidT_get (KX b o e) (off (KX b o e) fun z => .inl (by rw [← z, e]; intro y; cases y))
  have hM : Mod K mg (hidT s₁.heap H) := ⟨hKb, ns0 hns, ⟨mb, ns0 hb, hbb⟩, let ⟨mc, h1, h2⟩ := hlim; ⟨mc, ns0 h1, h2⟩⟩
  have e0 : Env0 P w K mg (hidT s₁.heap H) callerA [] s₁ H := ⟨rfl, hM, fun b o e => of_hidT e, Nat.le_of_eq (hidT_size _ _), trivial, fun b hb => absurd (show b ∈ ([] : List Addr) from hb) (by simp), hok, .of_eq hg⟩
  refine codeAny_mono ((F _ hKb (ns0 hns)).run callerA [] s₁ H ⟨[.ref a], []⟩ [.ref a] [.ref a] _ _ rfl hr e0 (hbind s₁ (.ref a)) (.cons rfl .nil) (hsp H hO hS)) fun r s' h => ?_
  cases r with
  | error e => exact h.elim
  | ok fl =>
    cases fl with
    | next => exact False.elim h
    | brk => exact False.elim h
    | cont => exact False.elim h
    | ret u =>
      obtain ⟨v, H', os, bare, un, hok', r', q⟩ := h
      have q' : v = .bl true := q
      subst q'
      obtain rfl : u = Value.bool true := r'
      refine ⟨rfl, OldK.of_keep fun b o e => ?_, os, bare⟩
      cases q : H b with
      | none => exact un.keep b o e q (fun z => absurd (show b ∈ ([] : List Addr) from z) (by simp)) (by simp)
      | some u =>
        obtain ⟨e1, _, e2⟩ := at_ b u q
        rw [e2] at q
        obtain ⟨z, _⟩ := hok' b _ (un.frzs b _ _ q)
        rw [e1, ha] at e
        cases e
        rw [e1]
        rw [e1] at z
        exact z
theorem walkG_of {l : PySem.W.OpenLaw} {n k : Nat} {q : Program} {loose : List Str} {XP : (Str → Option Value) → Heap → Prop} {YP : World → Heap → Prop} {d : DefRec} {K : Params → PySem.W.Frag} {sp : World → Sp} {x : Str}
    (hn : l.most = some n) (hn2 : n ≤ sizeLine) (hdf : d.params.defaults = []) (hr : Room k callerA)
    (hY : ∀ (w : World) (h : Heap), YP w h → (K w.params).In h)
    (F : ∀ (w : World) (mg : Str → Option Value) (fa : Addr) (h : Heap), (K w.params).In h → h.Ns mainGlobals mg → mg d.name = some (.ref fa) →
      ∃ fd : FuncData, (∀ (s : Shared) (u : Value), BindsTo s fd ⟨[u], []⟩ [(x, u)]) ∧
        ∀ base : Heap, (K w.params).In base → base.Ns mainGlobals mg → FnG l.prog w (K w.params) mg base CX0 k fa fd [x] (sp w))
    (hsp : ∀ (w : World) (H : Hp) (a : Addr) (ns : List Int), ns.length ≤ n → Only H → SqL (K w.params) H a (ns.map V.int) → sp w [.ref a] H (fun v _ => v = .bl true) fun _ _ _ => False) :
    PySem.W.WalkO q loose XP YP l.row.toRowW d [] (fun f vs => PySem.call f vs) := by
  refine Att.attach_call hn hdf fun w s₀ s₁ mg mb fa o pm cd doc a vs ns G Y ho hd hcd hmg hobj hints hlen hg => ?_
  obtain ⟨fd, hb, hF⟩ := F w mg fa _ (hY w _ Y) G.T.g hmg
  exact lawG_call (hY w _ Y) G.T.g G.T.b G.T.builtins G.T.nolimit hg hobj hints (Nat.le_trans hlen hn2) hr hF hb fun H hO hS => hsp w H a ns hlen hO hS
end L2.TT
namespace TR
open PySem PySem.Spec PyProof.Rows L2 L2.TT
abbrev sBegin : Stmt := s_law_begin
abbrev sMixed : Stmt := s_law_mixed
abbrev sNext : Stmt := s_law_next
/-- the drawn values' state: a dict, its list of cells; no counter beyond n -/
def drawKvs (cl : Addr) (i j k : Int) : List (Key × V) := [(Sum.inr "cells", .ref cl), (Sum.inr "at", .int i), (Sum.inr "left", .int j), (Sum.inr "used", .int k)]
def DrawAt (H : Hp) (dr cl : Addr) (n : Nat) : Prop := ∃ (cs : List Int) (i j k : Int), H dr = some (.dK (drawKvs cl i j k)) ∧ H cl = some (.lst (cs.map V.int)) ∧ cs ≠ [] ∧ cs.length ≤ 64 ∧ 0 ≤ i ∧ i ≤ n ∧ 0 ≤ j ∧ 0 ≤ k ∧ k ≤ n
def spBegin (K : PySem.W.Frag) : Sp := fun vs H Q _ => ∃ (a : Addr) (ns : List Int), vs = [.ref a] ∧ SqL K H a (ns.map V.int) ∧ ns.length ≤ 63 ∧ ∀ (p c : Addr) (H' : Hp), H p = none → H c = none → Same H H' → DrawAt H' p c 0 → Q (.ref p) H'
def spMixed : Sp := fun vs H Q _ => ∃ (c k : Int), vs = [.int c, .int k] ∧ 0 ≤ k ∧ k ≤ 1000000000 ∧ ∀ r : Int, Q (.int r) H
def spNext : Sp := fun vs H Q _ => ∃ (dr cl : Addr) (b : Int) (n : Nat), vs = [.ref dr, .int b] ∧ DrawAt H dr cl n ∧ n ≤ 900000000 ∧ 0 < b ∧ b < 1073741824 ∧
  ∀ (r : Int) (H' : Hp), 0 ≤ r → r < b → DrawAt H' dr cl (n + 1) → (∀ q, q ≠ dr → H' q = H q) → Q (.int r) H'
theorem modb (x : Int) {m : Int} (h : 0 < m) : 0 ≤ x % m ∧ x % m < m := ⟨Int.emod_nonneg _ (by omega), Int.emod_lt_of_pos _ h⟩
theorem n1 : ¬ (("cells" : Str) = "at") := by decide +kernel
theorem n2 : ¬ (("cells" : Str) = "left") := by decide +kernel
theorem n3 : ¬ (("cells" : Str) = "used") := by decide +kernel
theorem n4 : ¬ (("at" : Str) = "left") := by decide +kernel
theorem n5 : ¬ (("at" : Str) = "used") := by decide +kernel
theorem n6 : ¬ (("left" : Str) = "used") := by decide +kernel
theorem dg_cells {cl : Addr} {i j k : Int} : valV (drawKvs cl i j k) (Sum.inr "cells") = some (.ref cl) := by simp [valV, drawKvs]
theorem dg_at {cl : Addr} {i j k : Int} : valV (drawKvs cl i j k) (Sum.inr "at") = some (.int i) := by simp [valV, drawKvs, n1]
theorem dg_left {cl : Addr} {i j k : Int} : valV (drawKvs cl i j k) (Sum.inr "left") = some (.int j) := by simp [valV, drawKvs, n2, n4]
theorem dg_used {cl : Addr} {i j k : Int} : valV (drawKvs cl i j k) (Sum.inr "used") = some (.int k) := by simp [valV, drawKvs, n3, n5, n6]
theorem dp_at {cl : Addr} {i j k x : Int} : putK (drawKvs cl i j k) (Sum.inr "at") (.int x) = drawKvs cl x j k := by simp [putK, drawKvs, n1, n4, n5, Ne.symm n4, Ne.symm n5]
theorem dp_left {cl : Addr} {i j k x : Int} : putK (drawKvs cl i j k) (Sum.inr "left") (.int x) = drawKvs cl i x k := by simp [putK, drawKvs, n2, n4, n6, Ne.symm n6]
theorem dp_used {cl : Addr} {i j k x : Int} : putK (drawKvs cl i j k) (Sum.inr "used") (.int x) = drawKvs cl i j x := by simp [putK, drawKvs, n3, n5, n6]
theorem atI_pos {α : Type} {xs : List α} {i : Int} {v : α} (h0 : 0 ≤ i) (h : xs[i.toNat]? = some v) : atI xs i = some v := by
  have := atI_nat h
  rwa [Int.toNat_of_nonneg h0] at this
structure TxtD (K : PySem.W.Frag) (mg : Str → Option Value) (fM : Addr) : Prop where
  len : mg "len" = none
  gM : mg "_law_mixed" = some (.ref fM)
section
variable {P : Program} {w : World} {K : PySem.W.Frag} {mg : Str → Option Value} {base : Heap}
theorem scB : FnScope ["script"] ["script"] (defScope sBegin) := ⟨rfl, rfl, rfl, by decide +kernel, rfl, by decide +kernel, by decide +kernel⟩
theorem ok_begin {f : Addr} {fd : FuncData} (F : Fun K "_law_begin" "_law_begin" sBegin f fd) : FnOk P w K mg base CX0 1 f fd ["script"] (spBegin K) := by
  refine F.ok scB (fun vs H Q E h => ?_) (fun cdv A outer s H vs Q E hr h => ?_)
  · obtain ⟨a, ns, rfl, _⟩ := h
    rfl
  · obtain ⟨a, ns, rfl, hS, hl, k⟩ := h
    refine ⟨_, pss_one (ps_ret (pe_disp (pps_cons pe_str (pe_op op_catL (pv 0) (pe_lst (pa_cons pe_int pa_nil))) (pps_cons pe_str pe_int (pps_cons pe_str pe_int (pps_cons pe_str pe_int pps_nil)))) (by rfl) (by rfl) (fun z => by cases z) (by decide))), ?_⟩
    intro p hp
    have s1 : Same H (upd H p (.dK [])) := fun b o e => by rw [upd_ne (ne_of_none e hp)]; exact e
    refine ⟨_, rfl, by rw [sizeLine_eq]; decide, fun l hl2 => ?_⟩
    have npl : p ≠ l := ne_of_none upd_same hl2
    have s2 : Same H (upd (upd H p (.dK [])) l (.lst [V.int 0])) := fun b o e => by rw [upd_ne (ne_of_none (s1 b o e) hl2)]; exact s1 b o e
    refine ⟨a, l, ns.map V.int, [V.int 0], rfl, rfl, s2.seq hS, .inl (.inl upd_same), ?_⟩
    rw [sizeLine_eq, List.length_map]
    refine ⟨by simp only [List.length_singleton]; omega, fun c hc => ?_⟩
    have ncp : p ≠ c := ne_of_none (by rw [upd_ne npl]; exact upd_same) hc
    have s3 : Same H (upd (upd (upd H p (.dK [])) l (.lst [V.int 0])) c (.lst (ns.map V.int ++ [V.int 0]))) := fun b o e => by rw [upd_ne (ne_of_none (s2 b o e) hc)]; exact s2 b o e
    refine ⟨by rw [upd_ne ncp, upd_ne npl, upd_same], drawKvs c 0 0 0, rfl, (by show 4 ≤ 15; decide), ?_⟩
    refine k p c _ hp (s2.free hc) (fun b o e => by rw [upd_ne (ne_of_none e hp)]; exact s3 b o e) ⟨ns ++ [0], 0, 0, 0, ?_, ?_, by simp, by simp; omega, by decide, by decide, by decide, by decide, by decide⟩
    · rw [upd_same]
      rfl
    · rw [upd_ne ncp.symm, upd_same, List.map_append]
      rfl
theorem scM : FnScope ["cell", "k", "mixed"] ["cell", "k"] (defScope sMixed) := ⟨rfl, rfl, rfl, by decide +kernel, rfl, by decide +kernel, by decide +kernel⟩
theorem ok_mixed {f : Addr} {fd : FuncData} (F : Fun K "_law_mixed" "_law_mixed" sMixed f fd) : FnOk P w K mg base CX0 1 f fd ["cell", "k"] spMixed := by
  refine F.ok scM (fun vs H Q E h => ?_) (fun cdv A outer s H vs Q E hr h => ?_)
  · obtain ⟨a, ns, rfl, _⟩ := h
    rfl
  · obtain ⟨c, n, rfl, h0, hn, k⟩ := h
    refine ⟨_, pss_cons (ps_set (i := 2) scM.nd rfl (Or.inl rfl) (pe_op op_mod (pe_op op_add (pe_op op_add (pe_op op_add (pe_op op_mod (pv 0) pe_int) (pe_op op_mul (pe_op op_mul pe_int (pv 1)) (pv 1))) (pe_op op_mul pe_int (pv 1))) pe_int) pe_int))
      (pss_cons (ps_set (i := 2) scM.nd rfl (Or.inl rfl) (pe_op op_mod (pe_op op_mul (pe_op op_mod (pe_op op_mul (pv 2) (pv 2)) pe_int) (pv 2)) pe_int))
      (pss_one (ps_ret (pe_op op_fdiv (pe_op op_mod (pe_op op_mul (pv 2) (pe_op op_add pe_int (pe_op op_mul pe_int (pe_op op_mod (pv 1) pe_int)))) pe_int) pe_int)))), ?_⟩
    refine ⟨_, rfl, _, _, rfl, rfl, (by show (0 : Int) < 1000000007; decide), ?_⟩
    refine ⟨_, rfl, _, _, rfl, rfl, .inl ⟨by decide, by decide⟩, _, rfl, _, _, rfl, rfl, .inr ⟨by omega, by omega⟩, _, _, rfl, rfl, ?_⟩
    refine ⟨_, rfl, _, _, rfl, rfl, .inl ⟨by decide, by decide⟩, _, _, rfl, rfl, _, _, rfl, rfl, _, _, rfl, rfl, (by show (0 : Int) < 2147483647; decide), ?_⟩
    have hm := modb (c % 1000000007 + 7919 * n * n + 31 * n + 7) (m := 2147483647) (by decide)
    generalize (c % 1000000007 + 7919 * n * n + 31 * n + 7) % 2147483647 = m at hm
    refine ⟨_, rfl, _, rfl, _, _, rfl, rfl, .inl ⟨by omega, by omega⟩, _, _, rfl, rfl, (by show (0 : Int) < 2147483647; decide), ?_⟩
    have hm2 := modb (m * m) (m := 2147483647) (by decide)
    generalize (m * m) % 2147483647 = m2 at hm2
    refine ⟨_, rfl, _, _, rfl, rfl, .inl ⟨by omega, by omega⟩, _, _, rfl, rfl, (by show (0 : Int) < 2147483629; decide), ?_⟩
    have hm3 := modb (m2 * m) (m := 2147483629) (by decide)
    generalize (m2 * m) % 2147483629 = m3 at hm3
    refine ⟨_, rfl, _, rfl, _, _, rfl, rfl, (by show (0 : Int) < 1000; decide), _, _, rfl, rfl, .inl ⟨by decide, by decide⟩, _, _, rfl, rfl, _, _, rfl, rfl, .inl ⟨by omega, by omega⟩, _, _, rfl, rfl, (by show (0 : Int) < 2147483647; decide), _, _, rfl, rfl, ⟨by decide, by decide⟩, ?_⟩
    exact k _
theorem scN : FnScope ["draw", "bound", "found", "cells", "cell"] ["draw", "bound"] (defScope sNext) := ⟨rfl, rfl, rfl, by decide +kernel, rfl, by decide +kernel, by decide +kernel⟩
theorem ok_next {f fM : Addr} {fd fdM : FuncData} (F : Fun K "_law_next" "_law_next" sNext f fd) (T : TxtD K mg fM) (FM : Fun K "_law_mixed" "_law_mixed" sMixed fM fdM) (bM : Binds K fdM ["cell", "k"] []) : FnOk P w K mg base CX0 2 f fd ["draw", "bound"] spNext := by
  have GM : FnOk P w K mg base CX0 1 fM fdM ["cell", "k"] spMixed := ok_mixed FM
  refine F.ok scN (fun vs H Q E h => ?_) (fun cdv A outer s H vs Q E hr h => ?_)
  · obtain ⟨a, cl0, ns, n, rfl, _⟩ := h
    rfl
  · obtain ⟨dr, cl, b, n, rfl, ⟨cs, i, j, k, hd, hc, hne, hcl, hi0, hin, hj0, hk0, hkn⟩, hn, hb0, hb1, q⟩ := h
    have hu := hu_of hr
    refine ⟨_, pss_cons (ps_if (pt_cmpR op_gt (pe_dget hu (pv 0) pe_str (fun _ _ => rfl)) pe_int (nomark _))
        (pss_cons (ps_set (i := 2) scN.nd rfl (Or.inl rfl) (pe_op op_modN (pe_dget hu (pv 0) pe_str (fun _ _ => rfl)) (pv 1)))
        (pss_cons (ps_dput hu (pv 0) pe_str (pe_op op_fdivN (pe_dget hu (pv 0) pe_str (fun _ _ => rfl)) (pv 1)) rfl)
        (pss_one (ps_ret (pv 2))))) pss_nil)
      (pss_cons (ps_set (i := 3) scN.nd rfl (Or.inl rfl) (pe_dget hu (pv 0) pe_str (fun _ _ => rfl)))
      (pss_cons (ps_set (i := 4) scN.nd rfl (Or.inl rfl) (pe_ix ix_list (pv 3) (pe_op op_modN (pe_dget hu (pv 0) pe_str (fun _ _ => rfl)) (pe_callB call_len_seq (by rfl) T.len PySem.boot_len (pa_cons (pv 3) pa_nil))) (fun _ _ => rfl)))
      (pss_cons (ps_dput hu (pv 0) pe_str (pe_op op_add (pe_dget hu (pv 0) pe_str (fun _ _ => rfl)) pe_int) rfl)
      (pss_cons (ps_if (PW.pt (pw_and (pt_cmpR op_ge (pv 4) (pe_op op_pow pe_int pe_int) (nomark _)) (pw_and1 (pt_cmpR op_le (pe_dget hu (pv 0) pe_str (fun _ _ => rfl)) (pe_callB call_len_seq (by rfl) T.len PySem.boot_len (pa_cons (pv 3) pa_nil)) (nomark _)))))
        (pss_cons (ps_dput hu (pv 0) pe_str (pe_op op_fdivN (pv 4) (pv 1)) rfl)
        (pss_one (ps_ret (pe_op op_modN (pv 4) (pv 1))))) pss_nil)
      (pss_cons (ps_dput hu (pv 0) pe_str (pe_op op_add (pe_dget hu (pv 0) pe_str (fun _ _ => rfl)) pe_int) rfl)
      (pss_one (ps_ret (pe_op op_modN (pe_call GM hr rfl T.gM FM.kp bM .nil pass0 (pa_cons (pe_call GM hr rfl T.gM FM.kp bM .nil pass0 (pa_cons (pv 4) (pa_cons (pe_dget hu (pv 0) pe_str (fun _ _ => rfl)) pa_nil))) (pa_cons (pe_dget hu (pv 0) pe_str (fun _ _ => rfl)) pa_nil))) (pv 1))))))))), ?_⟩
    have gA : DGet H dr (kV (Sum.inr "at")) (some (.int i)) := by rw [← dg_at]; exact DGet.k hd
    have gL : DGet H dr (kV (Sum.inr "left")) (some (.int j)) := by rw [← dg_left]; exact DGet.k hd
    have gC : DGet H dr (kV (Sum.inr "cells")) (some (.ref cl)) := by rw [← dg_cells]; exact DGet.k hd
    have ncd : cl ≠ dr := ne_of hc hd (by intro z; cases z)
    -- if draw["left"] > 0
    refine ⟨_, rfl, dr, _, rfl, gL, _, _, rfl, rfl, _, rfl, ?_⟩
    refine ite2 (fun hj => ?_) (fun hj => ?_)
    · refine ⟨_, rfl, dr, _, rfl, gL, _, rfl, _, _, rfl, rfl, by omega, ?_⟩
      refine ⟨_, rfl, dr, _, rfl, gL, _, rfl, _, _, rfl, rfl, ⟨by omega, by omega⟩, _, rfl, dr, _, rfl, DPut.k (k := Sum.inr "left") hd (by show 4 < sizeLine; rw [sizeLine_eq]; decide), ?_⟩
      refine ⟨_, rfl, ?_⟩
      rw [dp_left]
      refine q _ _ ?_ ?_ ⟨cs, i, _, k, upd_same, by rw [upd_ne ncd]; exact hc, hne, hcl, hi0, by omega, ?_, hk0, by omega⟩ fun z hz => upd_ne hz
      · rw [Int.fmod_eq_emod_of_nonneg _ (by omega)]
        exact (modb _ hb0).1
      · rw [Int.fmod_eq_emod_of_nonneg _ (by omega)]
        exact (modb _ hb0).2
      · rw [Int.fdiv_eq_ediv_of_nonneg _ (by omega)]
        exact Int.ediv_nonneg hj0 (by omega)
    · -- the next cell
      have hlp : 0 < cs.length := List.length_pos_iff.mpr hne
      have hmz : (0 : Int) ≤ i.fmod (cs.length : Int) ∧ i.fmod (cs.length : Int) < cs.length := by
        rw [Int.fmod_eq_emod_of_nonneg _ (by omega)]
        exact modb _ (by omega)
      obtain ⟨c, hcx⟩ : ∃ c, (cs.map V.int)[(i.fmod (cs.length : Int)).toNat]? = some (V.int c) := by
        have hlt : (i.fmod (cs.length : Int)).toNat < cs.length := by omega
        exact ⟨cs[(i.fmod (cs.length : Int)).toNat], by rw [List.getElem?_map, List.getElem?_eq_getElem hlt]; rfl⟩
      refine ⟨_, rfl, dr, _, rfl, gC, ?_⟩
      refine ⟨_, rfl, _, rfl, dr, _, rfl, gA, _, rfl, cl, _, rfl, .inl (SqL.of hc), _, _, rfl, rfl, by rw [List.length_map]; omega, ?_⟩
      rw [List.length_map]
      refine ⟨cl, _, _, _, rfl, rfl, SqL.of hc, atI_pos hmz.1 hcx, ?_⟩
      -- draw["at"] = draw["at"] + 1
      refine ⟨_, rfl, dr, _, rfl, gA, _, _, rfl, rfl, _, rfl, dr, _, rfl, DPut.k (k := Sum.inr "at") hd (by show 4 < sizeLine; rw [sizeLine_eq]; decide), ?_⟩
      rw [dp_at]
      have hd1 : upd H dr (.dK (drawKvs cl (i + 1) j k)) dr = some (.dK (drawKvs cl (i + 1) j k)) := upd_same
      have hc1 : upd H dr (.dK (drawKvs cl (i + 1) j k)) cl = some (.lst (cs.map V.int)) := by rw [upd_ne ncd]; exact hc
      have ke1 : ∀ z, z ≠ dr → upd H dr (.dK (drawKvs cl (i + 1) j k)) z = H z := fun z hz => upd_ne hz
      generalize upd H dr (.dK (drawKvs cl (i + 1) j k)) = H1 at hd1 hc1 ke1
      have gA1 : DGet H1 dr (kV (Sum.inr "at")) (some (.int (i + 1))) := by rw [← dg_at]; exact DGet.k hd1
      have gU1 : DGet H1 dr (kV (Sum.inr "used")) (some (.int k)) := by rw [← dg_used]; exact DGet.k hd1
      refine ⟨_, rfl, _, _, rfl, rfl, ⟨by decide, by decide, by decide⟩, _, _, rfl, rfl, _, rfl, ?_⟩
      refine ite2 (fun hg => ?_) (fun hg => ?_)
      · refine ⟨_, rfl, dr, _, rfl, gA1, _, rfl, cl, _, rfl, .inl (SqL.of hc1), _, _, rfl, rfl, _, rfl, ?_⟩
        refine ite2 (fun hg2 => ?_) (fun hg2 => ?_)
        · have hc0 : (0 : Int) ≤ c := by
            have := of_decide_eq_true hg
            have e : (10 : Int) ^ (18 : Int).toNat = 1000000000000000000 := by decide
            rw [e] at this
            omega
          refine ⟨_, rfl, _, rfl, _, _, rfl, rfl, ⟨by omega, by omega⟩, _, rfl, dr, _, rfl, DPut.k (k := Sum.inr "left") hd1 (by show 4 < sizeLine; rw [sizeLine_eq]; decide), ?_⟩
          rw [dp_left]
          refine ⟨_, rfl, _, rfl, _, _, rfl, rfl, by omega, ?_⟩
          show Q (.int (Int.fmod c b)) _
          rw [Int.fmod_eq_emod_of_nonneg _ (by omega)]
          refine q _ _ (modb _ hb0).1 (modb _ hb0).2 ⟨cs, i + 1, _, k, upd_same, by rw [upd_ne ncd]; exact hc1, hne, hcl, by omega, by omega, ?_, hk0, by omega⟩ fun z hz => by rw [upd_ne hz]; exact ke1 z hz
          rw [Int.fdiv_eq_ediv_of_nonneg _ (by omega)]
          exact Int.ediv_nonneg hc0 (by omega)
        · skip
          refine ⟨_, rfl, dr, _, rfl, gU1, _, _, rfl, rfl, _, rfl, dr, _, rfl, DPut.k (k := Sum.inr "used") hd1 (by show 4 < sizeLine; rw [sizeLine_eq]; decide), ?_⟩
          rw [dp_used]
          have hd2 : upd H1 dr (.dK (drawKvs cl (i + 1) j (k + 1))) dr = some (.dK (drawKvs cl (i + 1) j (k + 1))) := upd_same
          have hc2 : upd H1 dr (.dK (drawKvs cl (i + 1) j (k + 1))) cl = some (.lst (cs.map V.int)) := by rw [upd_ne ncd]; exact hc1
          have ke2 : ∀ z, z ≠ dr → upd H1 dr (.dK (drawKvs cl (i + 1) j (k + 1))) z = H z := fun z hz => by rw [upd_ne hz]; exact ke1 z hz
          generalize upd H1 dr (.dK (drawKvs cl (i + 1) j (k + 1))) = H2 at hd2 hc2 ke2
          have gA2 : DGet H2 dr (kV (Sum.inr "at")) (some (.int (i + 1))) := by rw [← dg_at]; exact DGet.k hd2
          have gU2 : DGet H2 dr (kV (Sum.inr "used")) (some (.int (k + 1))) := by rw [← dg_used]; exact DGet.k hd2
          refine ⟨_, rfl, _, rfl, dr, _, rfl, gA2, c, i + 1, rfl, by omega, by omega, fun r1 => ?_⟩
          refine ⟨_, rfl, dr, _, rfl, gU2, r1, k + 1, rfl, by omega, by omega, fun r2 => ?_⟩
          refine ⟨_, rfl, _, _, rfl, rfl, by omega, ?_⟩
          have hr2 := modb r2 hb0
          show Q (.int (Int.fmod r2 b)) _
          rw [Int.fmod_eq_emod_of_nonneg _ (by omega)]
          exact q _ _ hr2.1 hr2.2 ⟨cs, i + 1, j, k + 1, hd2, hc2, hne, hcl, by omega, by omega, hj0, by omega, by omega⟩ ke2
      · refine iteF ?_
        refine ⟨_, rfl, dr, _, rfl, gU1, _, _, rfl, rfl, _, rfl, dr, _, rfl, DPut.k (k := Sum.inr "used") hd1 (by show 4 < sizeLine; rw [sizeLine_eq]; decide), ?_⟩
        rw [dp_used]
        have hd2 : upd H1 dr (.dK (drawKvs cl (i + 1) j (k + 1))) dr = some (.dK (drawKvs cl (i + 1) j (k + 1))) := upd_same
        have hc2 : upd H1 dr (.dK (drawKvs cl (i + 1) j (k + 1))) cl = some (.lst (cs.map V.int)) := by rw [upd_ne ncd]; exact hc1
        have ke2 : ∀ z, z ≠ dr → upd H1 dr (.dK (drawKvs cl (i + 1) j (k + 1))) z = H z := fun z hz => by rw [upd_ne hz]; exact ke1 z hz
        generalize upd H1 dr (.dK (drawKvs cl (i + 1) j (k + 1))) = H2 at hd2 hc2 ke2
        have gA2 : DGet H2 dr (kV (Sum.inr "at")) (some (.int (i + 1))) := by rw [← dg_at]; exact DGet.k hd2
        have gU2 : DGet H2 dr (kV (Sum.inr "used")) (some (.int (k + 1))) := by rw [← dg_used]; exact DGet.k hd2
        refine ⟨_, rfl, _, rfl, dr, _, rfl, gA2, c, i + 1, rfl, by omega, by omega, fun r1 => ?_⟩
        refine ⟨_, rfl, dr, _, rfl, gU2, r1, k + 1, rfl, by omega, by omega, fun r2 => ?_⟩
        refine ⟨_, rfl, _, _, rfl, rfl, by omega, ?_⟩
        have hr2 := modb r2 hb0
        show Q (.int (Int.fmod r2 b)) _
        rw [Int.fmod_eq_emod_of_nonneg _ (by omega)]
        exact q _ _ hr2.1 hr2.2 ⟨cs, i + 1, j, k + 1, hd2, hc2, hne, hcl, by omega, by omega, hj0, by omega, by omega⟩ ke2
end
end TR
namespace TR
open PySem PySem.Spec PyProof.Rows L2 L2.TT StX ClX
theorem DrawAt.mono {H : Hp} {dr cl : Addr} {n m : Nat} (d : DrawAt H dr cl n) (h : n ≤ m) : DrawAt H dr cl m := by
  obtain ⟨cs, i, j, k, h1, h2, h3, h4, h5, h6, h7, h8, h9⟩ := d
  exact ⟨cs, i, j, k, h1, h2, h3, h4, h5, by omega, h7, h8, by omega⟩
theorem DrawAt.keep {H H' : Hp} {dr cl : Addr} {n : Nat} (d : DrawAt H dr cl n) (e1 : H' dr = H dr) (e2 : H' cl = H cl) : DrawAt H' dr cl n := by
  obtain ⟨cs, i, j, k, h1, h2, r⟩ := d
  exact ⟨cs, i, j, k, e1.trans h1, e2.trans h2, r⟩
theorem DrawAt.same {H H' : Hp} {dr cl : Addr} {n : Nat} (d : DrawAt H dr cl n) (s : Same H H') : DrawAt H' dr cl n := by
  obtain ⟨cs, i, j, k, h1, h2, r⟩ := d
  exact ⟨cs, i, j, k, s _ _ h1, s _ _ h2, r⟩
theorem DrawAt.some1 {H : Hp} {dr cl : Addr} {n : Nat} (d : DrawAt H dr cl n) : ∃ kvs, H dr = some (.dK kvs) := by
  obtain ⟨cs, i, j, k, h1, h2, r⟩ := d
  exact ⟨_, h1⟩
theorem DrawAt.some2 {H : Hp} {dr cl : Addr} {n : Nat} (d : DrawAt H dr cl n) : ∃ xs, H cl = some (.lst xs) := by
  obtain ⟨cs, i, j, k, h1, h2, r⟩ := d
  exact ⟨_, h2⟩
/-- all but the draw stands as before -/
def Fr (dr : Addr) (H H' : Hp) : Prop := ∀ b o, H b = some o → b ≠ dr → H' b = some o
theorem Fr.refl {dr : Addr} {H : Hp} : Fr dr H H := fun _ _ e _ => e
theorem Fr.trans {dr : Addr} {H H1 H2 : Hp} (a : Fr dr H H1) (b : Fr dr H1 H2) : Fr dr H H2 := fun c o e n => b _ _ (a _ _ e n) n
theorem Fr.of {dr : Addr} {H H' : Hp} (h : ∀ q, q ≠ dr → H' q = H q) : Fr dr H H' := fun b o e n => by rw [h b n]; exact e
theorem Fr.sm {dr : Addr} {H H' : Hp} (h : Same H H') : Fr dr H H' := fun b o e _ => h b o e
theorem Prs.fr {dr : Addr} {H H' : Hp} {ps : List Addr} {tr : List E2} {kvs : List (Key × V)} (h : Prs H ps tr) (k : Fr dr H H') (hd : H dr = some (.dK kvs)) : Prs H' ps tr :=
  ⟨h.1, fun i p e a b => k _ _ (h.2 i p e a b) (ne_of (h.2 i p e a b) hd (by intro z; cases z))⟩
theorem Fr.free {dr : Addr} {H H' : Hp} (k : Fr dr H H') {b : Addr} (hb : b ≠ dr) (h : H' b = none) : H b = none := by
  cases e : H b with
  | none => rfl
  | some o =>
    rw [k _ _ e hb] at h
    cases h
structure TI (H H' : Hp) (dr cl fl : Addr) (i n : Nat) (ps : List Addr) (tr : List E2) : Prop where
  D : DrawAt H' dr cl n
  fr : Fr dr H H'
  hf : H' fl = some (.lst (ps.map V.ref))
  P : Prs H' ps tr
  len : tr.length = i
  mxs : tr.map mx = List.range' 1 i
  ne : ∀ e ∈ tr, e.1 ≠ e.2
theorem TI.step {H H' : Hp} {dr cl fl : Addr} {i n m : Nat} {ps : List Addr} {tr : List E2} (t : TI H H' dr cl fl i n ps tr) (nf : H fl = none) (fd : fl ≠ dr) (fc : fl ≠ cl) {H3 : Hp} (D3 : DrawAt H3 dr cl m) (k : Fr dr H' H3) {p : Addr} (np : H3 p = none)
    {e : E2} (he : mx e = i + 1) (hne : e.1 ≠ e.2) : TI H (upd (upd H3 p (.tup [iv e.1, iv e.2])) fl (.lst (ps.map V.ref ++ [.ref p]))) dr cl fl (i + 1) m (ps ++ [p]) (tr ++ [e]) := by
  obtain ⟨kvs, hd0⟩ := t.D.some1
  obtain ⟨kv3, hd3⟩ := D3.some1
  obtain ⟨xs3, hc3⟩ := D3.some2
  have hf3 := k _ _ t.hf fd
  have npf : p ≠ fl := fun z => by rw [z, hf3] at np; cases np
  have npd : p ≠ dr := fun z => by rw [z, hd3] at np; cases np
  have npc : p ≠ cl := fun z => by rw [z, hc3] at np; cases np
  have P3 := t.P.fr k hd0
  refine ⟨D3.keep (by rw [upd_ne fd.symm, upd_ne npd.symm]) (by rw [upd_ne fc.symm, upd_ne npc.symm]), fun b o eb nb => ?_, by rw [upd_same, List.map_append]; rfl, ?_, by rw [List.length_append, t.len]; rfl, ?_, ?_⟩
  · have h1 := k _ _ (t.fr _ _ eb nb) nb
    rw [upd_ne (ne_of_none eb nf), upd_ne (ne_of_none h1 np)]
    exact h1
  · have P4 : Prs (upd H3 p (.tup [iv e.1, iv e.2])) (ps ++ [p]) (tr ++ [e]) := (P3.same (same_upd np _)).snoc upd_same
    refine ⟨P4.1, fun j q d hq hd => ?_⟩
    have h1 := P4.2 j q d hq hd
    have hf4 : upd H3 p (.tup [iv e.1, iv e.2]) fl = some (.lst (ps.map V.ref)) := by rw [upd_ne npf.symm]; exact hf3
    rw [upd_ne (ne_of h1 hf4 (by intro z; cases z))]
    exact h1
  · rw [List.map_append, t.mxs, List.range'_concat]
    show _ ++ [mx e] = _ ++ [1 + 1 * i]
    rw [he]
    congr 2
    omega
  · intro d hd
    rcases List.mem_append.mp hd with hd | hd
    · exact t.ne d hd
    · rw [List.mem_singleton] at hd
      rw [hd]
      exact hne
theorem pick5 {r i : Int} (h0 : 0 ≤ r) (h1 : r < 5) {a b c d e : Int} (ha : 0 ≤ a ∧ a ≤ i) (hb : 0 ≤ b ∧ b ≤ i) (hc : 0 ≤ c ∧ c ≤ i) (hd : 0 ≤ d ∧ d ≤ i) (he : 0 ≤ e ∧ e ≤ i) : ∃ x, atI [V.int a, V.int b, V.int c, V.int d, V.int e] r = some (.int x) ∧ 0 ≤ x ∧ x ≤ i := by
  have : r = 0 ∨ r = 1 ∨ r = 2 ∨ r = 3 ∨ r = 4 := by omega
  rcases this with rfl | rfl | rfl | rfl | rfl
  · exact ⟨a, rfl, ha⟩
  · exact ⟨b, rfl, hb⟩
  · exact ⟨c, rfl, hc⟩
  · exact ⟨d, rfl, hd⟩
  · exact ⟨e, rfl, he⟩
theorem Prs.rot {H : Hp} {ps : List Addr} {tr : List E2} (h : Prs H ps tr) (k : Nat) : Prs H (ps.drop k ++ ps.take k) (tr.drop k ++ tr.take k) := by
  have hl : (ps.drop k).length = (tr.drop k).length := by rw [List.length_drop, List.length_drop, h.1]
  refine ⟨by rw [List.length_append, List.length_append, hl, List.length_take, List.length_take, h.1], fun i p e hp he => ?_⟩
  by_cases c : i < (ps.drop k).length
  · rw [List.getElem?_append_left c, List.getElem?_drop] at hp
    rw [List.getElem?_append_left (by omega), List.getElem?_drop] at he
    exact h.2 _ p e hp he
  · rw [List.getElem?_append_right (by omega)] at hp
    rw [List.getElem?_append_right (by omega)] at he
    rw [← hl] at he
    have c2 : i - (ps.drop k).length < k := by
      have := (List.getElem?_eq_some_iff.mp hp).1
      rw [List.length_take] at this
      omega
    rw [List.getElem?_take_of_lt c2] at hp he
    exact h.2 _ p e hp he
theorem tree_rot {tr : List E2} (ne : ∀ e ∈ tr, e.1 ≠ e.2) (hm : tr.map mx = List.range' 1 tr.length) (k : Nat) : TreeL (tr.drop k ++ tr.take k) := by
  have hp : (tr.drop k ++ tr.take k).Perm tr := by
    have h1 : (tr.drop k ++ tr.take k).Perm (tr.take k ++ tr.drop k) := List.perm_append_comm
    rw [List.take_append_drop] at h1
    exact h1
  refine tree_drawn (fun e he => ne e (hp.mem_iff.mp he)) ?_
  rw [hp.length_eq, ← hm]
  exact hp.map mx
def spTracks : Sp := fun vs H Q _ => ∃ (dr cl : Addr) (m : Int) (n : Nat), vs = [.ref dr, .int m] ∧ DrawAt H dr cl n ∧ n ≤ 800000000 ∧ 1 < m ∧ m ≤ 100 ∧
  ∀ (a : Addr) (ps : List Addr) (tr : List E2) (H' : Hp), DrawAt H' dr cl (n + 400) → Fr dr H H' → H' a = some (.tup (ps.map V.ref)) → Prs H' ps tr → TreeL tr → 1 ≤ tr.length → (tr.length : Int) < m → Q (.ref a) H'
section
variable {P : Program} {w : World} {K : PySem.W.Frag} {mg : Str → Option Value} {base : Heap}
theorem sc_trk : FnScope NTr ["draw", "most"] (defScope s_law_tracks) := ⟨rfl, rfl, rfl, by decide +kernel, rfl, by decide +kernel, by decide +kernel⟩
theorem ok_trk {f fn : Addr} {fd fdn : FuncData} (F : Fun K "_law_tracks" "_law_tracks" s_law_tracks f fd) (N : Nm mg) (U : Use P w K mg base CX0 2 "_law_next" fn fdn ["draw", "bound"] spNext) : FnOk P w K mg base CX0 3 f fd ["draw", "most"] spTracks := by
  refine F.ok sc_trk (fun vs H Q E h => ?_) (fun cdv A outer s H vs Q E hr h => ?_)
  · obtain ⟨dr, cl, m, n, rfl, _⟩ := h
    rfl
  · obtain ⟨dr, cl, m, n, rfl, D, hn, hm0, hm1, k⟩ := h
    refine ⟨_, pss_cons (ps_par3 (i := 2) (j := 3) (l := 4) (by rfl) sc_trk.nd rfl rfl rfl (by decide) (by decide) (by decide) rfl rfl rfl (pa_cons (pe_op op_add pe_int (pe_use U hr rfl (pa_cons (pv 0) (pa_cons (pe_op op_sub (pv 1) pe_int) pa_nil)))) (pa_cons (pe_use U hr rfl (pa_cons (pv 0) (pa_cons pe_int pa_nil))) (pa_cons (pe_lst pa_nil) pa_nil))) (by rfl))
      (pss_cons (ps_for PassesOwn.never rfl (pi_range2 (by rfl) N.range (pa_cons pe_int (pa_cons (pv 2) pa_nil))) (pg_name (i := 5) sc_trk.nd rfl (.inl rfl))
        (pss_cons (ps_set (i := 6) sc_trk.nd rfl (.inl rfl) (pe_ix ix_list (pe_lst (pa_cons (pe_op op_sub (pv 5) pe_int) (pa_cons pe_int (pa_cons (pe_callB (call_max2 rfl) (by rfl) N.max PyProof.Rows.boot_max (pa_cons pe_int (pa_cons (pe_op op_sub (pv 5) pe_int) pa_nil)))
            (pa_cons (pe_callB (call_max2 rfl) (by rfl) N.max PyProof.Rows.boot_max (pa_cons pe_int (pa_cons (pe_op op_sub (pv 5) pe_int) pa_nil))) (pa_cons (pe_op op_fdiv (pv 5) pe_int) pa_nil)))))) (pv 3) (fun _ _ => rfl)))
        (pss_cons (ps_set (i := 7) sc_trk.nd rfl (.inl rfl) (pe_ifExp (pt_cmpR op_gt (pe_use U hr rfl (pa_cons (pv 0) (pa_cons pe_int pa_nil))) pe_int (nomark _)) (pv 6) (pe_use U hr rfl (pa_cons (pv 0) (pa_cons (pv 5) pa_nil)))))
        (pss_one (ps_expr (pe_bm PySem.F.plainAttrs_list PySem.F.slot_list_append PySem.F.type_list_append mt_append (pv 4) (pa_cons
          (pe_ifExp (pt_cmpR op_eq (pe_use U hr rfl (pa_cons (pv 0) (pa_cons pe_int pa_nil))) pe_int (nomark _)) (pe_tup (pa_cons (pv 7) (pa_cons (pv 5) pa_nil))) (pe_tup (pa_cons (pv 5) (pa_cons (pv 7) pa_nil)))) pa_nil))))))
      )
      (pss_cons (ps_set (i := 8) sc_trk.nd rfl (.inl rfl) (pe_use U hr rfl (pa_cons (pv 0) (pa_cons (pe_op op_add (pe_callB call_len_seq (by rfl) N.len PySem.boot_len (pa_cons (pv 4) pa_nil)) pe_int) pa_nil))))
      (pss_one (ps_ret (pe_callTy call_tuple_of (by rfl) N.tuple boot_tuple (pa_cons (pe_op op_cat (pe_slice sl_list (pv 4) (po_some (pv 8)) po_none) (pe_slice sl_list (pv 4) po_none (po_some (pv 8)))) pa_nil)))))), ?_⟩
    obtain ⟨kvs0, hd0⟩ := D.some1
    obtain ⟨xs0, hc0⟩ := D.some2
    refine ⟨_, rfl, _, rfl, _, _, rfl, rfl, dr, cl, m - 1, n, rfl, D, by omega, by omega, by omega, fun c0 Ha c00 c01 Da ka => ?_⟩
    refine ⟨_, _, rfl, rfl, _, rfl, dr, cl, 5, _, rfl, Da, by omega, by decide, by decide, fun sh Hb sh0 sh1 Db kb => ?_⟩
    refine ⟨by show 0 ≤ sizeLine; exact Nat.zero_le _, fun fl nfl => ?_⟩
    have frb : Fr dr H Hb := (Fr.of ka).trans (Fr.of kb)
    obtain ⟨kvb, hdb⟩ := Db.some1
    obtain ⟨xsb, hcb⟩ := Db.some2
    have fd : fl ≠ dr := fun z => by rw [z, hdb] at nfl; cases nfl
    have fc : fl ≠ cl := fun z => by rw [z, hcb] at nfl; cases nfl
    have nf : H fl = none := frb.free fd nfl
    refine ⟨_, _, _, rfl, ?_⟩
    have T0 : TI H (upd Hb fl (.lst [])) dr cl fl 0 (n + 2) [] [] := ⟨Db.same (same_upd nfl _), frb.trans (Fr.sm (same_upd nfl _)), upd_same, ⟨rfl, fun _ _ _ h => nomatch h⟩, rfl, rfl, fun _ h => nomatch h⟩
    have e62 : (2 : Int) ^ 62 = 4611686018427387904 := by decide
    refine ⟨_, rfl, 1, _, rfl, ⟨by rw [e62]; omega, by rw [e62]; omega, by rw [e62]; omega, by rw [e62]; omega⟩, ?_⟩
    refine for_range (lo := 1) (fun i σ H1 => ∃ (ps : List Addr) (tr : List E2) (x5 x6 x7 x8 : Option V) (q : Nat), σ = [some (.ref dr), some (.int m), some (.int (2 + c0)), some (.int sh), some (.ref fl), x5, x6, x7, x8] ∧ q ≤ n + 2 + 3 * i ∧ TI H H1 dr cl fl i q ps tr) ⟨[], [], _, _, _, _, _, rfl, by omega, T0⟩ ?_ ?_
    · rintro i σ H1 hi ⟨ps, tr, x5, x6, x7, x8, q, rfl, hq, t⟩
      have hi2 : (i : Int) < 2 + c0 - 1 := by omega
      have lenb : (ps.map V.ref).length < sizeLine := by
        rw [List.length_map, t.P.1, t.len, sizeLine_eq]
        omega
      obtain ⟨b, hb, b0, b1⟩ := pick5 (r := sh) (i := i) sh0 sh1 (a := 1 + (i : Int) - 1) (b := 0) (c := if 1 + (i : Int) - 2 > 0 then 1 + (i : Int) - 2 else 0) (d := if 1 + (i : Int) - 3 > 0 then 1 + (i : Int) - 3 else 0) (e := (1 + (i : Int)) / 2) (by omega) (by omega) (by split <;> omega) (by split <;> omega) (by omega)
      refine ⟨_, rfl, _, _, rfl, rfl, _, rfl, _, _, rfl, rfl, _, _, rfl, _, rfl, _, _, rfl, rfl, _, _, rfl, _, rfl, _, _, rfl, rfl, ⟨by decide, by decide⟩, by show 5 ≤ sizeLine; rw [sizeLine_eq]; decide, fun lq nlq => ?_⟩
      refine ⟨_, rfl, lq, _, _, _, rfl, rfl, SqL.of upd_same, hb, ?_⟩
      have sL := same_upd (H := H1) nlq
      -- other
      refine ⟨_, rfl, dr, cl, 4, q, rfl, t.D.same (sL _), by omega, by decide, by decide, fun r4 H4 r40 r41 D4 k4 => ?_⟩
      have fr4 : Fr dr H1 H4 := (Fr.sm (sL _)).trans (Fr.of k4)
      refine ⟨_, _, rfl, rfl, _, rfl, ?_⟩
      refine ite2 (fun _ => ?_) (fun _ => ?_)
      · refine ⟨_, rfl, ?_⟩
        have o0 := b0
        have D2 := D4
        have k2 := fr4
        obtain ⟨on, rfl⟩ := Int.eq_ofNat_of_zero_le o0
        have fr2 : Fr dr H1 H4 := k2
        have hf2 := fr2 _ _ t.hf fd
        refine ⟨_, rfl, .inl ⟨rfl, _, SqL.of hf2⟩, _, rfl, dr, cl, 2, _, rfl, D2, by omega, by decide, by decide, fun z H3 z0 z1 D3 k3 => ?_⟩
        have fr3 : Fr dr H1 H3 := fr2.trans (Fr.of k3)
        have hf3 := fr3 _ _ t.hf fd
        refine ⟨rfl, _, rfl, ?_⟩
        refine ite2 (fun _ => ?_) (fun _ => ?_)
        · refine ⟨_, rfl, _, rfl, by show 2 ≤ sizeLine; rw [sizeLine_eq]; decide, fun p np => ⟨fl, _, _, rfl, rfl, same_upd np _ _ _ hf3, lenb, ?_⟩⟩
          have es : V.int (1 + (i : Int)) = iv (i + 1) := by show V.int _ = V.int _; congr 1; omega
          rw [es]
          exact ⟨_, _, _, _, _, _, q + 3, rfl, by omega, t.step nf fd fc (D3.mono (by omega)) fr3 np (e := (on, i + 1)) (by unfold mx; simp only; omega) (by show on ≠ i + 1; omega)⟩
        · refine ⟨_, rfl, _, rfl, by show 2 ≤ sizeLine; rw [sizeLine_eq]; decide, fun p np => ⟨fl, _, _, rfl, rfl, same_upd np _ _ _ hf3, lenb, ?_⟩⟩
          have es : V.int (1 + (i : Int)) = iv (i + 1) := by show V.int _ = V.int _; congr 1; omega
          rw [es]
          exact ⟨_, _, _, _, _, _, q + 3, rfl, by omega, t.step nf fd fc (D3.mono (by omega)) fr3 np (e := (i + 1, on)) (by unfold mx; simp only; omega) (by show i + 1 ≠ on; omega)⟩
      · refine ⟨_, rfl, _, rfl, dr, cl, _, _, rfl, D4, by omega, by omega, by omega, fun o H2 o0 o1 D2 k2' => ?_⟩
        have k2 : Fr dr H1 H2 := fr4.trans (Fr.of k2')
        obtain ⟨on, rfl⟩ := Int.eq_ofNat_of_zero_le o0
        have fr2 : Fr dr H1 H2 := k2
        have hf2 := fr2 _ _ t.hf fd
        refine ⟨_, rfl, .inl ⟨rfl, _, SqL.of hf2⟩, _, rfl, dr, cl, 2, _, rfl, D2, by omega, by decide, by decide, fun z H3 z0 z1 D3 k3 => ?_⟩
        have fr3 : Fr dr H1 H3 := fr2.trans (Fr.of k3)
        have hf3 := fr3 _ _ t.hf fd
        refine ⟨rfl, _, rfl, ?_⟩
        refine ite2 (fun _ => ?_) (fun _ => ?_)
        · refine ⟨_, rfl, _, rfl, by show 2 ≤ sizeLine; rw [sizeLine_eq]; decide, fun p np => ⟨fl, _, _, rfl, rfl, same_upd np _ _ _ hf3, lenb, ?_⟩⟩
          have es : V.int (1 + (i : Int)) = iv (i + 1) := by show V.int _ = V.int _; congr 1; omega
          rw [es]
          exact ⟨_, _, _, _, _, _, q + 3, rfl, by omega, t.step nf fd fc (D3.mono (by omega)) fr3 np (e := (on, i + 1)) (by unfold mx; simp only; omega) (by show on ≠ i + 1; omega)⟩
        · refine ⟨_, rfl, _, rfl, by show 2 ≤ sizeLine; rw [sizeLine_eq]; decide, fun p np => ⟨fl, _, _, rfl, rfl, same_upd np _ _ _ hf3, lenb, ?_⟩⟩
          have es : V.int (1 + (i : Int)) = iv (i + 1) := by show V.int _ = V.int _; congr 1; omega
          rw [es]
          exact ⟨_, _, _, _, _, _, q + 3, rfl, by omega, t.step nf fd fc (D3.mono (by omega)) fr3 np (e := (i + 1, on)) (by unfold mx; simp only; omega) (by show i + 1 ≠ on; omega)⟩
    · rintro σ H1 ⟨ps, tr, x5, x6, x7, x8, q, rfl, hq, t⟩
      have hcl : ((2 + c0 - 1).toNat : Int) = c0 + 1 := by omega
      have lps : (ps.map V.ref).length = ps.length := List.length_map _
      have lpt : ps.length = tr.length := t.P.1
      have ltr : tr.length = (2 + c0 - 1).toNat := t.len
      refine ⟨_, rfl, _, rfl, fl, _, rfl, .inl (SqL.of t.hf), _, _, rfl, rfl, dr, cl, _, q, rfl, t.D, by omega, by omega, by omega, fun z H2 z0 z1 D2 k2 => ?_⟩
      obtain ⟨zn, rfl⟩ := Int.eq_ofNat_of_zero_le z0
      obtain ⟨kv1, hd1⟩ := t.D.some1
      have hf2 := Fr.of k2 _ _ t.hf fd
      have P2 := t.P.fr (Fr.of k2) hd1
      have zl : zn ≤ ps.length := by omega
      refine ⟨_, rfl, _, rfl, _, rfl, fl, _, rfl, SqL.of hf2, fun p np => ?_⟩
      have s3 := same_upd np (.lst (cutV (ps.map V.ref) (some (zn : Int)) none))
      refine ⟨_, rfl, _, rfl, _, rfl, fl, _, rfl, SqL.of (s3 _ _ hf2), fun p2 np2 => ?_⟩
      have s4 := same_upd np2 (.lst (cutV (ps.map V.ref) none (some (zn : Int))))
      have e1 : cutV (ps.map V.ref) (some (zn : Int)) none = (ps.drop zn).map V.ref := by
        unfold cutV
        rw [HT.sIx_nat, HT.sIx_none, Nat.min_eq_left (by omega), List.map_drop]
        exact List.take_of_length_le (by rw [List.length_drop]; exact Nat.le_refl _)
      have e2 : cutV (ps.map V.ref) none (some (zn : Int)) = (ps.take zn).map V.ref := by
        unfold cutV
        rw [HT.sIx_nat, HT.sIx_none, Nat.min_eq_left (by omega), List.drop_zero, Nat.sub_zero, List.map_take]
      refine ⟨p, p2, _, _, rfl, rfl, s4 _ _ upd_same, upd_same, by rw [e1, e2, List.length_map, List.length_map, List.length_drop, List.length_take, sizeLine_eq]; omega, fun p3 np3 => ?_⟩
      have s5 := same_upd np3 (.lst (cutV (ps.map V.ref) (some (zn : Int)) none ++ cutV (ps.map V.ref) none (some (zn : Int))))
      refine ⟨p3, _, rfl, .inl ⟨SqL.of upd_same, fun p4 np4 => ?_⟩⟩
      have s6 := ((s3.trans s4).trans s5).trans (same_upd np4 (.tup (cutV (ps.map V.ref) (some (zn : Int)) none ++ cutV (ps.map V.ref) none (some (zn : Int)))))
      have e3 : cutV (ps.map V.ref) (some (zn : Int)) none ++ cutV (ps.map V.ref) none (some (zn : Int)) = (ps.drop zn ++ ps.take zn).map V.ref := by rw [e1, e2, List.map_append]
      have hl2 : (tr.drop zn ++ tr.take zn).length = tr.length := by
        rw [List.length_append, List.length_drop, List.length_take]
        omega
      refine k p4 (ps.drop zn ++ ps.take zn) (tr.drop zn ++ tr.take zn) _ ((D2.same s6).mono (by omega)) ((t.fr.trans (Fr.of k2)).trans (Fr.sm s6)) ?_ ((P2.rot zn).same s6) (tree_rot t.ne (by rw [t.mxs, t.len]) zn) (by rw [hl2]; omega) (by rw [hl2]; omega)
      rw [upd_same, e3]
end
end TR
namespace L2.TT
open PySem PySem.Spec PyProof.Rows HT
end L2.TT
namespace L2.TT
open PySem PySem.Spec PyProof.Rows PySem.W StX
section
variable {X : Cx} {CX : CXT} {k : Nat} {f C : Addr} {fd : FuncData} {ps ks : List Str} {sp : Sp} {E : XK} {x : Str} {p pos : Pos} {e : Expr} {es : List Expr} {kws : List Keyword} {t tk : TA}
/-- f(e, ..), f a def that asks that no repr is under way -/
theorem pe_callG (F : FnG X.prog X.w X.K X.mg X.base CX k f fd ps sp) (hG : NoGuard X.A) (hr : Room k X.A) (hg : Gl X x) (hm : X.mg x = some (.ref f)) (hk : keepIn X.K (.ref f) = true) (hb : Binds X.K fd ps []) (hx : Passes CX X E) (ha : PA X (e :: es) t)
    (hdb : (x == ("__debug__" : Str)) = false := by decide) (he : starEach (e :: es) X.env = (false, eval e X.env) :: starEach es X.env := by rfl) (hpl : (backTo pos (starEach es X.env)).any (·.1) = false := by rfl) :
    PE X (.Call (.Name x p) (e :: es) [] pos) (fun σ H Q => t σ H fun vs H1 => sp vs H1 Q E) := by
  refine ⟨fun pins s σ H Q I h => ?_⟩
  refine wpAny_Call_Name_kw (ld_glob I hg hm ?_ hdb)
  refine callWith_K (h₀ := X.base) I.ok.mod.kin hk (thn (ha.run pos pins s σ H _ I h) fun us s1 ⟨vs, H1, I1, r, q⟩ => ⟨I1.kIn, ?_⟩) he hpl
  have hl : (us ++ []).length = ps.length := by rw [List.append_nil, ← r.length]; exact F.len _ _ _ _ q
  have hb1 := hb s1 us I1.kIn hl
  rw [List.append_nil] at hb1
  refine wpAny_call (codeAny_mono (F.run X.A X.stack s1 H1 ⟨us, []⟩ us vs Q E hG hr I1.env0 hb1 r q) fun r s' hq => ?_)
  cases r with
  | error er => exact hx pins σ H1 s1 er s' I1 hq
  | ok fl =>
    cases fl with
    | ret u => exact I1.after hq
    | next => exact False.elim hq
    | brk => exact False.elim hq
    | cont => exact False.elim hq
end
end L2.TT
namespace L2.TT
open PySem PySem.Spec PyProof.Rows PySem.W
theorem sqT_same {K : Frag} {H H' : Hp} {a : Addr} {xs : List V} (h : SqT K H a xs) (e : Same H H') : SqT K H' a xs := by
  rcases h with (h | ⟨o, h⟩) | h
  · exact .inl (.inl (e _ _ h))
  · exact .inl (.inr ⟨o, e _ _ h⟩)
  · exact .inr h
section
variable {K : Frag} {H H' : Hp}
mutual
theorem dp_same (e : Same H H') : ∀ (d : PyData) (v : V), Dp K H v d → Dp K H' v d
  | .none, _, h => by cases h; exact .non
  | .bool b, _, h => by cases h; exact .bl b
  | .int i, _, h => by cases h; exact .int i
  | .str x, _, h => by cases h; exact .str x
  | .list ds, _, h => by
    cases h with
    | lst hs ha => exact .lst (e.seq hs) (dpAll_same e ds _ ha)
  | .tuple ds, _, h => by
    cases h with
    | tup hs ha => exact .tup (sqT_same hs e) (dpAll_same e ds _ ha)
  | .dict _, _, h => by cases h
theorem dpAll_same (e : Same H H') : ∀ (ds : List PyData) (vs : List V), DpAll K H vs ds → DpAll K H' vs ds
  | [], _, h => by cases h; exact .nil
  | d :: ds, _, h => by
    cases h with
    | cons h1 h2 => exact .cons (dp_same e d _ h1) (dpAll_same e ds _ h2)
end
theorem fd_same {v : V} {d : PyData} (e : Same H H') (f : FD H v d) : FD H' v d := by
  cases f with
  | flat f => exact .flat f
  | dic h k => exact .dic (e _ _ h) k
/-- a value that may be shown, by what it holds -/
structure ShowOk (K : Frag) (H : Hp) (v : V) (d : PyData) : Prop where
  is : (Dp K H v d ∧ d.canLay0 = true) ∨ FD H v d
  sh : d.showable = true
  lv : d.leavesShort 13 = true
  wt : d.weight ≤ 100
  dp : d.depth ≤ 10
theorem ShowOk.same {v : V} {d : PyData} (s : ShowOk K H v d) (e : Same H H') : ShowOk K H' v d :=
  ⟨s.is.elim (fun z => .inl ⟨dp_same e d v z.1, z.2⟩) fun z => .inr (fd_same e z), s.sh, s.lv, s.wt, s.dp⟩
end
end L2.TT
namespace TR
open PySem PySem.Spec PyProof.Rows L2 L2.TT StX ClX
abbrev di (n : Nat) : PyData := .int (n : Int)
theorem dpAll_ints {K : PySem.W.Frag} {H : Hp} : ∀ (l : List Nat), DpAll K H (l.map iv) (l.map di)
  | [] => .nil
  | _ :: l => .cons (.int _) (dpAll_ints l)
theorem canLay_ints : ∀ (l : List Nat), PyData.canLayAll0 (l.map di) = true
  | [] => rfl
  | a :: l => by
    show (PyData.canLay0 (di a) && PyData.canLayAll0 (l.map di)) = true
    rw [canLay_ints l]
    rfl
theorem depth_ints : ∀ (l : List Nat), PyData.depthAll (l.map di) = 0
  | [] => rfl
  | a :: l => by
    show max (PyData.depth (di a)) (PyData.depthAll (l.map di)) = 0
    rw [depth_ints l]
    rfl
theorem shaped_ints (l : List Nat) : SeqAt.shaped (.list (l.map di)) = true := by
  unfold SeqAt.shaped
  rw [Bool.and_eq_true]
  refine ⟨canLay_ints l, decide_eq_true ?_⟩
  show PyData.depthAll (l.map di) + 1 ≤ 64
  rw [depth_ints]
  decide
theorem RailAt.fr {C dr : Addr} {H H' : Hp} {r : Addr} {tr : List E2} {kvs : List (Key × V)} (R : RailAt C H r tr) (k : Fr dr H H') (hd : H dr = some (.dK kvs)) : RailAt C H' r tr := by
  obtain ⟨T, few, dx, tt, na, A, L, ps, ts, h1, h2, h3, h4, h5, h6, h7, h8⟩ := R
  refine ⟨T, few, dx, tt, na, A, L, ps, ts, k _ _ h1 (ne_of h1 hd (by intro z; cases z)), k _ _ h2 (ne_of h2 hd (by intro z; cases z)), h3.fr k hd, k _ _ h4 (ne_of h4 hd (by intro z; cases z)), h5, fun v t h => k _ _ (h6 v t h) (ne_of (h6 v t h) hd (by intro z; cases z)), k _ _ h7 (ne_of h7 hd (by intro z; cases z)), k _ _ h8 (ne_of h8 hd (by intro z; cases z))⟩
theorem SW.rev {tr : List E2} {a b : Nat} {l : List Nat} (s : SW tr a b l) : SW tr b a l.reverse :=
  ⟨s.wk.rev, (List.reverse_perm l).nodup_iff.mpr s.nd, by rw [List.head?_reverse]; exact s.lt, by rw [List.getLast?_reverse]; exact s.hd⟩
theorem sw_le {tr : List E2} (T : TreeL tr) {a b : Nat} {l : List Nat} (s : SW tr a b l) (ha : a ≤ tr.length) : ∀ z ∈ l, z ≤ tr.length := by
  have key : ∀ {l : List Nat} {a : Nat}, Wk tr (a :: l) → a ≤ tr.length → ∀ z ∈ a :: l, z ≤ tr.length := by
    intro l
    induction l with
    | nil =>
      intro a _ h z hz
      rw [List.mem_singleton] at hz
      omega
    | cons c r ih =>
      intro a w h z hz
      rcases List.mem_cons.mp hz with rfl | hz
      · exact h
      · refine ih w.2 ?_ z hz
        exact (T.adj_le w.1).2
  cases l with
  | nil => cases s.hd
  | cons c r =>
    have e : c = a := Option.some.inj s.hd
    subst e
    exact key s.wk ha
theorem int_show {i : Int} (h1 : -1000 ≤ i) (h2 : i ≤ 1000) : (PyData.int i).showable = true ∧ (PyData.int i).leavesShort 13 = true ∧ (PyData.int i).weight ≤ 10 ∧ (PyData.int i).depth = 0 := by
  have hn : i.natAbs ≤ 1000 := by omega
  have hl : i.natAbs.log2 < 10 := by
    by_cases h0 : i.natAbs = 0
    · rw [h0]; decide
    · exact (Nat.log2_lt h0).mpr (by omega)
  refine ⟨?_, ?_, ?_, ?_⟩
  · simp only [PyData.showable, decide_eq_true_eq]
    omega
  · simp only [PyData.leavesShort, decide_eq_true_eq]
    exact PyData.shown_int_le (by omega)
  · simp only [PyData.weight]
    split <;> omega
  · simp only [PyData.depth]
theorem pickAll {P : V → Prop} {xs : List V} {r : Int} (h0 : 0 ≤ r) (h1 : r < xs.length) (h : ∀ x ∈ xs, P x) : ∃ v, atI xs r = some v ∧ P v := by
  obtain ⟨n, rfl⟩ := Int.eq_ofNat_of_zero_le h0
  have hl : n < xs.length := by omega
  exact ⟨xs[n], atI_nat (List.getElem?_eq_getElem hl), h _ (List.getElem_mem hl)⟩
section
variable {tr : List E2}
theorem sw_climb (T : TreeL tr) {a b : Nat} : ∀ (n x y : Nat) (F B : List Nat), dep tr x + dep tr y = n → Clb tr a b x y F B → ∃ l, SW tr a b l ∧ l.length ≤ F.length + B.length + n + 1 := by
  intro n
  induction n using Nat.strongRecOn with
  | ind n ih =>
    intro x y F B e c
    by_cases h : x = y
    · subst h
      refine ⟨_, c.done, ?_⟩
      simp
      omega
    · by_cases h2 : dep tr y < dep tr x
      · obtain ⟨h3, h4, c2⟩ := c.up1 T h h2
        have d := dep_succ T h3
        obtain ⟨l, s, hl⟩ := ih (dep tr (par tr x) + dep tr y) (by omega) _ _ _ _ rfl c2
        refine ⟨l, s, ?_⟩
        rw [List.length_append] at hl
        have : [x].length = 1 := rfl
        omega
      · obtain ⟨h3, h4, c2⟩ := c.up2 T h h2
        have d := dep_succ T h3
        obtain ⟨l, s, hl⟩ := ih (dep tr x + dep tr (par tr y)) (by omega) _ _ _ _ rfl c2
        refine ⟨l, s, ?_⟩
        rw [List.length_append] at hl
        have : [y].length = 1 := rfl
        omega
theorem sw_ex (T : TreeL tr) {a b : Nat} (ha : a ≤ tr.length) (hb : b ≤ tr.length) : ∃ l, SW tr a b l ∧ l.length ≤ dep tr a + dep tr b + 1 := by
  obtain ⟨l, s, h⟩ := sw_climb T _ a b [] [] rfl (Clb.start ha hb)
  refine ⟨l, s, ?_⟩
  simp at h
  omega
theorem wk_pre : ∀ {l r : List Nat}, Wk tr (l ++ r) → Wk tr l
  | [], _, _ => trivial
  | [_], _, _ => trivial
  | a :: b :: l, r, h => ⟨h.1, wk_pre (l := b :: l) (r := r) h.2⟩
theorem wk_adj : ∀ {l : List Nat} {x g : Nat}, Wk tr (l ++ [x] ++ [g]) → Adj tr x g
  | [], _, _, h => h.1
  | [a], x, g, h => wk_adj (l := []) h.2
  | a :: b :: l, x, g, h => wk_adj (l := b :: l) h.2
theorem SW.cut {s g : Nat} {l : List Nat} (w : SW tr s g (l ++ [g])) (h : l ≠ []) : ∃ x, SW tr s x l ∧ Adj tr x g ∧ g ∉ l := by
  obtain ⟨p, x, rfl⟩ : ∃ p x, l = p ++ [x] := ⟨l.dropLast, l.getLast h, (List.dropLast_concat_getLast h).symm⟩
  refine ⟨x, ⟨wk_pre w.wk, ?_, ?_, by simp⟩, wk_adj w.wk, fun m => ?_⟩
  · have := w.nd
    exact (List.nodup_append.mp this).1
  · have := w.hd
    rw [List.head?_append] at this
    cases e : (p ++ [x]).head? with
    | none => simp at e
    | some z =>
      rw [e] at this
      exact this
  · exact (List.nodup_append.mp w.nd).2.2 g m g (by simp) rfl
noncomputable def pl (tr : List E2) (s g : Nat) : List Nat := open Classical in if h : ∃ l, SW tr s g l then h.choose else []
theorem pl_eq (T : TreeL tr) {s g : Nat} {l : List Nat} (w : SW tr s g l) : pl tr s g = l := by
  unfold pl
  rw [dif_pos ⟨l, w⟩]
  exact SW.uniq T (Exists.choose_spec (⟨l, w⟩ : ∃ l, SW tr s g l)) w
theorem SW.pre {a b v : Nat} {p r : List Nat} (s : SW tr a b (p ++ v :: r)) : SW tr a v (p ++ [v]) := by
  have e : p ++ v :: r = (p ++ [v]) ++ r := by simp
  refine ⟨?_, ?_, ?_, by simp⟩
  · have h := s.wk
    rw [e] at h
    exact wk_pre h
  · have h := s.nd
    rw [e] at h
    exact (List.nodup_append.mp h).1
  · have h := s.hd
    cases p with
    | nil => exact h
    | cons c p => exact h
/-- the distance of a station -/
noncomputable def dst (tr : List E2) (s v : Nat) : Nat := (pl tr s v).length - 1
theorem dst_eq (T : TreeL tr) {s v : Nat} {l : List Nat} (w : SW tr s v l) : dst tr s v + 1 = l.length := by
  unfold dst
  rw [pl_eq T w]
  have : l ≠ [] := by
    rintro rfl
    cases w.hd
  have := List.length_pos_iff.mpr this
  omega
theorem dst_self (T : TreeL tr) (s : Nat) : dst tr s s = 0 := by
  have := dst_eq T (SW.one (tr := tr) s)
  simp at this
  exact this
theorem dst_zero (T : TreeL tr) {s v : Nat} (hs : s ≤ tr.length) (hv : v ≤ tr.length) (h : dst tr s v = 0) : v = s := by
  obtain ⟨l, w, _⟩ := sw_ex T hs hv
  have e := dst_eq T w
  rw [h] at e
  obtain ⟨x, rfl⟩ := List.length_eq_one_iff.mp e.symm
  have e1 : x = s := Option.some.inj w.hd
  have e2 : x = v := Option.some.inj w.lt
  exact e2.symm.trans e1
theorem dst_le (T : TreeL tr) {s v : Nat} (hs : s ≤ tr.length) (hv : v ≤ tr.length) : dst tr s v ≤ tr.length := by
  obtain ⟨l, w, _⟩ := sw_ex T hs hv
  have e := dst_eq T w
  have := nd_len w.nd (sw_le T w hs)
  omega
theorem dst_adj (T : TreeL tr) {s u v : Nat} (hs : s ≤ tr.length) (hu : u ≤ tr.length) (h : Adj tr u v) : dst tr s v = dst tr s u + 1 ∨ dst tr s u = dst tr s v + 1 := by
  obtain ⟨l, w, _⟩ := sw_ex T hs hu
  have e := dst_eq T w
  by_cases c : v ∈ l
  · obtain ⟨p, r, rfl⟩ := List.append_of_mem c
    have wv := w.pre
    have hr : r ≠ [] := by
      rintro rfl
      have h2 := w.lt
      rw [List.getLast?_append] at h2
      have : v = u := by simpa using h2
      subst this
      rcases h with h | h
      · exact T.ne _ h rfl
      · exact T.ne _ h rfl
    have hu2 : u ∉ p ++ [v] := by
      intro hm
      have h3 : p ++ v :: r = (p ++ [v]) ++ r := by simp
      have nd := w.nd
      rw [h3] at nd
      have hl : r.getLast? = some u := by
        have := w.lt
        rw [h3, List.getLast?_append] at this
        cases e : r.getLast? with
        | none => exact absurd (List.getLast?_eq_none_iff.mp e) hr
        | some z => rw [e] at this; exact this
      exact (List.nodup_append.mp nd).2.2 u hm u (List.mem_of_getLast? hl) rfl
    have w2 := wv.snoc h.sym hu2
    have e2 := dst_eq T w2
    have e3 := dst_eq T wv
    rw [List.length_append] at e2
    right
    have : [u].length = 1 := rfl
    omega
  · have w2 := w.snoc h c
    have e2 := dst_eq T w2
    rw [List.length_append] at e2
    left
    have : [v].length = 1 := rfl
    omega
theorem dst_prev (T : TreeL tr) {s v : Nat} (hs : s ≤ tr.length) (hv : v ≤ tr.length) (ne : v ≠ s) : ∃ u, u ≤ tr.length ∧ Adj tr u v ∧ dst tr s u + 1 = dst tr s v := by
  obtain ⟨l, w, _⟩ := sw_ex T hs hv
  obtain ⟨l', rfl⟩ : ∃ l', l = l' ++ [v] := List.getLast?_eq_some_iff.mp w.lt
  have hl : l' ≠ [] := by
    rintro rfl
    exact ne (Option.some.inj w.hd)
  obtain ⟨x, w', adj, ng⟩ := w.cut hl
  have e1 := dst_eq T w
  have e2 := dst_eq T w'
  rw [List.length_append] at e1
  refine ⟨x, sw_le T w' hs x w'.mem, adj, ?_⟩
  have : [v].length = 1 := rfl
  omega
/-- the law's own list under way: round k, i tracks seen -/
structure Far (tr : List E2) (s k i : Nat) (g : Nat → Option Nat) : Prop where
  low : ∀ v, v ≤ tr.length → dst tr s v ≤ k → g v = some (dst tr s v)
  val : ∀ v x, v ≤ tr.length → g v = some x → x = dst tr s v ∧ x ≤ k + 1
  up : ∀ (j : Nat) (e : E2), j < i → tr[j]? = some e → (dst tr s e.1 = k → dst tr s e.2 = k + 1 → g e.2 = some (k + 1)) ∧ (dst tr s e.2 = k → dst tr s e.1 = k + 1 → g e.1 = some (k + 1))
theorem Far.start (T : TreeL tr) {s : Nat} (hs : s ≤ tr.length) : Far tr s 0 0 (fun v => if v = s then some 0 else none) := by
  refine ⟨fun v hv h => ?_, fun v x hv h => ?_, fun j e h => absurd h (Nat.not_lt_zero _)⟩
  · have := dst_zero T hs hv (by omega)
    subst this
    rw [if_pos rfl, dst_self T]
  · by_cases c : v = s
    · subst c
      rw [if_pos rfl] at h
      cases h
      exact ⟨(dst_self T _).symm, by omega⟩
    · rw [if_neg c] at h
      cases h
/-- a track that sets the one end v from the other end u -/
theorem Far.set (T : TreeL tr) {s k i u v : Nat} {g : Nat → Option Nat} (hs : s ≤ tr.length) (f : Far tr s k i g) {e : E2} (he : tr[i]? = some e) (hu : u ≤ tr.length) (hv : v ≤ tr.length) (h : (e.1 = u ∧ e.2 = v) ∨ (e.1 = v ∧ e.2 = u)) (h1 : g u = some k) (h2 : g v = none) :
    Far tr s k (i + 1) (fun w => if w = v then some (k + 1) else g w) := by
  have hm := List.mem_of_getElem? he
  have du : dst tr s u = k := ((f.val u k hu h1).1).symm
  have adj : Adj tr u v := by
    rcases h with ⟨a, b⟩ | ⟨a, b⟩
    · exact .inl (by rw [← a, ← b]; exact hm)
    · exact .inr (by rw [← a, ← b]; exact hm)
  have dv : dst tr s v = k + 1 := by
    rcases dst_adj T hs hu adj with q | q
    · omega
    · have := f.low v hv (by omega)
      rw [h2] at this
      cases this
  refine ⟨fun w hw hd => ?_, fun w x hw hx => ?_, fun j e' hj he' => ?_⟩
  · by_cases c : w = v
    · subst c
      omega
    · show (if w = v then some (k + 1) else g w) = _
      rw [if_neg c]
      exact f.low w hw hd
  · have hx : (if w = v then some (k + 1) else g w) = some x := hx
    by_cases c : w = v
    · subst c
      rw [if_pos rfl] at hx
      cases hx
      exact ⟨dv.symm, Nat.le_refl _⟩
    · rw [if_neg c] at hx
      exact f.val w x hw hx
  · by_cases c : j = i
    · subst c
      rw [he] at he'
      cases he'
      rcases h with ⟨a, b⟩ | ⟨a, b⟩
      · refine ⟨fun _ _ => by show (if e.2 = v then some (k + 1) else g e.2) = _; rw [if_pos b], fun q1 q2 => ?_⟩
        rw [b, dv] at q1
        omega
      · refine ⟨fun q1 q2 => ?_, fun _ _ => by show (if e.1 = v then some (k + 1) else g e.1) = _; rw [if_pos a]⟩
        rw [a, dv] at q1
        omega
    · obtain ⟨q1, q2⟩ := f.up j e' (by omega) he'
      refine ⟨fun z1 z2 => ?_, fun z1 z2 => ?_⟩
      · show (if e'.2 = v then some (k + 1) else g e'.2) = _
        split
        · rfl
        · exact q1 z1 z2
      · show (if e'.1 = v then some (k + 1) else g e'.1) = _
        split
        · rfl
        · exact q2 z1 z2
/-- a track that sets nothing -/
theorem Far.keep (T : TreeL tr) {s k i : Nat} {g : Nat → Option Nat} (hs : s ≤ tr.length) (f : Far tr s k i g) {e : E2} (he : tr[i]? = some e) (h1 : ¬ (g e.1 = some k ∧ g e.2 = none)) (h2 : ¬ (g e.2 = some k ∧ g e.1 = none)) : Far tr s k (i + 1) g := by
  have hm := List.mem_of_getElem? he
  obtain ⟨b1, b2⟩ := T.lt1 hm
  refine ⟨f.low, f.val, fun j e' hj he' => ?_⟩
  by_cases c : j = i
  · subst c
    rw [he] at he'
    cases he'
    refine ⟨fun q1 q2 => ?_, fun q1 q2 => ?_⟩
    · have := f.low e.1 (by omega) (by omega)
      rw [q1] at this
      cases hg : g e.2 with
      | none => exact absurd ⟨this, hg⟩ h1
      | some x =>
        have := (f.val e.2 x (by omega) hg).1
        rw [this, q2]
    · have := f.low e.2 (by omega) (by omega)
      rw [q1] at this
      cases hg : g e.1 with
      | none => exact absurd ⟨this, hg⟩ h2
      | some x =>
        have := (f.val e.1 x (by omega) hg).1
        rw [this, q2]
  · exact f.up j e' (by omega) he'
theorem Far.done (T : TreeL tr) {s : Nat} {g : Nat → Option Nat} (hs : s ≤ tr.length) (f : Far tr s tr.length 0 g) {v : Nat} (hv : v ≤ tr.length) : g v = some (dst tr s v) := f.low v hv (dst_le T hs hv)
end
end TR
namespace TR
/-! The layers from a station reach all; the last one is the farthest. Lines and stars. -/
section
variable {tr : List E2}
theorem sw_len (T : TreeL tr) {a b : Nat} {l : List Nat} (w : SW tr a b l) (ha : a ≤ tr.length) : l.length ≤ tr.length + 1 := nd_len w.nd (sw_le T w ha)
end
end TR
namespace TR
section
variable {tr : List E2}
/-- the number of layers of a branch -/
noncomputable def ht (tr : List E2) (s : Nat) (b : Option Nat) : Nat := open Classical in if h : ∃ k, lyr tr s b k = [] then (h.elim fun k hk => ex_min (P := fun k => lyr tr s b k = []) k hk).choose else 0
/-- the depth of a branch -/
noncomputable def dph (tr : List E2) (s b : Nat) : Nat := ht tr s (some b) - 1
end
end TR
namespace TR
open PySem PySem.Spec PyProof.Rows L2 L2.TT StX ClX
/-- the lists of neighbours -/
structure Ard (K : PySem.W.Frag) (H : Hp) (a : Addr) (tr : List E2) : Prop where
  ex : ∃ ts : List Addr, SqL K H a (ts.map V.ref) ∧ ts.length = tr.length + 1 ∧ ∀ (v : Nat) (t : Addr), ts[v]? = some t → H t = some (.lst ((nb tr v).map iv))
theorem Ard.same {K : PySem.W.Frag} {H H' : Hp} {a : Addr} {tr : List E2} (h : Ard K H a tr) (s : Same H H') : Ard K H' a tr := by
  obtain ⟨ts, h1, h2, h3⟩ := h.ex
  exact ⟨ts, s.seq h1, h2, fun v t e => s _ _ (h3 v t e)⟩
theorem Ard.row {K : PySem.W.Frag} {H : Hp} {a : Addr} {tr : List E2} (h : Ard K H a tr) {v : Nat} (hv : v ≤ tr.length) : ∃ (xs : List V) (t : Addr), SqL K H a xs ∧ xs[v]? = some (.ref t) ∧ H t = some (.lst ((nb tr v).map iv)) := by
  obtain ⟨ts, h1, h2, h3⟩ := h.ex
  have lt : v < ts.length := by omega
  exact ⟨_, ts[v], h1, map_get (List.getElem?_eq_getElem lt), h3 v _ (List.getElem?_eq_getElem lt)⟩
theorem Ard.fr {K : PySem.W.Frag} {H H' : Hp} {a dr : Addr} {tr : List E2} {kvs : List (Key × V)} (h : Ard K H a tr) (k : Fr dr H H') (hd : H dr = some (.dK kvs)) : Ard K H' a tr := by
  obtain ⟨ts, h1, h2, h3⟩ := h.ex
  refine ⟨ts, ?_, h2, fun v t e => k _ _ (h3 v t e) (ne_of (h3 v t e) hd (by intro z; cases z))⟩
  rcases h1 with (h1 | ⟨ob, h1⟩) | h1
  · exact .inl (.inl (k _ _ h1 (ne_of h1 hd (by intro z; cases z))))
  · exact .inl (.inr ⟨ob, k _ _ h1 (ne_of h1 hd (by intro z; cases z))⟩)
  · exact .inr h1
end TR
namespace L2.TT
open PySem PySem.Spec PyProof.Rows
/-! ### the exception classes of the program that keep one field -/
theorem PE.imp {X : Cx} {e : Expr} {t t' : TE} (h : PE X e t) (i : ∀ σ H Q, t' σ H Q → t σ H Q) : PE X e t' := ⟨fun pins s σ H Q I q => h.run pins s σ H Q I (i σ H Q q)⟩
section
variable {P : Program} {w : World} {K : PySem.W.Frag} {mg : Str → Option Value} {base : Heap} {C fI : Addr} {fd : FuncData} {f g : Str} {B newId initId qual : String} {bmB : List Value} {st : Stmt} {dvs : List V}
/-- an __init__ that stores its one argument -/
theorem ok_init1 {q : Str} (F : FunD K "__init__" q (defArgs st) (defBody st) (defScope st) dvs [] fI fd) (Y : XB B newId initId bmB) (T : XC K C bmB newId) (nF : PySem.W.findIn K (.ref C) f = some none)
    (hb : ∃ p1 p2 p3 p4, defBody st = [.Assign [.Attribute (.Name "self" p1) f p2] (.Name f p3) p4]) (sc : FnScope ["self", f] ["self", f] (defScope st)) (v0 : Vis (defScope st) "self") (v1 : Vis (defScope st) f)
    (h1 : (f == ("__debug__" : Str)) = false) (h2 : (f == ("__classdict__" : Str)) = false) : FnOk P w K mg base CX0 1 fI fd ["self", f] (spI1 C f) := by
  obtain ⟨p1, p2, p3, p4, hb⟩ := hb
  refine F.ok sc (fun vs H Q E h => ?_) (fun cdv A outer s H vs Q E hr h => ?_)
  · obtain ⟨a, y, rfl, _⟩ := h
    rfl
  · obtain ⟨a, y, rfl, ha, k⟩ := h
    rw [hb]
    refine ⟨_, pss_one (ps_xst (pe_var (i := 0) rfl v0) (pe_var (i := 1) rfl v1 h1 h2)), ?_⟩
    refine ⟨_, rfl, _, rfl, a, C, B, newId, initId, bmB, rfl, Y, T, nF, .inl ⟨ha, fun dx n ne => ?_⟩⟩
    exact k dx n ne
end
/-- what is asked of one argument, of two -/
def one (φ : V → Hp → Prop) : List V → Hp → Prop
  | [y], H => φ y H
  | _, _ => False
def two (φ : V → V → Hp → Prop) : List V → Hp → Prop
  | [y, z], H => φ y z H
  | _, _ => False
end L2.TT
namespace L2.TT
open PySem PySem.Spec PyProof.Rows
end L2.TT
namespace L2
open PySem PySem.Spec PyProof.Rows
/-- an error that has flown: its class, its dict, some fields -/
def exq (a : Addr) (cls : Value) (d : Option Addr) : HO := .ext fun h => ∃ (o : Obj) (vs : Array Value), h.get? a = some o ∧ o.cls = cls ∧ o.dict = d ∧ o.data = .fields vs
end L2
namespace L2.TT
open PySem PySem.Spec PyProof.Rows PySem.W
/-- an error that has flown, with its fields -/
def FlownAt (H : Hp) (a C : Addr) (fs : List (Str × V)) : Prop := ∃ d, H a = some (exq a (.ref C) (some d)) ∧ H d = some (.xd fs)
theorem FlownAt.mk {H : Hp} {a C d : Addr} {fs : List (Str × V)} (na : H a = none) (e : H d = some (.xd fs)) : FlownAt (upd H a (exq a (.ref C) (some d))) a C fs :=
  ⟨d, upd_same, by
    rw [upd_ne (fun z => by rw [z, na] at e; cases e)]
    exact e⟩
theorem FlownAt.same {H H' : Hp} {a C : Addr} {fs : List (Str × V)} (e : FlownAt H a C fs) (s : Same H H') : FlownAt H' a C fs := by
  obtain ⟨d, h1, h2⟩ := e
  exact ⟨d, s _ _ h1, s _ _ h2⟩
end L2.TT
namespace L2.TT
open PySem PySem.Spec PyProof.Rows PySem.W
/-- an own exception class over ValueError, RuntimeError or LookupError, to be raised -/
structure OexG (K : Frag) (C : Addr) : Prop where
  xc : ∃ (B newId initId : String) (bmB : List Value), XB B newId initId bmB ∧ XC K C bmB newId
  ty : typeIn K (.ref C) = some (.type "type")
section
variable {X : Cx} {p pos : Pos} {e : Expr} {es : List Expr} {ta : TA}
theorem pmk_oxg {CX : CXT} {x : Str} {C fI : Addr} {k : Nat} {fd : FuncData} {ps : List Str} {sp : Sp} {ds : List Value} {dvs : List V} (T : OexG X.K C) (iC : findIn X.K (.ref C) "__init__" = some (some (.ref fI))) (tI : typeIn X.K (.ref fI) = some (.type "function"))
    (F1 : FnOk X.prog X.w X.K X.mg X.base CX k fI fd ps sp) (hr : Room (k + 1) X.A) (hb : Binds X.K fd ps ds) (hd : Vals dvs ds) (hx : Passes CX X (fun _ _ _ => False)) (hg : Gl X x) (hm : X.mg x = some (.ref C)) (ha : PA X (e :: es) ta)
    (hdb : (x == ("__debug__" : Str)) = false := by decide) (he : starEach (e :: es) X.env = (false, eval e X.env) :: starEach es X.env := by rfl) (hpl : (backTo pos (starEach es X.env)).any (·.1) = false := by rfl) :
    PMk X (.Call (.Name x p) (e :: es) [] pos) (tMkO C sp dvs ta) := by
  intro pins s σ H Q I h
  obtain ⟨⟨B, newId, initId, bmB, Y, T0⟩, ty⟩ := T
  refine wpAny_Call_Name_kw (ld_glob I hg hm ?_ hdb)
  refine callWith_K (h₀ := X.base) I.ok.mod.kin T0.kp (thn (ha.run pos pins s σ H _ I h) fun us s1 ⟨vs, H1, I1, r1, hz, q1⟩ => ⟨I1.kIn, ?_⟩) he hpl
  obtain ⟨nm, N, qn, bs, bm, hdct, sn, sub, ab, col, dd, k0, k1, k2, k3, k5, hC, hT⟩ := excInit_of I1.kIn T0.ini
  show wpAny _ _ (call (.ref C) us) _ _ _
  obtain ⟨hp, g, dr, tk, os⟩ := s1
  have hsz : hp.objs.size ≤ hp.objs.size + 1 := Nat.le_succ _
  have hn : H1 (hp.objs.size + 1) = none := I1.hok.fresh hsz
  have hq := q1 (hp.objs.size + 1) hn
  have kk : ∀ b o, hp.get? b = some o → ((hp.push (kdv_tup us)).push (HandSPX.excO C hp.objs.size)).get? b = some o := fun b o e => Heap.get?_push_of_some _ (Heap.get?_push_of_some _ e)
  have hget : ((hp.push (kdv_tup us)).push (HandSPX.excO C hp.objs.size)).get? (hp.objs.size + 1) = some (HandSPX.excO C hp.objs.size) := by heap_get
  have I2 : Inv X pins σ (upd H1 (hp.objs.size + 1) (exo (hp.objs.size + 1) C none)) ⟨(hp.push (kdv_tup us)).push (HandSPX.excO C hp.objs.size), g, dr, tk, os⟩ :=
    I1.laid (t' := tk) (a := hp.objs.size + 1) (o := exo (hp.objs.size + 1) C none) (h' := (hp.push (kdv_tup us)).push (HandSPX.excO C hp.objs.size)) kk hsz (exo_ok hget)
  have r2 : Vals (V.ref (hp.objs.size + 1) :: (vs ++ dvs)) (Value.ref (hp.objs.size + 1) :: (us ++ ds)) := .cons rfl (r1.append hd)
  have hl : (Value.ref (hp.objs.size + 1) :: us ++ ds).length = ps.length := by
    have e := r2.length
    rw [F1.len _ _ _ _ hq] at e
    exact e.symm
  refine wpAny_call (call_exc Y.ex hT hC (looks_findIn I1.kIn iC) (fun self => bind_fn I1.kIn self tI) (small_of r1 hz)
    (codeAny_mono (F1.run _ X.stack _ _ ⟨Value.ref (hp.objs.size + 1) :: us, []⟩ (Value.ref (hp.objs.size + 1) :: (us ++ ds)) _ _ (fun _ _ _ => False) (hr.make C us []) (I2.env0.make C us []) (hb _ (Value.ref (hp.objs.size + 1) :: us) I2.kIn hl) r2 hq) fun r s' hq' => ?_))
  cases r with
  | error er => exact hx pins σ _ _ er s' I2 hq'
  | ok fl =>
    cases fl with
    | ret u =>
      obtain ⟨v, H2, os2, bare2, un2, hok2, rv, ev, d, fs, ea, ed, hd1, q2⟩ := hq'
      subst ev
      obtain ⟨h2, g2, d2, t2, os'⟩ := s'
      exact ⟨rv, mk_end (raises_own T0.sub ty) I1 hsz kk un2 hok2 os2 bare2 ea ed hd1 q2⟩
    | next => exact False.elim hq'
    | brk => exact False.elim hq'
    | cont => exact False.elim hq'
end
end L2.TT
namespace TR
open PySem PySem.Spec PyProof.Rows L2 L2.TT StX ClX
/-- an exception class of the program that keeps one field, to be raised -/
structure RzC (P : Program) (w : World) (K : PySem.W.Frag) (mg : Str → Option Value) (base : Heap) (x : Str) (C : Addr) (f : Str) : Prop where
  ox : OexG K C
  mgC : mg x = some (.ref C)
  ex : ∃ (fI : Addr) (fd : FuncData), PySem.W.findIn K (.ref C) "__init__" = some (some (.ref fI)) ∧ PySem.W.typeIn K (.ref fI) = some (.type "function") ∧ FnOk P w K mg base CX0 1 fI fd ["self", f] (spI1 C f) ∧ Binds K fd ["self", f] []
theorem rz_end {C : Addr} {f : Str} {y : V} {H : Hp} {Q : XK} (h : ∀ d, H d = none → Q (.ref C) (some d) (upd H d (.xd [(f, y)]))) :
    [y].length ≤ 1000 ∧ ∀ a, H a = none → spI1 C f (.ref a :: ([y] ++ [])) (upd H a (exo a C none))
      (fun v H2 => v = .non ∧ ∃ (d : Addr) (fs : List (Str × V)), H2 a = some (exo a C (some d)) ∧ H2 d = some (exd d fs) ∧ H d = none ∧ Q (.ref C) (some d) (upd (del H2 a) d (.xd fs))) (fun _ _ _ => False) := by
  refine ⟨by show 1 ≤ 1000; decide, fun a na => ⟨a, y, rfl, upd_same, fun d nd ne => ⟨rfl, d, [(f, y)], upd_same, by rw [upd_ne ne, upd_same], by rw [upd_ne ne] at nd; exact nd, ?_⟩⟩⟩
  have hd : H d = none := by
    rw [upd_ne ne] at nd
    exact nd
  have e : upd (del (upd (upd (upd H a (exo a C none)) d (exd d [(f, y)])) a (exo a C (some d))) a) d (.xd [(f, y)]) = upd H d (.xd [(f, y)]) := by
    funext b
    by_cases h1 : b = d
    · rw [h1, upd_same, upd_same]
    · rw [upd_ne h1, upd_ne h1]
      by_cases h2 : b = a
      · rw [h2, del_same, na]
      · rw [del_ne h2, upd_ne h2, upd_ne h1, upd_ne h2]
  rw [e]
  exact h d hd
section
variable {P : Program} {w : World} {K : PySem.W.Frag} {mg : Str → Option Value} {base : Heap}
/-- check_station, as a def that may raise -/
structure UseX (P : Program) (w : World) (K : PySem.W.Frag) (mg : Str → Option Value) (base : Heap) (k : Nat) (x : Str) (f : Addr) (fd : FuncData) (ps : List Str) (sp : Sp) : Prop where
  G : FnOk P w K mg base (L2.CX P w) k f fd ps sp
  m : mg x = some (.ref f)
  kp : PySem.W.keepIn K (.ref f) = true
  b : Binds K fd ps []
end
end TR
namespace L2.TT
open PySem PySem.Spec PyProof.Rows PySem.W
/-- repr(xs), xs a short list with longer leaves -/
def rRepr60 (K : Frag) : List V → Hp → VK → Prop := fun xs H Q => ∃ (a : Addr) (vs : List V) (ds : List PyData), xs = [.ref a] ∧ SqL K H a vs ∧ DL K H vs ds ∧ PyData.showableAll ds = true ∧ PyData.leavesShortAll 60 ds = true ∧ PyData.weightAll ds ≤ 1000 ∧ PyData.depthAll ds ≤ 20 ∧
  Q (.str (PyData.shown (.list ds))) H
theorem call_repr60 {X : Cx} (hg : X.A.guards = some []) (hu : X.A.units + 64 < cLine) : CallR X (.builtin "repr") (rRepr60 X.K) := by
  intro pins s σ H xs us Q I r h
  obtain ⟨a, vs, ds, rfl, hl, hd, hs, hb, hw, hp, q⟩ := h
  obtain rfl := Vals.ref1 r
  obtain ⟨its, rv, ⟨o, n, ho, hc, hdn, hda⟩, hz⟩ := I.list hl
  obtain ⟨as, h4, hsm⟩ := hd.reads I rv
  have fit : (PyData.shown (.list ds)).length ≤ sizeLine := by
    have h := PyData.shown_le 60 (by decide) (.list ds) (by simpa only [PyData.leavesShort] using hb)
    have hw2 : (PyData.list ds).weight ≤ 1010 := by
      simp only [PyData.weight]
      omega
    rw [sizeLine_eq]
    omega
  have hz' : (listText (PyData.shownAll ds)).length ≤ sizeLine := by simpa only [PyData.shown] using fit
  obtain ⟨bs, hbs, hk⟩ := ReprAllK.of_readsAll (prog := X.prog) (w := X.w) h4 hs hsm (fun t ht => Nat.le_trans (listText_mem_le ht) hz')
  have hna : a ∉ bs := not_mem_of_deeper (.list ho hc hda h4) (by simp only [PyData.depth]; omega) hbs
  simp only [PyData.shown] at q
  refine call_repr_slot (by omega) ⟨o, ho, hc⟩ F.slot_list_repr.toG ?_
  cases its with
  | nil =>
    cases h4
    simp only [PyData.shownAll, listText_nil] at q
    refine call_list_repr_empty (s := s) ⟨o, ho, hc⟩ ho hda ?_
    exact ⟨_, _, rfl, .str "[]", H, I.tok _, ⟨_, rfl⟩, q⟩
  | cons x l =>
    refine call_list_reprK ho hc hda hna (by simpa using hk.length_eq) (fun i y e => hk.item i y (by simpa using e)) hg (fun b _ => Clear.nil b) (by show X.A.units + 1 + _ < cLine; omega) (fun _ _ e => e) (fun h' u tk k => ?_) hz'
    exact ⟨_, _, rfl, .str (listText (PyData.shownAll ds)), H, I.kept k, ⟨u, rfl⟩, q⟩
section
variable {X : Cx} {CX : CXT} {k : Nat} {f C : Addr} {fd : FuncData} {ps ks : List Str} {sp : Sp} {E : XK} {m : Str} {apos pos : Pos} {o : Expr} {kws : List Keyword} {ta : TE} {tk : TA}
/-- o.m(k = v, ..), all by name -/
def tMethKW (C : Addr) (m : Str) (mm : Nat) (sp : Sp) (gV : List V → List V) (E : XK) (ta : TE) (tk : TA) : TE := fun σ H Q => ta σ H fun x H1 => ∃ a dx fs, x = .ref a ∧ H1 a = some (.ins C dx fs) ∧ fs.lookup m = none ∧ tk σ H1 fun zs H2 => zs.length = mm ∧ sp (x :: gV zs) H2 Q E
theorem pe_methKW0 {pl : Sem Bool} {gg : List Value → List Value} {hV : List V → List V} (he : PE X o ta) (c : Cls X.K C) (hm : Meth X.K C m f) (F : FnOk X.prog X.w X.K X.mg X.base CX k f fd ps sp) (hr : Room k X.A)
    (hb : ∀ (s : Shared) (a : Value) (ws : List Value), X.K.In s.heap → ws.length = ks.length → BindsTo s fd ⟨[a], ks.zip ws⟩ (ps.zip (a :: gg ws))) (hrel : ∀ {zs : List V} {ws : List Value}, zs.length = ks.length → Vals zs ws → Vals (hV zs) (gg ws))
    (hx : Passes CX X E) (hkw : PK X kws tk)
    (hall : (backToKw pos (keywordEach kws X.env)).all (·.1.isSome) = true := by rfl) (hks : (backToKw pos (keywordEach kws X.env)).filterMap (·.1) = ks := by rfl)
    (hpl : ((backTo pos (starEach [] X.env)).any (·.1) || (backToKw pos (keywordEach kws X.env)).any (·.1.isNone)) = false := by rfl)
    (ht : eval (.Call (.Attribute o m apos) [] kws pos) X.env = (do
      let ov ← eval o X.env
      standAt apos.atName
      let (f, first) ← holding [ov] (getMethod ov m pl)
      callWith pos f first (backTo pos (starEach [] X.env)) (backToKw pos (keywordEach kws X.env))) := by rfl) :
    PE X (.Call (.Attribute o m apos) [] kws pos) (tMethKW C m ks.length sp hV E ta tk) := by
  refine ⟨fun pins s σ H Q I h => ?_⟩
  refine PySem.W.methodCall_KW (pl := pl) (thn (he.run pins s σ H _ I h) fun u s1 ⟨x, H1, I1, rx, a, dx, fs, ex, ea, l, q⟩ => ?_) ht
  subst ex
  obtain rfl : u = Value.ref a := rx
  refine getmeth_ok I1 ea c hm l ?_
  refine PySem.W.callWith_KW0 (first := [.ref a]) (h₀ := X.base) I.ok.mod.kin hm.kp hall ?_ hpl
  refine thn (hkw.run pos pins s1 σ H1 _ I1 q) fun ws s2 ⟨zs, H2, I2, rz, l2, q2⟩ => ⟨I2.kIn, ?_⟩
  rw [hks]
  have lw : ws.length = ks.length := rz.length.symm.trans l2
  refine wpAny_call (codeAny_mono (F.run X.A X.stack s2 H2 ⟨[.ref a], ks.zip ws⟩ (.ref a :: gg ws) (.ref a :: hV zs) Q E hr I2.env0 (hb s2 _ ws I2.kIn lw) (.cons rfl (hrel l2 rz)) q2) fun r s' hq => ?_)
  cases r with
  | error er => exact hx pins σ H2 s2 er s' I2 hq
  | ok fl =>
    cases fl with
    | ret u => exact I2.after hq
    | next => exact False.elim hq
    | brk => exact False.elim hq
    | cont => exact False.elim hq
end
theorem Fun.kbM {K : PySem.W.Frag} {x qual : Str} {st : Stmt} {f : Addr} {fd : FuncData} {ps ks : List Str} {gg : List Value → List Value} (F : Fun K x qual st f fd)
    (h : ∀ (kV doc pm : Value) (an : Option Addr) (cdv ct : Value) (a : Value) (ws : List Value), ws.length = ks.length → bindArgs (PySem.W.fnOf x qual (defArgs st) (defBody st) (defScope st) .none kV doc pm an cdv ct) ⟨[a], ks.zip ws⟩ = pure (ps.zip (a :: gg ws))) :
    ∀ (s : Shared) (a : Value) (ws : List Value), K.In s.heap → ws.length = ks.length → BindsTo s fd ⟨[a], ks.zip ws⟩ (ps.zip (a :: gg ws)) := by
  obtain ⟨oc, od, kV, doc, pm, an, cdv, ct, osl, rfl, lk, hcd⟩ := F.ex
  exact fun s a ws _ hl => .of_eq (h kV doc pm an cdv ct a ws hl)
end L2.TT
namespace TR
open PySem PySem.Spec PyProof.Rows L2 L2.TT StX ClX
def spNbr (C : Addr) : Sp := fun vs H Q _ => ∃ (r : Addr) (tr : List E2) (v : Nat), vs = [.ref r, iv v] ∧ RailAt C H r tr ∧ v ≤ tr.length ∧ ∀ t, H t = some (.tup ((nb tr v).map iv)) → Q (.ref t) H
section
variable {P : Program} {w : World} {K : PySem.W.Frag} {mg : Str → Option Value} {base : Heap}
theorem sc_nbr : FnScope ["self", "station"] ["self", "station"] (defScope s_Railway_neighbours) := ⟨rfl, rfl, rfl, by decide +kernel, rfl, by decide +kernel, by decide +kernel⟩
theorem ok_nbr {f fc C : Addr} {fd fdc : FuncData} (F : Fun K "neighbours" "Railway.neighbours" s_Railway_neighbours f fd) (X : TxtR K mg C) (U : Use P w K mg base CX0 4 "check_station" fc fdc ["railway", "station"] (spChkSt C)) : FnOk P w K mg base CX0 5 f fd ["self", "station"] (spNbr C) := by
  refine F.ok sc_nbr (fun vs H Q E h => ?_) (fun cdv A outer s H vs Q E hr h => ?_)
  · obtain ⟨r, tr, v, rfl, _⟩ := h
    rfl
  · obtain ⟨r, tr, v, rfl, R, hv, k⟩ := h
    refine ⟨_, pss_cons (ps_expr (pe_use U hr rfl (pa_cons (pv 0) (pa_cons (pv 1) pa_nil)))) (pss_one (ps_ret (pe_ix ix_list (pe_fld (pv 0) rfl) (pv 1) (fun _ _ => rfl)))), ?_⟩
    obtain ⟨T, few, dx, tt, na, Aa, L, ps, ts, h1, h2, h3, h4, h5, h6, h7, h8⟩ := id R
    obtain ⟨t, ht⟩ : ∃ t, ts[v]? = some t := ⟨_, List.getElem?_eq_getElem (by omega)⟩
    exact ⟨_, rfl, _, rfl, r, tr, v, rfl, R, hv, _, rfl, r, C, dx, _, _, rfl, h1, X.cl, X.nN, flR_n, _, rfl, na, _, _, _, rfl, rfl, SqL.of h4, atN (map_get ht), k t (h6 v t ht)⟩
end
end TR
namespace L2.TT
open PySem PySem.Spec PyProof.Rows PySem.W
/-- the value v stands for d, and its repr is d's text -/
def SK (K : Frag) (H : Hp) (v : V) (d : PyData) : Prop := ∀ (X : Cx) (pins : List (Addr × Obj)) (σ : St) (s : Shared) (u : Value), X.K = K → Inv X pins σ H s → RelV v u →
  ∃ (bs as : List Addr), Reads s.heap u d as ∧ ReadAtMost s.heap d.depth bs ∧ ReprK X.prog X.w bs s.heap d.depth u d.shown
theorem SK.dp {K : Frag} {H : Hp} {v : V} {d : PyData} (h : Dp K H v d) (c : d.canLay0 = true) (hs : d.showable = true) (hz : d.shown.length ≤ sizeLine) : SK K H v d := fun X pins σ s u e I r => by
  subst e
  obtain ⟨as, q⟩ := Dp.reads I d v u h r
  obtain ⟨bs, h1, h2⟩ := ReprK.of_reads (prog := X.prog) (w := X.w) q hs (fun z => by rw [PyData.hasDict_of_canLay d c] at z; exact absurd z Bool.false_ne_true) hz
  exact ⟨bs, as, q, h1, h2⟩
theorem readMost_le {h : Heap} {n m : Nat} {bs : List Addr} (r : ReadAtMost h n bs) (l : n ≤ m) : ReadAtMost h m bs := fun b hb => let ⟨d, as, q, z⟩ := r b hb; ⟨d, as, q, Nat.le_trans z l⟩
theorem SK.all {K : Frag} {H : Hp} {X : Cx} {pins : List (Addr × Obj)} {σ : St} {s : Shared} (e : X.K = K) (I : Inv X pins σ H s) : ∀ {vs : List V} {ds : List PyData} {us : List Value}, Paired (SK K H) vs ds → Vals vs us →
    ∃ (bs as : List Addr), ReadsAll s.heap us ds as ∧ ReadAtMost s.heap (PyData.depthAll ds) bs ∧ ReprAllK X.prog X.w bs s.heap (PyData.depthAll ds) us (PyData.shownAll ds)
  | _, _, _, .nil, .nil => ⟨[], [], ReadsAll.nil, (fun _ hb => by cases hb), ReprAllK.nil⟩
  | _, _, _, @Paired.cons _ _ _ _ d _ ds f t, .cons r t2 => by
    obtain ⟨b1, a1, h1, h2, h3⟩ := f X pins σ s _ e I r
    obtain ⟨b2, a2, q1, q2, q3⟩ := SK.all e I t t2
    have l1 : d.depth ≤ PyData.depthAll (d :: ds) := by simp only [PyData.depthAll]; omega
    have l2 : PyData.depthAll ds ≤ PyData.depthAll (d :: ds) := by simp only [PyData.depthAll]; omega
    refine ⟨b1 ++ b2, a1 ++ a2, ReadsAll.cons h1 q1, fun b hb => ?_, ?_⟩
    · rcases List.mem_append.mp hb with hb | hb
      · exact readMost_le h2 l1 b hb
      · exact readMost_le q2 l2 b hb
    · exact ReprAllK.cons ((h3.more fun b hb => List.mem_append_left _ hb).level_le l1) (q3.more_le (fun b hb => List.mem_append_right _ hb) l2)
theorem SK.tup {K : Frag} {H : Hp} {a : Addr} {xs : List V} {ds : List PyData} (hx : SqT K H a xs) (h : Paired (SK K H) xs ds) (hz : (tupleText (PyData.shownAll ds)).length ≤ sizeLine) : SK K H (.ref a) (.tuple ds) := fun X pins σ s u e I r => by
  cases r
  subst e
  obtain ⟨its, rv, ⟨o, ho, hc, n, hda⟩, hl⟩ := I.tuple hx
  obtain ⟨bs, as, h1, h2, h3⟩ := SK.all rfl I h rv
  have R := Reads.tuple ho hc hda h1
  have hd : PyData.depth (.tuple ds) = PyData.depthAll ds + 1 := by simp only [PyData.depth]
  have hna : a ∉ bs := not_mem_of_deeper R (by rw [hd]; exact Nat.lt_succ_self _) h2
  refine ⟨a :: bs, as, R, fun b hb => ?_, ?_⟩
  · rcases List.mem_cons.mp hb with rfl | hb
    · exact ⟨_, _, R, Nat.le_refl _⟩
    · exact readMost_le h2 (by rw [hd]; exact Nat.le_succ _) b hb
  · rw [hd]
    simp only [PyData.shown]
    exact ReprK.tuple ho hc hda hna h3
end L2.TT
namespace TR
open PySem PySem.Spec PyProof.Rows L2 L2.TT StX ClX
def dpr (e : E2) : PyData := .tuple ([e.1, e.2].map di)
theorem dpAll_prs {K : PySem.W.Frag} {H : Hp} : ∀ {ps : List Addr} {l : List E2}, Prs H ps l → DpAll K H (ps.map V.ref) (l.map dpr)
  | [], [], _ => .nil
  | [], _ :: _, h => by cases h.1
  | _ :: _, [], h => by cases h.1
  | p :: ps, e :: l, h => by
    have h0 := h.2 0 p e rfl rfl
    exact .cons (.tup (SqT.of h0) (dpAll_ints [e.1, e.2])) (dpAll_prs ⟨Nat.succ.inj h.1, fun i q d a b => h.2 (i + 1) q d a b⟩)
theorem SW.take {tr : List E2} {a b x m : Nat} {l : List Nat} (s : SW tr a b l) (h : l[m]? = some x) : SW tr a x (l.take (m + 1)) := by
  have hm := (List.getElem?_eq_some_iff.mp h).1
  refine ⟨wk_pre (r := l.drop (m + 1)) (by rw [List.take_append_drop]; exact s.wk), s.nd.sublist (List.take_sublist _ _), ?_, ?_⟩
  · rw [List.head?_take, if_neg (by omega)]
    exact s.hd
  · rw [List.take_add_one, h]
    simp
theorem SW.drop {tr : List E2} {a b x k : Nat} {l : List Nat} (s : SW tr a b l) (h : l[k]? = some x) : SW tr x b (l.drop k) := by
  have hk := (List.getElem?_eq_some_iff.mp h)
  have e : l.drop k = x :: l.drop (k + 1) := by rw [List.drop_eq_getElem_cons hk.1, hk.2]
  rw [e]
  refine SW.part (l := l.take k) (a := a) ?_
  rw [← e, List.take_append_drop]
  exact s
theorem sw_two {tr : List E2} {a b : Nat} {l : List Nat} (s : SW tr a b l) (h : a ≠ b) : 2 ≤ l.length := by
  match l, s with
  | [], s => cases s.hd
  | [x], s =>
    have e1 : x = a := Option.some.inj s.hd
    have e2 : x = b := Option.some.inj s.lt
    exact absurd (e1.symm.trans e2) h
  | _ :: _ :: _, _ => simp
theorem sw_at0 {tr : List E2} {a b : Nat} {l : List Nat} (s : SW tr a b l) : l[0]? = some a := by
  rw [← List.head?_eq_getElem?]
  exact s.hd
theorem sw_atl {tr : List E2} {a b : Nat} {l : List Nat} (s : SW tr a b l) : l[l.length - 1]? = some b := by
  rw [← List.getLast?_eq_getElem?]
  exact s.lt
theorem sw_ne {tr : List E2} {a b x y i j : Nat} {l : List Nat} (s : SW tr a b l) (h1 : l[i]? = some x) (h2 : l[j]? = some y) (h : i ≠ j) : x ≠ y := by
  rintro rfl
  exact h ((idxOf_get s.nd h1).symm.trans (idxOf_get s.nd h2))
end TR
namespace TR
open PySem PySem.Spec PyProof.Rows L2 L2.TT StX ClX
theorem inlN {a b : Nat} : ((Sum.inl (a : Int) : Key) = Sum.inl (b : Int)) ↔ a = b := by
  constructor
  · intro h
    have := Sum.inl.inj h
    omega
  · rintro rfl
    rfl
/-- what a search from y has found: for each station the next one on the way to y -/
structure Bk (kvs : List (Key × V)) (tr : List E2) (y : Nat) (xs : List Nat) : Prop where
  len : kvs.length ≤ xs.length
  val : ∀ x ∈ xs, ∃ u l, valV kvs (Sum.inl (x : Int)) = some (iv u) ∧ SW tr x y l ∧ (∀ z ∈ l, z ∈ xs) ∧ (x ≠ y → ∃ l', l = x :: u :: l')
  non : ∀ x : Nat, x ∉ xs → valV kvs (Sum.inl (x : Int)) = none
theorem Bk.add {kvs : List (Key × V)} {tr : List E2} {y x u : Nat} {xs : List Nat} (k : Bk kvs tr y xs) (hx : x ∉ xs) (hu : u ∈ xs) (h : Adj tr x u) (hy : y ∈ xs) : Bk (putK kvs (Sum.inl (x : Int)) (iv u)) tr y (xs ++ [x]) := by
  refine ⟨?_, fun z hz => ?_, fun z hz => ?_⟩
  · rw [putK_new _ (k.non x hx), List.length_append, List.length_append]
    have := k.len
    show _ + 1 ≤ _ + 1
    omega
  · rcases mem_snoc.mp hz with hz | rfl
    · obtain ⟨u', l', h1, h2, h3, h4⟩ := k.val z hz
      have ne : z ≠ x := fun q => hx (q ▸ hz)
      exact ⟨u', l', by rw [valV_put, if_neg (fun q => ne (inlN.mp q))]; exact h1, h2, fun q hq => List.mem_append_left _ (h3 q hq), h4⟩
    · obtain ⟨_, l, _, s, h3, _⟩ := k.val u hu
      have hl : ∃ r, l = u :: r := by
        cases l with
        | nil => cases s.hd
        | cons a r => exact ⟨r, by rw [Option.some.inj s.hd]⟩
      obtain ⟨r, rfl⟩ := hl
      refine ⟨u, z :: u :: r, by rw [valV_put, if_pos rfl], ⟨⟨h, s.wk⟩, List.nodup_cons.mpr ⟨fun m => hx (h3 _ m), s.nd⟩, rfl, ?_⟩, fun q hq => ?_, fun _ => ⟨r, rfl⟩⟩
      · have := s.lt
        rw [List.getLast?_cons_cons]
        exact this
      · rcases List.mem_cons.mp hq with rfl | hq
        · simp
        · exact List.mem_append_left _ (h3 _ hq)
  · have h1 : z ∉ xs := fun q => hz (List.mem_append_left _ q)
    have h2 : z ≠ x := fun q => hz (by rw [q]; simp)
    rw [valV_put, if_neg (fun q => h2 (inlN.mp q))]
    exact k.non z h1
/-- the next station on the way -/
theorem Bk.next {kvs : List (Key × V)} {tr : List E2} (T : TreeL tr) {x y : Nat} {xs l : List Nat} (k : Bk kvs tr y xs) (s : SW tr x y l) (hl : ∀ z ∈ l, z ∈ xs) {i v : Nat} (hv : l[i]? = some v) (ne : v ≠ y) : ∃ u, valV kvs (Sum.inl (v : Int)) = some (iv u) ∧ l[i + 1]? = some u := by
  obtain ⟨u, l2, h1, h2, _, h4⟩ := k.val v (hl v (List.mem_of_getElem? hv))
  obtain ⟨r, e⟩ := h4 ne
  refine ⟨u, h1, ?_⟩
  have s2 := s.drop hv
  have e2 := SW.uniq T s2 h2
  rw [e] at e2
  have := congrArg (fun q => q[1]?) e2
  simp only [List.getElem?_drop] at this
  rw [this]
  rfl
end TR
namespace TR
open PySem PySem.Spec PyProof.Rows L2 L2.TT StX ClX
theorem Bf.popL {tr : List E2} {st sp : Nat} {xs ws : List Nat} (b : Bf tr st xs (ws ++ [sp])) : Bg tr st sp 0 xs ws :=
  ⟨b.st_, b.nd, b.le, fun q hq => b.sub q (List.mem_append_left _ hq), fun x hx hn ne => b.cl x hx (fun h => by rcases mem_snoc.mp h with h | h; exact hn h; exact ne h), b.sub sp (by simp), fun y hy => by rw [List.take_zero] at hy; cases hy⟩
theorem snoc_or (qs : List Nat) : qs = [] ∨ ∃ ws sp, qs = ws ++ [sp] := by
  rcases List.eq_nil_or_concat qs with h | ⟨ws, sp, h⟩
  · exact .inl h
  · exact .inr ⟨ws, sp, by rw [h, List.concat_eq_append]⟩
theorem eqv_snoc_nil (ws : List Nat) (sp : Nat) : PyData.eqv (.list ((ws ++ [sp]).map di)) (.list []) = false := by
  cases ws <;> rfl
def spBdy (K : PySem.W.Frag) : Sp := fun vs H Q _ => ∃ (a : Addr) (tr : List E2) (x y : Nat), vs = [.ref a, iv x, iv y] ∧ Ard K H a tr ∧ TreeL tr ∧ tr.length ≤ 999 ∧ x ≤ tr.length ∧ y ≤ tr.length ∧
  ∀ (p : Addr) (l : List Nat) (H' : Hp), Same H H' → H p = none → H' p = some (.lst (l.map iv)) → SW tr x y l → Q (.ref p) H'
section
variable {P : Program} {w : World} {K : PySem.W.Frag} {mg : Str → Option Value} {base : Heap}
abbrev N_sc_rt1 : List Str := ["links", "one", "two", "back", "left", "found", "here", "far"]
theorem sc_rt1 : FnScope N_sc_rt1 ["links", "one", "two"] (defScope s_law_route) := ⟨rfl, rfl, rfl, by decide +kernel, rfl, by decide +kernel, by decide +kernel⟩
theorem ok_rt1 {f : Addr} {fd : FuncData} (F : Fun K "_law_route" "_law_route" s_law_route f fd) : FnOk P w K mg base CX0 1 f fd ["links", "one", "two"] (spBdy K) := by
  refine F.ok sc_rt1 (fun vs H Q E h => ?_) (fun cdv A outer s H vs Q E hr h => ?_)
  · obtain ⟨a, tr, x, y, rfl, _⟩ := h
    rfl
  · obtain ⟨a, tr, x, y, rfl, hA, T, hl, hx, hy, k⟩ := h
    have hu := hu_of hr
    have hu64 : (A.deeper (envOfC "_law_route" (defScope s_law_route) s.heap.objs.size f cdv)).units + 64 < cLine := hr.units
    refine ⟨_, (pss_cons (ps_par3 (i := 3) (j := 4) (l := 5) (by rfl) sc_rt1.nd rfl rfl rfl (by decide) (by decide) (by decide) rfl rfl rfl (pa_cons (pe_disp (pps_cons (pv 1) (pv 1) pps_nil) (by rfl) (by rfl) (fun z => by cases z) (by decide)) (pa_cons (pe_lst (pa_cons (pv 1) pa_nil)) (pa_cons (pe_lst (pa_cons (pv 2) pa_nil)) pa_nil))) (by rfl))
        (pss_cons (ps_while PassesOwn.never (pt_cmpR (op_neD hu64) (pv 4) (pe_lst pa_nil) (nomark _))
          (pss_cons (ps_set (i := 6) sc_rt1.nd rfl (.inl rfl) (pe_bm0 PySem.F.plainAttrs_list PySem.F.slot_list_pop PySem.F.type_list_pop mt_pop (pv 4)))
          (pss_one (ps_for PassesOwn.never rfl (pi_list (pe_ix ix_list (pv 0) (pv 6) (fun _ _ => rfl))) (pg_name (i := 7) sc_rt1.nd rfl (.inl rfl))
            (pss_one (ps_if (pt_cmp (pc_dnotin (hu_of hr) (pv 7) (pv 3))) (pss_cons (ps_dput (hu_of hr) (pv 3) (pv 7) (pv 6) rfl)
              (pss_one (ps_expr (pe_bm PySem.F.plainAttrs_list PySem.F.slot_list_append PySem.F.type_list_append mt_append (pv 4) (pa_cons (pv 7) pa_nil))))) pss_nil))))))
        (pss_cons (ps_while PassesOwn.never (pt_cmpR op_ne (pe_ix ix_list (pv 5) (pe_un un_neg pe_int) (fun _ _ => rfl)) (pv 1) (nomark _))
          (pss_one (ps_expr (pe_bm PySem.F.plainAttrs_list PySem.F.slot_list_append PySem.F.type_list_append mt_append (pv 5) (pa_cons (pe_dget (hu_of hr) (pv 3) (pe_ix ix_list (pv 5) (pe_un un_neg pe_int) (fun _ _ => rfl)) (fun _ _ => rfl)) pa_nil)))))
        (pss_one (ps_ret (pe_revL (pv 5))))))), ?_⟩
    have one : (1 : Nat) ≤ sizeLine := by rw [sizeLine_eq]; decide
    refine fun p np => ⟨_, rfl, _, rfl, ⟨upd_same, [(Sum.inl (x : Int), iv x)], rfl, by show 1 ≤ 15; decide, ?_⟩⟩
    have e0 : mergeK [] [((Sum.inl (x : Int) : Key), iv x)] = [(Sum.inl (x : Int), iv x)] := rfl
    refine ⟨_, rfl, one, fun fr nfr => ⟨_, rfl, one, fun fd nfd => ⟨_, _, _, rfl, ?_⟩⟩⟩
    have s1 : Same H (upd (upd H p (.dK [])) p (.dK (mergeK [] [((Sum.inl (x : Int) : Key), iv x)]))) := same_old (same_upd np _) np _
    have hp1' : upd (upd H p (.dK [])) p (.dK (mergeK [] [((Sum.inl (x : Int) : Key), iv x)])) p = some (.dK [(Sum.inl (x : Int), iv x)]) := by rw [upd_same, e0]
    generalize upd (upd H p (.dK [])) p (.dK (mergeK [] [((Sum.inl (x : Int) : Key), iv x)])) = G1 at s1 hp1' nfr nfd ⊢
    have sf := same_upd nfr (.lst [iv x])
    have s2 := s1.trans sf
    have nfrH := s1.free nfr
    have hp2' := sf _ _ hp1'
    have hf2' : upd G1 fr (.lst [iv x]) fr = some (.lst ([x].map iv)) := by rw [upd_same]; rfl
    generalize upd G1 fr (.lst [iv x]) = G2 at s2 hp2' hf2' nfd ⊢
    have sg := same_upd nfd (.lst [iv y])
    have s0 := s2.trans sg
    have nfdH := s2.free nfd
    have hp0 := sg _ _ hp2'
    have hf0 := sg _ _ hf2'
    have ff : fr ≠ fd := ne_of_none hf2' nfd
    have pfd : p ≠ fd := ne_of_none hp2' nfd
    have hd0' := upd_same (H := G2) (a := fd) (o := .lst [iv y])
    generalize upd G2 fd (.lst [iv y]) = H0 at s0 hp0 hf0 hd0' ⊢
    clear e0 s1 nfr sf hp1' s2 hp2' hf2' sg nfd G1 G2
    have bk0 : Bk [(Sum.inl (x : Int), iv x)] tr x [x] := by
      refine ⟨Nat.le_refl _, fun z hz => ?_, fun z hz => ?_⟩
      · rw [List.mem_singleton] at hz
        subst hz
        exact ⟨z, [z], valV_pos rfl, SW.one z, fun q hq => hq, fun ne => absurd rfl ne⟩
      · have ne : z ≠ x := fun q => hz (by rw [q]; simp)
        rw [valV_neg (fun q => ne (inlN.mp q.symm))]
        rfl
    refine ⟨fun m σ H' => ∃ (kvs : List (Key × V)) (xs qs : List Nat) (x6 x7 : Option V), m = 2 * (tr.length + 1 - xs.length) + qs.length ∧ σ = [some (.ref a), some (iv x), some (iv y), some (.ref p), some (.ref fr), some (.ref fd), x6, x7] ∧ Same H H' ∧ H' p = some (.dK kvs) ∧ Bk kvs tr x xs ∧ H' fr = some (.lst (qs.map iv)) ∧ Bf tr x xs qs ∧ qs.length ≤ xs.length ∧ H' fd = some (.lst [iv y]),
      ⟨_, _, [x], [x], _, _, rfl, rfl, s0, hp0, bk0, hf0, Bf.start hx, Nat.le_refl _, hd0'⟩, ?_⟩
    clear s0 hp0 bk0 hf0 hd0' H0
    rintro m σ H1 ⟨kvs, xs, qs, x6, x7, rfl, rfl, s1, hp1, bk, hf1, bf, qx, hd1⟩
    refine ⟨_, rfl, by show 0 ≤ sizeLine; exact Nat.zero_le _, fun e ne => ⟨.list (qs.map di), .list [], .lst (SqL.of (same_upd ne _ _ _ hf1)) (dpAll_ints _), .lst (SqL.of upd_same) .nil, shaped_ints _, shaped_ints [], _, rfl, ?_⟩⟩
    have se := same_upd (H := H1) ne (.lst [])
    have s2 := s1.trans se
    have hp2 := se _ _ hp1
    have hf2 := se _ _ hf1
    have hd2 := se _ _ hd1
    generalize upd H1 e (.lst []) = H2 at se s2 hp2 hf2 hd2
    clear s1 hp1 hf1 hd1 ne se H1
    rcases snoc_or qs with rfl | ⟨ws, sp, rfl⟩
    · refine iteF ?_
      have cx : y ∈ xs := bf.all T y hy
      obtain ⟨u, l, v1, sw, hlx, _⟩ := bk.val y cx
      have ll := sw_len T sw hy
      have hd0 := sw_at0 sw
      have t0 : l.take 1 = [y] := by
        cases l with
        | nil => cases hd0
        | cons z r => cases hd0; rfl
      have hf2 : H2 fd = some (.lst ((l.take (0 + 1)).map iv)) := by rw [hd2, t0]; rfl
      refine ⟨fun m σ H' => ∃ (i v : Nat), m = l.length - i ∧ σ = [some (.ref a), some (iv x), some (iv y), some (.ref p), some (.ref fr), some (.ref fd), x6, x7] ∧ Same H H' ∧ H' p = some (.dK kvs) ∧ l[i]? = some v ∧ H' fd = some (.lst ((l.take (i + 1)).map iv)),
        ⟨_, 0, y, rfl, rfl, s2, hp2, hd0, hf2⟩, ?_⟩
      rintro m σ H3 ⟨i, v, rfl, rfl, s3, hp3, hv, hf3⟩
      have il : i < l.length := (List.getElem?_eq_some_iff.mp hv).1
      have lastv : atI ((l.take (i + 1)).map iv) (-1) = some (iv v) := by
        rw [take_snoc hv]
        exact at_last
      refine ⟨_, rfl, _, rfl, fd, _, _, _, rfl, rfl, SqL.of hf3, lastv, _, rfl, rfl, _, rfl, ?_⟩
      by_cases cy : v = x
      · rw [show (!decide (iv v = iv x)) = false from by simp [cy]]
        refine iteF ?_
        have ei : i = l.length - 1 := Classical.byContradiction fun z => sw_ne sw hv (sw_atl sw) z cy
        rw [List.take_of_length_le (by omega)] at hf3
        refine ⟨_, rfl, fd, _, rfl, SqL.of hf3, fun q nq => ?_⟩
        refine k q l.reverse _ (s3.trans (same_upd nq _)) (s3.free nq) ?_ sw.rev
        rw [upd_same, List.map_reverse]
      · rw [show (!decide (iv v = iv x)) = true from by
          rw [decide_eq_false (fun z => cy (iv_inj.mp z))]
          rfl]
        refine iteT ?_
        refine ⟨fun σ' H' => ∃ (i' v' : Nat), l.length - i' < l.length - i ∧ σ' = [some (.ref a), some (iv x), some (iv y), some (.ref p), some (.ref fr), some (.ref fd), x6, x7] ∧ Same H H' ∧ H' p = some (.dK kvs) ∧ l[i']? = some v' ∧ H' fd = some (.lst ((l.take (i' + 1)).map iv)),
          fun σ' H' ⟨i', v', lt, r⟩ => ⟨_, lt, i', v', rfl, r⟩, ?_⟩
        obtain ⟨u', g1, g2⟩ := bk.next T sw hlx hv cy
        have g4 : DGet H3 p (kV (Sum.inl (v : Int))) (some (iv u')) := by rw [← g1]; exact DGet.k hp3
        refine ⟨_, rfl, .inl ⟨rfl, _, SqL.of hf3⟩, _, rfl, _, rfl, _, rfl, fd, _, _, _, rfl, rfl, SqL.of hf3, lastv, p, _, rfl, g4, ?_⟩
        refine ⟨fd, _, _, rfl, rfl, hf3, by rw [List.length_map, List.length_take, sizeLine_eq]; omega, ?_⟩
        refine ⟨i + 1, u', by omega, rfl, same_old s3 nfdH _, by rw [upd_ne pfd]; exact hp3, g2, ?_⟩
        rw [upd_same, take_snoc g2, List.map_append]
        rfl
    · have nz : ws ++ [sp] ≠ [] := by simp
      rw [show PyData.eqv (.list ((ws ++ [sp]).map di)) (.list []) = false from eqv_snoc_nil ws sp]
      refine iteT ?_
      refine ⟨fun σ' H' => ∃ (kvs : List (Key × V)) (xs' qs' : List Nat) (x6 x7 : Option V), 2 * (tr.length + 1 - xs'.length) + qs'.length < 2 * (tr.length + 1 - xs.length) + (ws ++ [sp]).length ∧ σ' = [some (.ref a), some (iv x), some (iv y), some (.ref p), some (.ref fr), some (.ref fd), x6, x7] ∧ Same H H' ∧ H' p = some (.dK kvs) ∧ Bk kvs tr x xs' ∧ H' fr = some (.lst (qs'.map iv)) ∧ Bf tr x xs' qs' ∧ qs'.length ≤ xs'.length ∧ H' fd = some (.lst [iv y]),
        fun σ' H' ⟨kvs, xs', qs', x6, x7, lt, r⟩ => ⟨_, lt, kvs, xs', qs', x6, x7, rfl, r⟩, ?_⟩
      have pf : fr ≠ p := ne_of hf2 hp2 (by intro z; cases z)
      have e1 : ((ws ++ [sp]).map iv).dropLast = ws.map iv := by rw [List.map_append]; exact List.dropLast_concat
      have e2 : ((ws ++ [sp]).map iv)[((ws ++ [sp]).map iv).length - 1]? = some (iv sp) := by
        rw [List.length_map, List.length_append, List.length_singleton, Nat.add_sub_cancel, List.map_append, List.getElem?_append_right (by rw [List.length_map]; exact Nat.le_refl _), List.length_map, Nat.sub_self]
        rfl
      refine ⟨_, rfl, .inl ⟨rfl, _, SqL.of hf2⟩, fr, _, _, rfl, rfl, hf2, e2, ?_⟩
      rw [e1]
      have s3 := same_old s2 nfrH (.lst (ws.map iv))
      have hp3 : upd H2 fr (.lst (ws.map iv)) p = some (.dK kvs) := by rw [upd_ne pf.symm]; exact hp2
      have hd3 : upd H2 fr (.lst (ws.map iv)) fd = some (.lst [iv y]) := by rw [upd_ne ff.symm]; exact hd2
      have hf3 := upd_same (H := H2) (a := fr) (o := .lst (ws.map iv))
      generalize upd H2 fr (.lst (ws.map iv)) = H3 at s3 hp3 hf3 hd3 ⊢
      clear s2 hp2 hf2 hd2 e1 e2 H2
      rw [List.length_append, List.length_singleton] at qx
      have bl := bf.len
      have bg := bf.popL
      have spl := bg.le sp bg.sp_
      obtain ⟨rs, t, r1, r2, r3⟩ := hA.row spl
      have tg := ne_of_none r3 nfrH
      have td := ne_of_none r3 nfdH
      have r3' := s3 _ _ r3
      refine ⟨_, rfl, _, rfl, a, _, _, _, rfl, rfl, s3.seq r1, atN r2, t, rfl, ⟨_, SqL.of r3'⟩, for_list (K := K) (a := t) (xs := (nb tr sp).map iv) (fun j σ H' => ∃ (kvs : List (Key × V)) (xs' gs : List Nat) (x7 : Option V), σ = [some (.ref a), some (iv x), some (iv y), some (.ref p), some (.ref fr), some (.ref fd), some (iv sp), x7] ∧ Same H H' ∧ H' p = some (.dK kvs) ∧ Bk kvs tr x xs' ∧ H' fr = some (.lst (gs.map iv)) ∧ H' t = some (.lst ((nb tr sp).map iv)) ∧ t ≠ fr ∧ (xs'.length + ws.length = xs.length + gs.length ∧ xs.length ≤ xs'.length) ∧ Bg tr x sp j xs' gs ∧ H' fd = some (.lst [iv y]))
        ⟨kvs, xs, ws, _, rfl, s3, hp3, bk, hf3, r3', tg, ⟨rfl, Nat.le_refl _⟩, bg, hd3⟩ (fun j σ H' _ ⟨_, _, _, _, _, _, _, _, _, h, _⟩ => SqL.of h) ?_ ?_⟩
      · rintro j w σ H4 hw ⟨kvs, xs', gs, x7, rfl, s4, hp4, bk4, hf4, ht4, _, lg, bg, hd4⟩
        obtain ⟨z, hz, rfl⟩ := map_got hw
        refine ⟨_, rfl, _, rfl, p, _, rfl, DGet.k (k := Sum.inl (z : Int)) hp4, _, rfl, ?_⟩
        by_cases cz : z ∈ xs'
        · obtain ⟨u, l, v1, _⟩ := bk4.val z cz
          rw [v1]
          refine iteF ?_
          exact ⟨kvs, xs', gs, _, rfl, s4, hp4, bk4, hf4, ht4, tg, lg, bg.skip hz cz, hd4⟩
        · rw [bk4.non z cz]
          refine iteT ?_
          have ha : Adj tr sp z := (mem_nb T.ne).mp (List.mem_of_getElem? hz)
          have bg2 := bg.add T hz cz
          have bl2 := bg2.len
          rw [List.length_append, List.length_singleton] at bl2
          have bkl := bk4.len
          refine ⟨_, rfl, _, rfl, _, rfl, p, _, rfl, DPut.k (k := Sum.inl (z : Int)) hp4 (by rw [sizeLine_eq]; omega), ?_⟩
          have bk5 := bk4.add cz bg.sp_ ha.sym bg.st_
          have s5 := same_old s4 np (.dK (putK kvs (Sum.inl (z : Int)) (iv sp)))
          have hp5 := upd_same (H := H4) (a := p) (o := .dK (putK kvs (Sum.inl (z : Int)) (iv sp)))
          have hf5 : upd H4 p (.dK (putK kvs (Sum.inl (z : Int)) (iv sp))) fr = some (.lst (gs.map iv)) := by rw [upd_ne pf]; exact hf4
          have ht5 : upd H4 p (.dK (putK kvs (Sum.inl (z : Int)) (iv sp))) t = some (.lst ((nb tr sp).map iv)) := by rw [upd_ne (ne_of ht4 hp4 (by intro z; cases z))]; exact ht4
          have hd5 : upd H4 p (.dK (putK kvs (Sum.inl (z : Int)) (iv sp))) fd = some (.lst [iv y]) := by rw [upd_ne pfd.symm]; exact hd4
          generalize upd H4 p (.dK (putK kvs (Sum.inl (z : Int)) (iv sp))) = H5 at s5 hp5 hf5 ht5 hd5
          refine ⟨_, rfl, .inl ⟨rfl, _, SqL.of hf5⟩, _, rfl, fr, _, _, rfl, rfl, hf5, by rw [List.length_map, sizeLine_eq]; omega, ?_⟩
          exact ⟨_, xs' ++ [z], gs ++ [z], _, rfl, same_old s5 nfrH _, by rw [upd_ne pf.symm]; exact hp5, bk5, by rw [upd_same, List.map_append]; rfl, by rw [upd_ne tg]; exact ht5, tg, by rw [List.length_append, List.length_append]; simp; omega, bg2, by rw [upd_ne ff.symm]; exact hd5⟩
      · rintro σ H4 ⟨kvs, xs', gs, x7, rfl, s4, hp4, bk4, hf4, ht4, _, lg, bg, hd4⟩
        rw [List.length_map] at bg
        have b2 := bg.back T
        have bl2 := b2.len
        refine ⟨kvs, xs', gs, _, _, ?_, rfl, s4, hp4, bk4, hf4, b2, by omega, hd4⟩
        rw [List.length_append, List.length_singleton]
        omega
end
end TR
namespace TR
open PySem PySem.Spec PyProof.Rows L2 L2.TT StX ClX
def spIsStd (C : Addr) (K : PySem.W.Frag) : Sp := fun vs H Q _ => ∃ (r : Addr) (tr : List E2) (v : V) (o : Option (V × V)), vs = [.ref r, v] ∧ RailAt C H r tr ∧ PV K H v o ∧ Q (.bl (isPr o ((tr.length : Int) + 1))) H
def spChkStd (C : Addr) : Sp := fun vs H Q _ => ∃ (r t : Addr) (tr : List E2) (a b : Nat), vs = [.ref r, .ref t] ∧ RailAt C H r tr ∧ H t = some (.tup [iv a, iv b]) ∧ a ≤ tr.length ∧ b ≤ tr.length ∧ a ≠ b ∧ Q .non H
def spBody (C : Addr) : Sp := fun vs H Q _ => ∃ (r t : Addr) (tr : List E2) (a b : Nat), vs = [.ref r, .ref t] ∧ RailAt C H r tr ∧ H t = some (.tup [iv a, iv b]) ∧ a ≤ tr.length ∧ b ≤ tr.length ∧ a ≠ b ∧
  ∀ (l : List Nat) (p : Addr) (H' : Hp), SW tr a b l → Same H H' → H p = none → H' p = some (.tup (l.map iv)) → Q (.ref p) H'
section
variable {P : Program} {w : World} {K : PySem.W.Frag} {mg : Str → Option Value} {base : Heap}
theorem sc_isstd : FnScope ["railway", "value"] ["railway", "value"] (defScope s_is_standing) := ⟨rfl, rfl, rfl, by decide +kernel, rfl, by decide +kernel, by decide +kernel⟩
theorem ok_isstd {f fI C p g : Addr} {fd fdI fdS : FuncData} (F : Fun K "is_standing" "is_standing" s_is_standing f fd) (U : Use P w K mg base CX0 3 "is_pair_of_stations" fI fdI ["value", "size"] (spPair K)) (Z : SizeOf P w K mg base C p g fdS) : FnOk P w K mg base CX0 4 f fd ["railway", "value"] (spIsStd C K) := by
  refine F.ok sc_isstd (fun vs H Q E h => ?_) (fun cdv A outer s H vs Q E hr h => ?_)
  · obtain ⟨r, tr, v, o, rfl, _⟩ := h
    rfl
  · obtain ⟨r, tr, v, o, rfl, R, hv, k⟩ := h
    refine ⟨_, pss_one (ps_ret (pe_use U hr rfl (pa_cons (pv 1) (pa_cons (pe_prop (pv 0) Z.cl Z.hp Z.G (hr.mono (by decide)) Z.b .nil pass0 rfl) pa_nil)))), ?_⟩
    obtain ⟨T, few, dx, tt, na, Aa, L, ps, ts, h1, h2⟩ := id R
    exact ⟨_, rfl, _, rfl, r, dx, _, rfl, h1, r, tr, rfl, R, v, _, o, rfl, hv, k⟩
theorem sc_chkstd : FnScope ["railway", "standing"] ["railway", "standing"] (defScope s_check_standing) := ⟨rfl, rfl, rfl, by decide +kernel, rfl, by decide +kernel, by decide +kernel⟩
theorem ok_chkstd {f fI C : Addr} {fd fdI : FuncData} (F : Fun K "check_standing" "check_standing" s_check_standing f fd) (U : Use P w K mg base CX0 4 "is_standing" fI fdI ["railway", "value"] (spIsStd C K)) : FnOk P w K mg base CX0 5 f fd ["railway", "standing"] (spChkStd C) := by
  refine F.ok sc_chkstd (fun vs H Q E h => ?_) (fun cdv A outer s H vs Q E hr h => ?_)
  · obtain ⟨r, t, tr, a, b, rfl, _⟩ := h
    rfl
  · obtain ⟨r, t, tr, a, b, rfl, R, ht, ha, hb, ne, k⟩ := h
    refine ⟨_, pss_one (ps_if (pt_not (pt_val (pe_use U hr rfl (pa_cons (pv 0) (pa_cons (pv 1) pa_nil))))) pss_never pss_nil), ?_⟩
    refine ⟨_, rfl, _, rfl, r, tr, _, _, rfl, R, .two ht (.inl ⟨_, rfl⟩) (.inl ⟨_, rfl⟩), _, rfl, ?_⟩
    rw [show isPr (some (iv a, iv b)) ((tr.length : Int) + 1) = true from isPr_ok (n := tr.length + 1) (by omega) (by omega) ne]
    exact iteF k
abbrev NSt : List Str := ["railway", "standing", "head", "tail"]
theorem sc_body : FnScope NSt ["railway", "standing"] (defScope s_body_of) := ⟨rfl, rfl, rfl, by decide +kernel, rfl, by decide +kernel, by decide +kernel⟩
theorem ok_body {f fI fp C : Addr} {fd fdI fdp : FuncData} (F : Fun K "body_of" "body_of" s_body_of f fd) (X : TxtR K mg C) (U : Use P w K mg base CX0 5 "check_standing" fI fdI ["railway", "standing"] (spChkStd C)) (m : Meth K C "path" fp) (G : FnOk P w K mg base CX0 5 fp fdp ["self", "one", "other"] (spPath C)) (bp : Binds K fdp ["self", "one", "other"] []) :
    FnOk P w K mg base CX0 6 f fd ["railway", "standing"] (spBody C) := by
  refine F.ok sc_body (fun vs H Q E h => ?_) (fun cdv A outer s H vs Q E hr h => ?_)
  · obtain ⟨r, t, tr, a, b, rfl, _⟩ := h
    rfl
  · obtain ⟨r, t, tr, a, b, rfl, R, ht, ha, hb, ne, k⟩ := h
    refine ⟨_, pss_cons (ps_expr (pe_use U hr rfl (pa_cons (pv 0) (pa_cons (pv 1) pa_nil))))
      (pss_cons (ps_asg (pv 1) (pg_tup rfl (pgs_cons (pg_name (i := 2) sc_body.nd rfl (.inl rfl)) (pgs_cons (pg_name (i := 3) sc_body.nd rfl (.inl rfl)) pgs_nil))))
      (pss_one (ps_ret (pe_meth (pv 0) X.cl m G hr bp .nil pass0 (pa_cons (pv 2) (pa_cons (pv 3) pa_nil)))))), ?_⟩
    obtain ⟨T, few, dx, tt, na, Aa, L, ps, ts, h1, h2⟩ := id R
    refine ⟨_, rfl, _, rfl, r, t, tr, a, b, rfl, R, ht, ha, hb, ne, ?_⟩
    refine ⟨_, rfl, t, _, rfl, SqT.of ht, rfl, ?_⟩
    refine ⟨_, _, rfl, _, _, rfl, rfl, ?_⟩
    exact ⟨_, rfl, r, dx, _, rfl, h1, flR_no (by decide +kernel) (by decide +kernel) (by decide +kernel) (by decide +kernel), _, rfl, _, rfl, r, tr, a, b, rfl, R, ha, hb, k⟩
end
end TR
namespace TR
/-- a move: whether the head makes it, the station that it goes to -/
abbrev Mv := Bool × Nat
def hd0 (l : List Nat) : Nat := l.headD 0
def lt0 (l : List Nat) : Nat := l.getLastD 0
def endM (l : List Nat) (e : Bool) : Nat := if e then hd0 l else lt0 l
def aft (l : List Nat) (m : Mv) : List Nat := if m.1 then m.2 :: l.dropLast else l.tail ++ [m.2]
def fre (tr : List E2) (l : List Nat) (e : Bool) : List Nat := (nb tr (endM l e)).filter fun w => decide (w ∉ l)
def poss (tr : List E2) (l : List Nat) : List Mv := (fre tr l true).map (fun w => (true, w)) ++ (fre tr l false).map (fun w => (false, w))
def oppM (l : List Nat) (e : Bool) : Mv := if e then (false, lt0 l) else (true, hd0 l)
/-- a move is possible -/
def canM (tr : List E2) (l : List Nat) (m : Mv) : Bool := decide (m.2 ∈ fre tr l m.1)
/-- the body of a standing -/
structure Bd (tr : List E2) (l : List Nat) : Prop where
  sw : SW tr (hd0 l) (lt0 l) l
  two : 2 ≤ l.length
  le : ∀ x ∈ l, x ≤ tr.length
section
variable {tr : List E2}
theorem hd0_of {l : List Nat} {a : Nat} (h : l.head? = some a) : hd0 l = a := by
  cases l with
  | nil => cases h
  | cons x r => exact Option.some.inj h
theorem lt0_of {l : List Nat} {a : Nat} (h : l.getLast? = some a) : lt0 l = a := by
  unfold lt0
  rw [List.getLastD_eq_getLast?, h]
  rfl
theorem sw_bd (T : TreeL tr) {a b : Nat} {l : List Nat} (s : SW tr a b l) (ha : a ≤ tr.length) (ne : a ≠ b) : Bd tr l ∧ hd0 l = a ∧ lt0 l = b := by
  have e1 := hd0_of s.hd
  have e2 := lt0_of s.lt
  refine ⟨⟨by rw [e1, e2]; exact s, sw_two s ne, sw_le T s ha⟩, e1, e2⟩
theorem Bd.hne {l : List Nat} (b : Bd tr l) : l ≠ [] := fun z => by
  have := b.two
  rw [z] at this
  exact absurd this (by decide)
theorem Bd.ne {l : List Nat} (b : Bd tr l) : hd0 l ≠ lt0 l := by
  have h0 := sw_at0 b.sw
  have h1 := sw_atl b.sw
  have := b.two
  exact sw_ne b.sw h0 h1 (by omega)
theorem Bd.hle {l : List Nat} (b : Bd tr l) : hd0 l ≤ tr.length := b.le _ (List.mem_of_getElem? (sw_at0 b.sw))
theorem Bd.lle {l : List Nat} (b : Bd tr l) : lt0 l ≤ tr.length := b.le _ b.sw.mem
theorem hd0_rev {l : List Nat} : hd0 l.reverse = lt0 l := by
  unfold hd0 lt0
  rw [List.headD_eq_head?_getD, List.head?_reverse, List.getLastD_eq_getLast?]
theorem lt0_rev {l : List Nat} : lt0 l.reverse = hd0 l := by
  have := hd0_rev (l := l.reverse)
  rw [List.reverse_reverse] at this
  exact this.symm
theorem Bd.rev {l : List Nat} (b : Bd tr l) : Bd tr l.reverse :=
  ⟨by rw [hd0_rev, lt0_rev]; exact b.sw.rev, by rw [List.length_reverse]; exact b.two, fun x hx => b.le x (List.mem_reverse.mp hx)⟩
theorem Bd.eq (T : TreeL tr) {l m : List Nat} (b : Bd tr l) (c : Bd tr m) (h1 : hd0 l = hd0 m) (h2 : lt0 l = lt0 m) : l = m := by
  have s := c.sw
  rw [← h1, ← h2] at s
  exact SW.uniq T b.sw s
theorem mem_fre (T : TreeL tr) {l : List Nat} {e : Bool} {w : Nat} : w ∈ fre tr l e ↔ Adj tr (endM l e) w ∧ w ∉ l := by
  unfold fre
  rw [List.mem_filter, mem_nb T.ne, decide_eq_true_iff]
theorem mem_poss {l : List Nat} {m : Mv} : m ∈ poss tr l ↔ m.2 ∈ fre tr l m.1 := by
  obtain ⟨e, w⟩ := m
  unfold poss
  rw [List.mem_append, List.mem_map, List.mem_map]
  constructor
  · rintro (⟨x, hx, h⟩ | ⟨x, hx, h⟩)
    · cases h; exact hx
    · cases h; exact hx
  · intro h
    cases e with
    | true => exact .inl ⟨w, h, rfl⟩
    | false => exact .inr ⟨w, h, rfl⟩
/-- a body is a list with both ends -/
theorem bd_cons {l : List Nat} (h : 2 ≤ l.length) : ∃ a r, l = a :: r ∧ r ≠ [] := by
  match l, h with
  | a :: b :: r, _ => exact ⟨a, b :: r, rfl, by simp⟩
theorem bd_snoc {l : List Nat} (h : 2 ≤ l.length) : ∃ r b, l = r ++ [b] ∧ r ≠ [] := by
  have hne : l ≠ [] := fun z => by rw [z] at h; exact absurd h (by decide)
  refine ⟨l.dropLast, l.getLast hne, (List.dropLast_concat_getLast hne).symm, fun z => ?_⟩
  have := congrArg List.length z
  rw [List.length_dropLast, List.length_nil] at this
  omega
theorem lt0_snoc {r : List Nat} {b : Nat} : lt0 (r ++ [b]) = b := lt0_of (by simp)
theorem wk_init {r : List Nat} {b : Nat} (h : Wk tr (r ++ [b])) : Wk tr r := by
  have h2 := h.rev
  rw [List.reverse_append] at h2
  have h3 := (Wk.tail (l := r.reverse) h2).rev
  rw [List.reverse_reverse] at h3
  exact h3
theorem Bd.aft_head (T : TreeL tr) {l : List Nat} (b : Bd tr l) {w : Nat} (h : w ∈ fre tr l true) : Bd tr (w :: l.dropLast) ∧ hd0 (w :: l.dropLast) = w ∧ (w :: l.dropLast).length = l.length := by
  obtain ⟨ha, hn⟩ := (mem_fre T).mp h
  obtain ⟨r, z, e, hr⟩ := bd_snoc b.two
  have hd : (w :: l.dropLast).length = l.length := by
    rw [List.length_cons, List.length_dropLast]
    have := b.two
    omega
  subst e
  rw [List.dropLast_concat] at hd ⊢
  have ha : Adj tr (hd0 (r ++ [z])) w := ha
  obtain ⟨x, r', rfl⟩ := List.exists_cons_of_ne_nil hr
  have hx : hd0 (x :: r' ++ [z]) = x := rfl
  rw [hx] at ha
  have wk := wk_init b.sw.wk
  have nd := (List.nodup_append.mp b.sw.nd).1
  have hl : ((w :: x :: r').getLast?) = some (lt0 (w :: x :: r')) := by
    unfold lt0
    rw [List.getLastD_eq_getLast?]
    cases hh : (w :: x :: r').getLast? with
    | none => simp at hh
    | some z => rfl
  refine ⟨⟨⟨⟨ha.sym, wk⟩, List.nodup_cons.mpr ⟨fun m => hn (List.mem_append_left _ m), nd⟩, rfl, hl⟩, by rw [hd]; exact b.two, fun y hy => ?_⟩, rfl, hd⟩
  rcases List.mem_cons.mp hy with rfl | hy
  · exact (T.adj_le ha).2
  · exact b.le y (List.mem_append_left _ hy)
theorem Bd.aft_tail (T : TreeL tr) {l : List Nat} (b : Bd tr l) {w : Nat} (h : w ∈ fre tr l false) : Bd tr (l.tail ++ [w]) ∧ lt0 (l.tail ++ [w]) = w ∧ (l.tail ++ [w]).length = l.length := by
  obtain ⟨ha, hn⟩ := (mem_fre T).mp h
  have h2 : w ∈ fre tr l.reverse true := by
    refine (mem_fre T).mpr ⟨?_, fun m => hn (List.mem_reverse.mp m)⟩
    show Adj tr (hd0 l.reverse) w
    rw [hd0_rev]
    exact ha
  obtain ⟨c, _, hl⟩ := b.rev.aft_head T h2
  have e : (w :: l.reverse.dropLast).reverse = l.tail ++ [w] := by
    rw [List.reverse_cons]
    congr 1
    rw [← List.tail_reverse, List.reverse_reverse]
  refine ⟨e ▸ c.rev, lt0_snoc, ?_⟩
  rw [← e, List.length_reverse, hl, List.length_reverse]
theorem Bd.aft (T : TreeL tr) {l : List Nat} (b : Bd tr l) {m : Mv} (h : canM tr l m = true) : Bd tr (aft l m) ∧ (aft l m).length = l.length := by
  obtain ⟨e, w⟩ := m
  have h := of_decide_eq_true h
  cases e with
  | true => exact ⟨(b.aft_head T h).1, (b.aft_head T h).2.2⟩
  | false => exact ⟨(b.aft_tail T h).1, (b.aft_tail T h).2.2⟩
/-- the opposite move is possible behind a move and takes it back -/
theorem Bd.back (T : TreeL tr) {l : List Nat} (b : Bd tr l) {m : Mv} (h : canM tr l m = true) : canM tr (TR.aft l m) (oppM l m.1) = true ∧ TR.aft (TR.aft l m) (oppM l m.1) = l := by
  have key : ∀ {l : List Nat} (b : Bd tr l) {w : Nat}, w ∈ fre tr l true → lt0 l ∈ fre tr (w :: l.dropLast) false ∧ l.dropLast ++ [lt0 l] = l := by
    intro l b w h
    obtain ⟨c, _, _⟩ := b.aft_head T h
    obtain ⟨ha, hn⟩ := (mem_fre T).mp h
    obtain ⟨r, z, e, hr⟩ := bd_snoc b.two
    subst e
    rw [List.dropLast_concat] at c ⊢
    rw [lt0_snoc]
    refine ⟨(mem_fre T).mpr ⟨?_, fun m => ?_⟩, rfl⟩
    · obtain ⟨r', y, rfl⟩ : ∃ r' y, r = r' ++ [y] := ⟨r.dropLast, r.getLast hr, (List.dropLast_concat_getLast hr).symm⟩
      show Adj tr (lt0 (w :: (r' ++ [y]))) z
      have e2 : lt0 (w :: (r' ++ [y])) = y := lt0_of (by rw [← List.cons_append, List.getLast?_append]; rfl)
      rw [e2]
      have wk := b.sw.wk.rev
      rw [List.reverse_append, List.reverse_append] at wk
      exact wk.1.sym
    · rcases List.mem_cons.mp m with rfl | m
      · exact hn (by simp)
      · have nd := List.nodup_append.mp b.sw.nd
        exact nd.2.2 z m z (by simp) rfl
  obtain ⟨e, w⟩ := m
  have h := of_decide_eq_true h
  cases e with
  | true =>
    obtain ⟨k1, k2⟩ := key b h
    exact ⟨decide_eq_true k1, k2⟩
  | false =>
    obtain ⟨ha, hn⟩ := (mem_fre T).mp h
    have h2 : w ∈ fre tr l.reverse true := by
      refine (mem_fre T).mpr ⟨?_, fun m => hn (List.mem_reverse.mp m)⟩
      show Adj tr (hd0 l.reverse) w
      rw [hd0_rev]
      exact ha
    obtain ⟨k1, k2⟩ := key b.rev h2
    have e1 : (w :: l.reverse.dropLast).reverse = l.tail ++ [w] := by
      rw [List.reverse_cons]
      congr 1
      rw [← List.tail_reverse, List.reverse_reverse]
    refine ⟨decide_eq_true ?_, ?_⟩
    · show hd0 l ∈ fre tr (l.tail ++ [w]) true
      obtain ⟨k3, k4⟩ := (mem_fre T).mp k1
      rw [lt0_rev] at k3 k4
      refine (mem_fre T).mpr ⟨?_, fun m => k4 ?_⟩
      · show Adj tr (hd0 (l.tail ++ [w])) (hd0 l)
        rw [← e1, hd0_rev]
        exact k3
      · rw [← e1] at m
        exact List.mem_reverse.mp m
    · show hd0 l :: (l.tail ++ [w]).dropLast = l
      rw [List.dropLast_concat]
      obtain ⟨a, r, rfl, _⟩ := bd_cons b.two
      rfl
/-- the moves made one after the other: the bodies, or the index of the first one that is not possible -/
def runM (tr : List E2) : List Nat → List Mv → List (List Nat)
  | l, [] => [l]
  | l, m :: ms => l :: runM tr (aft l m) ms
/-- all moves are possible -/
def okM (tr : List E2) : List Nat → List Mv → Bool
  | _, [] => true
  | l, m :: ms => canM tr l m && okM tr (aft l m) ms
def endB : List Nat → List Mv → List Nat
  | l, [] => l
  | l, m :: ms => endB (aft l m) ms
theorem endB_app : ∀ (ms ns : List Mv) (l : List Nat), endB l (ms ++ ns) = endB (endB l ms) ns
  | [], _, _ => rfl
  | m :: ms, ns, l => endB_app ms ns (aft l m)
theorem okM_app : ∀ (ms ns : List Mv) (l : List Nat), okM tr l (ms ++ ns) = (okM tr l ms && okM tr (endB l ms) ns)
  | [], _, _ => by rw [okM]; rfl
  | m :: ms, ns, l => by
    show (canM tr l m && okM tr (aft l m) (ms ++ ns)) = (canM tr l m && okM tr (aft l m) ms && okM tr (endB (aft l m) ms) ns)
    rw [okM_app ms ns (aft l m), Bool.and_assoc]
theorem bodyAt_take (l : List Nat) (ms : List Mv) (i : Nat) (hi : i ≤ ms.length) : (runM tr l ms)[i]? = some (endB l (ms.take i)) := by
  induction ms generalizing l i with
  | nil =>
    have : i = 0 := by simpa using hi
    subst this
    rfl
  | cons m ms ih =>
    cases i with
    | zero => rfl
    | succ i => exact ih (aft l m) i (by simpa using hi)
theorem runM_len : ∀ (l : List Nat) (ms : List Mv), (runM tr l ms).length = ms.length + 1
  | _, [] => rfl
  | l, m :: ms => by
    show (runM tr (aft l m) ms).length + 1 = _
    rw [runM_len]
    rfl
theorem Bd.run (T : TreeL tr) : ∀ (ms : List Mv) {l : List Nat}, Bd tr l → okM tr l ms = true → Bd tr (endB l ms) ∧ (endB l ms).length = l.length
  | [], _, b, _ => ⟨b, rfl⟩
  | m :: ms, l, b, h => by
    have h : (canM tr l m && okM tr (TR.aft l m) ms) = true := h
    rw [Bool.and_eq_true] at h
    obtain ⟨c, e⟩ := b.aft T h.1
    obtain ⟨d, e2⟩ := Bd.run T ms c h.2
    exact ⟨d, e2.trans e⟩
end
end TR
namespace L2.TT
open PySem PySem.Spec PyProof.Rows
end L2.TT
namespace TR
open PySem PySem.Spec PyProof.Rows L2 L2.TT StX ClX
/-- the objects at ps, one for each of xs -/
structure Lay {α : Type} (R : Hp → Addr → α → Prop) (H : Hp) (ps : List Addr) (xs : List α) : Prop where
  len : ps.length = xs.length
  at_ : ∀ (i : Nat) (p : Addr) (x : α), ps[i]? = some p → xs[i]? = some x → R H p x
/-- what is laid stays so -/
def Firm {α : Type} (R : Hp → Addr → α → Prop) : Prop := ∀ H H' p x, Same H H' → R H p x → R H' p x
section
variable {α : Type} {R : Hp → Addr → α → Prop} {H H' : Hp} {ps qs : List Addr} {xs ys : List α}
theorem Lay.nil : Lay R H [] [] := ⟨rfl, fun _ _ _ h => nomatch h⟩
theorem Lay.same (f : Firm R) (h : Lay R H ps xs) (s : Same H H') : Lay R H' ps xs := ⟨h.len, fun i p x a b => f _ _ _ _ s (h.at_ i p x a b)⟩
theorem Lay.app (h : Lay R H ps xs) (k : Lay R H qs ys) : Lay R H (ps ++ qs) (xs ++ ys) := by
  refine ⟨by rw [List.length_append, List.length_append, h.len, k.len], fun i p x hp hx => ?_⟩
  by_cases c : i < ps.length
  · rw [List.getElem?_append_left c] at hp
    rw [List.getElem?_append_left (by rw [← h.len]; exact c)] at hx
    exact h.at_ i p x hp hx
  · rw [List.getElem?_append_right (by omega)] at hp
    rw [List.getElem?_append_right (by rw [← h.len]; omega), ← h.len] at hx
    exact k.at_ _ p x hp hx
theorem Lay.one {p : Addr} {x : α} (h : R H p x) : Lay R H [p] [x] := by
  refine ⟨rfl, fun i q y hq hy => ?_⟩
  cases i with
  | zero =>
    cases hq
    cases hy
    exact h
  | succ i => cases hq
theorem Lay.snoc {p : Addr} {x : α} (h : Lay R H ps xs) (k : R H p x) : Lay R H (ps ++ [p]) (xs ++ [x]) := h.app (.one k)
theorem Lay.cons {p : Addr} {x : α} (h : Lay R H ps xs) (k : R H p x) : Lay R H (p :: ps) (x :: xs) := (Lay.one k).app h
theorem Lay.get (h : Lay R H ps xs) {i : Nat} {v : V} (hv : (ps.map V.ref)[i]? = some v) : ∃ p x, v = .ref p ∧ ps[i]? = some p ∧ xs[i]? = some x ∧ R H p x := by
  obtain ⟨p, hp, rfl⟩ := map_got hv
  have lt : i < xs.length := by
    have := (List.getElem?_eq_some_iff.mp hp).1
    rw [h.len] at this
    exact this
  exact ⟨p, xs[i], rfl, hp, List.getElem?_eq_getElem lt, h.at_ i p _ hp (List.getElem?_eq_getElem lt)⟩
theorem Lay.of (h : Lay R H ps xs) {i : Nat} {x : α} (hx : xs[i]? = some x) : ∃ p, ps[i]? = some p ∧ R H p x := by
  have lt : i < ps.length := by
    have := (List.getElem?_eq_some_iff.mp hx).1
    rw [h.len]
    exact this
  exact ⟨ps[i], List.getElem?_eq_getElem lt, h.at_ i _ x (List.getElem?_eq_getElem lt) hx⟩
theorem Lay.take (h : Lay R H ps xs) (n : Nat) : Lay R H (ps.take n) (xs.take n) := by
  refine ⟨by rw [List.length_take, List.length_take, h.len], fun i p x hp hx => ?_⟩
  rw [List.getElem?_take] at hp hx
  by_cases c : i < n
  · rw [if_pos c] at hp hx
    exact h.at_ i p x hp hx
  · rw [if_neg c] at hp
    cases hp
theorem Lay.drop (h : Lay R H ps xs) (n : Nat) : Lay R H (ps.drop n) (xs.drop n) := by
  refine ⟨by rw [List.length_drop, List.length_drop, h.len], fun i p x hp hx => ?_⟩
  rw [List.getElem?_drop] at hp hx
  exact h.at_ _ p x hp hx
theorem Lay.rev (h : Lay R H ps xs) : Lay R H ps.reverse xs.reverse := by
  refine ⟨by rw [List.length_reverse, List.length_reverse, h.len], fun i p x hp hx => ?_⟩
  have lt : i < ps.length := by
    have := (List.getElem?_eq_some_iff.mp hp).1
    rw [List.length_reverse] at this
    exact this
  rw [List.getElem?_reverse lt] at hp
  rw [List.getElem?_reverse (by rw [← h.len]; exact lt), ← h.len] at hx
  exact h.at_ _ p x hp hx
end
theorem Lay.map {α : Type} {R R' : Hp → Addr → α → Prop} {H H' : Hp} {ps : List Addr} {xs : List α} (h : Lay R H ps xs) (k : ∀ p x, x ∈ xs → R H p x → R' H' p x) : Lay R' H' ps xs := ⟨h.len, fun i p x a b => k p x (List.mem_of_getElem? b) (h.at_ i p x a b)⟩
/-- .. also where a list is written anew -/
def Tupy {α : Type} (R : Hp → Addr → α → Prop) : Prop := ∀ H (D : Addr) (xs ys : List V) p x, H D = some (.lst xs) → R H p x → R (upd H D (.lst ys)) p x
/-- a list of new objects, while it grows -/
structure Acc {α : Type} (R : Hp → Addr → α → Prop) (H1 H' : Hp) (D : Addr) (qs : List Addr) (xs : List α) : Prop where
  own : H' D = some (.lst (qs.map V.ref))
  sm : Same H1 H'
  lay : Lay R H' qs xs
theorem Acc.start {α : Type} {R : Hp → Addr → α → Prop} {H1 : Hp} {D : Addr} (nD : H1 D = none) : Acc R H1 (upd H1 D (.lst [])) D [] [] := ⟨upd_same, same_upd nD _, .nil⟩
theorem Acc.push {α : Type} {R : Hp → Addr → α → Prop} (f : Firm R) (t : Tupy R) {H1 H' H2 : Hp} {D q : Addr} {qs : List Addr} {xs : List α} {x : α} (a : Acc R H1 H' D qs xs) (nD : H1 D = none) (s : Same H' H2) (h : R H2 q x) :
    Acc R H1 (upd H2 D (.lst (qs.map V.ref ++ [V.ref q]))) D (qs ++ [q]) (xs ++ [x]) := by
  have hD := s _ _ a.own
  refine ⟨by rw [upd_same, List.map_append]; rfl, same_old (a.sm.trans s) nD _, ?_⟩
  have l := (a.lay.same f s).snoc h
  exact ⟨l.len, fun i p y hp hy => t _ _ _ _ _ _ hD (l.at_ i p y hp hy)⟩
theorem Acc.later {α : Type} {R : Hp → Addr → α → Prop} (f : Firm R) {H1 H' H2 : Hp} {D : Addr} {qs : List Addr} {xs : List α} (a : Acc R H1 H' D qs xs) (s : Same H' H2) : Acc R H1 H2 D qs xs := ⟨s _ _ a.own, a.sm.trans s, a.lay.same f s⟩
/-- the word of an end -/
def mvw (e : Bool) : Str := if e then "head" else "tail"
def MvR (H : Hp) (p : Addr) (m : Mv) : Prop := H p = some (.tup [.str (mvw m.1), iv m.2])
def BdR (H : Hp) (p : Addr) (l : List Nat) : Prop := H p = some (.tup (l.map iv))
theorem firmM : Firm MvR := fun _ _ _ _ s h => s _ _ h
theorem firmB : Firm BdR := fun _ _ _ _ s h => s _ _ h
theorem tupyM : Tupy MvR := fun _ _ _ _ _ _ hD h => by
  unfold MvR at h ⊢
  rw [upd_ne (ne_of h hD (by intro z; cases z))]
  exact h
theorem tupyB : Tupy BdR := fun _ _ _ _ _ _ hD h => by
  unfold BdR at h ⊢
  rw [upd_ne (ne_of h hD (by intro z; cases z))]
  exact h
theorem iv_flat (l : List Nat) : (l.map iv).all flatV = true := by
  rw [List.all_eq_true]
  intro x hx
  obtain ⟨n, _, rfl⟩ := List.mem_map.mp hx
  rfl
theorem inV_iv (w : Nat) (l : List Nat) : inV (iv w) (l.map iv) = decide (w ∈ l) := by
  unfold inV
  induction l with
  | nil => rfl
  | cons a r ih =>
    rw [List.map_cons, List.any_cons, ih]
    by_cases c : a = w
    · subst c
      rw [show eqV (iv a) (iv a) = true from by show ((a : Int) == (a : Int)) = true; exact beq_self_eq_true _]
      simp
    · rw [show eqV (iv a) (iv w) = false from by show ((a : Int) == (w : Int)) = false; exact beq_eq_false_iff_ne.mpr (by omega)]
      have : (w ∈ a :: r) ↔ w ∈ r := by
        rw [List.mem_cons]
        exact ⟨fun h => h.resolve_left (fun z => c z.symm), .inr⟩
      rw [Bool.false_or]
      exact (decide_eq_decide.mpr this).symm
end TR
namespace TR
open PySem PySem.Spec PyProof.Rows L2 L2.TT StX ClX
/-- a method of the class at C, with its promise -/
structure MU (P : Program) (w : World) (K : PySem.W.Frag) (mg : Str → Option Value) (base : Heap) (C : Addr) (k : Nat) (x : Str) (f : Addr) (fd : FuncData) (ps : List Str) (sp : Sp) : Prop where
  m : Meth K C x f
  G : FnOk P w K mg base CX0 k f fd ps sp
  b : Binds K fd ps []
end TR
namespace TR
open PySem PySem.Spec PyProof.Rows L2 L2.TT StX ClX
def spAft : Sp := fun vs H Q _ => ∃ (p : Addr) (l : List Nat) (m : Mv), vs = [.ref p, .str (mvw m.1), iv m.2] ∧ BdR H p l ∧ 2 ≤ l.length ∧ l.length ≤ 1000 ∧ ∀ q H', Same H H' → H q = none → BdR H' q (aft l m) → Q (.ref q) H'
theorem nb_in {tr : List E2} (T : TreeL tr) {v w : Nat} (h : w ∈ nb tr v) : w ≤ tr.length := (T.adj_le ((mem_nb T.ne).mp h)).2
theorem mvw_hdV (a : Bool) : decide (V.str (mvw a) = V.str "head") = a := by cases a <;> decide +kernel
theorem atHd {l : List Nat} (h : 2 ≤ l.length) : atI (l.map iv) 0 = some (iv (hd0 l)) := by
  obtain ⟨a, r, rfl, _⟩ := bd_cons h
  exact atI_pos (by decide) rfl
theorem atLt {l : List Nat} (h : 2 ≤ l.length) : atI (l.map iv) (-1) = some (iv (lt0 l)) := by
  obtain ⟨r, b, rfl, _⟩ := bd_snoc h
  rw [lt0_snoc]
  exact at_last
/-- t[:-1] and t[1:] of a body -/
theorem slB_init {K : PySem.W.Frag} {H : Hp} {Q : VK} {a : Addr} {l : List Nat} (ha : BdR H a l) (h : 2 ≤ l.length) (k : ∀ p H', Same H H' → H p = none → BdR H' p l.dropLast → Q (.ref p) H') : rSlA K (.ref a) none (some (-1)) H Q := by
  have e : HT.sIx (l.map iv).length (l.map iv).length (some (-1)) = l.length - 1 := by
    rw [List.length_map]
    show ((-1 : Int) + (l.length : Int)).toNat = l.length - 1
    omega
  refine ⟨a, _, rfl, SqT.of ha, fun ⟨_, z⟩ => ?_, fun _ p np => k p _ (same_upd np _) np ?_⟩
  · rw [e, List.length_map] at z
    omega
  · have e2 : cutV (l.map iv) none (some (-1)) = l.dropLast.map iv := by
      unfold cutV
      rw [e, HT.sIx_none, List.drop_zero, Nat.sub_zero, ← List.map_take, List.dropLast_eq_take]
    rw [e2]
    exact upd_same
theorem slB_tail {K : PySem.W.Frag} {H : Hp} {Q : VK} {a : Addr} {l : List Nat} (ha : BdR H a l) (h : 2 ≤ l.length) (k : ∀ p H', Same H H' → H p = none → BdR H' p l.tail → Q (.ref p) H') : rSlA K (.ref a) (some 1) none H Q := by
  have e : HT.sIx (l.map iv).length 0 (some 1) = 1 := by
    rw [List.length_map]
    show min 1 l.length = 1
    omega
  refine ⟨a, _, rfl, SqT.of ha, fun ⟨z, _⟩ => ?_, fun _ p np => k p _ (same_upd np _) np ?_⟩
  · rw [e] at z
    cases z
  · have e2 : cutV (l.map iv) (some 1) none = l.tail.map iv := by
      unfold cutV
      rw [e, HT.sIx_none, ← List.map_drop, List.length_map, List.take_of_length_le (by rw [List.length_map, List.length_drop]; exact Nat.le_refl _), List.drop_one]
    rw [e2]
    exact upd_same
section
variable {P : Program} {w : World} {K : PySem.W.Frag} {mg : Str → Option Value} {base : Heap}
abbrev N_sc_aft : List Str := ["body", "end", "station"]
theorem sc_aft : FnScope N_sc_aft ["body", "end", "station"] (defScope s_body_after) := ⟨rfl, rfl, rfl, by decide +kernel, rfl, by decide +kernel, by decide +kernel⟩
theorem ok_aft {f : Addr} {fd : FuncData} (F : Fun K "_body_after" "_body_after" s_body_after f fd) : FnOk P w K mg base CX0 1 f fd ["body", "end", "station"] spAft := by
  refine F.ok sc_aft (fun vs H Q E h => ?_) (fun cdv A outer s H vs Q E hr h => ?_)
  · obtain ⟨p, l, m, rfl, _⟩ := h
    rfl
  · obtain ⟨p, l, m, rfl, hp, h2, hl, k⟩ := h
    refine ⟨_, (pss_cons (ps_if (pt_cmpR op_eq (pv 1) pe_str (nomark _)) (pss_one (ps_ret (pe_op op_catA (pe_tup (pa_cons (pv 2) pa_nil)) (pe_slice sl_tupA (pv 0) po_none (po_some (pe_un un_neg pe_int)))))) pss_nil)
        (pss_one (ps_ret (pe_op op_catA (pe_slice sl_tupA (pv 0) (po_some pe_int) po_none) (pe_tup (pa_cons (pv 2) pa_nil)))))), ?_⟩
    obtain ⟨e, x⟩ := m
    have one : (1 : Nat) ≤ sizeLine := by rw [sizeLine_eq]; decide
    refine ⟨_, rfl, rfl, _, rfl, ?_⟩
    rw [mvw_hdV]
    cases e with
    | true =>
      refine iteT ?_
      refine ⟨_, rfl, one, fun u nu => ?_⟩
      have su := same_upd nu (.tup [iv x])
      refine ⟨_, rfl, ?_⟩
      unfold tNoPart
      refine ⟨_, rfl, _, rfl, slB_init (su _ _ hp) h2 fun q H2 s2 nq hq => ?_⟩
      have hu2 := s2 _ _ (upd_same (H := H) (a := u) (o := .tup [iv x]))
      refine ⟨u, q, _, _, rfl, rfl, SqT.of hu2, SqT.of hq, by rw [List.length_map, List.length_dropLast, sizeLine_eq, List.length_singleton]; omega, fun z => (by cases z), fun _ z => ?_, fun _ _ p2 np2 => ?_⟩
      · have := congrArg List.length z
        rw [List.length_map, List.length_dropLast, List.length_nil] at this
        omega
      · exact k p2 _ ((su.trans s2).trans (same_upd np2 _)) ((su.trans s2).free np2) upd_same
    | false =>
      refine iteF ?_
      refine ⟨_, rfl, ?_⟩
      refine ⟨_, rfl, ?_⟩
      unfold tNoPart
      refine slB_tail hp h2 fun q H2 s2 nq hq => ?_
      refine ⟨_, rfl, one, fun u nu => ?_⟩
      have su := same_upd nu (.tup [iv x])
      refine ⟨q, u, _, _, rfl, rfl, SqT.of (su _ _ hq), SqT.of upd_same, by rw [List.length_map, List.length_tail, sizeLine_eq, List.length_singleton]; omega, fun z => ?_, fun _ z => (by cases z), fun _ _ p2 np2 => ?_⟩
      · have := congrArg List.length z
        rw [List.length_map, List.length_tail, List.length_nil] at this
        omega
      · refine k p2 _ ((s2.trans su).trans (same_upd np2 _)) ((s2.trans su).free np2) ?_
        show _ = some (HO.tup ((l.tail ++ [x]).map iv))
        rw [upd_same, List.map_append]
        rfl
end
end TR
namespace TR
open PySem PySem.Spec PyProof.Rows L2 L2.TT StX ClX
theorem nE2 {l : List E2} : ∀ {l' : List E2}, PyData.eqvAll (l.map dpr) (l'.map dpr) = decide (l = l') := by
  induction l with
  | nil =>
    intro l'
    cases l' with
    | nil => rfl
    | cons e l' => rfl
  | cons e l ih =>
    intro l'
    cases l' with
    | nil => rfl
    | cons d l' =>
      show (((((e.1 : Nat) : Int) == ((d.1 : Nat) : Int)) && ((((e.2 : Nat) : Int) == ((d.2 : Nat) : Int)) && true)) && PyData.eqvAll (l.map dpr) (l'.map dpr)) = _
      rw [ih]
      by_cases h1 : e.1 = d.1
      · by_cases h2 : e.2 = d.2
        · by_cases h3 : l = l'
          · rw [h1, h2, h3]
            simp [Prod.ext_iff, h1, h2]
          · simp [h3]
        · have : ¬ ((e.2 : Nat) : Int) = ((d.2 : Nat) : Int) := by omega
          rw [show (((e.2 : Nat) : Int) == ((d.2 : Nat) : Int)) = false from beq_eq_false_iff_ne.mpr this]
          simp [Prod.ext_iff, h2]
      · have : ¬ ((e.1 : Nat) : Int) = ((d.1 : Nat) : Int) := by omega
        rw [show (((e.1 : Nat) : Int) == ((d.1 : Nat) : Int)) = false from beq_eq_false_iff_ne.mpr this]
        simp [Prod.ext_iff, h1]
theorem canLay_prs : ∀ (l : List E2), PyData.canLayAll0 (l.map dpr) = true
  | [] => rfl
  | e :: l => by
    show (PyData.canLayAll0 ([e.1, e.2].map di) && PyData.canLayAll0 (l.map dpr)) = true
    rw [canLay_prs l, canLay_ints]
    rfl
theorem depth_prs : ∀ (l : List E2), PyData.depthAll (l.map dpr) ≤ 1
  | [] => Nat.zero_le _
  | e :: l => by
    show max (PyData.depthAll ([e.1, e.2].map di) + 1) (PyData.depthAll (l.map dpr)) ≤ 1
    have := depth_prs l
    rw [depth_ints]
    omega
theorem shaped_prs (l : List E2) : SeqAt.shaped (.tuple (l.map dpr)) = true := by
  unfold SeqAt.shaped
  rw [Bool.and_eq_true]
  refine ⟨canLay_prs l, decide_eq_true ?_⟩
  show PyData.depthAll (l.map dpr) + 1 ≤ 64
  have := depth_prs l
  omega
/-- what isinstance reads of an own class -/
structure InsK (K : PySem.W.Frag) (C : Addr) : Prop where
  ca : PySem.W.findIn K (.ref C) "__class__" = some (some (.builtin "object.__class__"))
  sg : PySem.W.specialIn K (.builtin "object.__class__") "__get__" = some (some (.builtin "getset_descriptor.__get__"))
  st : PySem.W.takesIn K (.builtin "object.__class__") = some true
  ob : PySem.W.mroIn K C (.type "object") = some true
theorem kit_self1 {K : PySem.W.Frag} (C : Addr) : PySem.W.kitOne K (.ref C) (.ref C) = some true := by
  unfold PySem.W.kitOne
  simp
/-- a property of the class at C -/
structure PropU (P : Program) (w : World) (K : PySem.W.Frag) (mg : Str → Option Value) (base : Heap) (C p g : Addr) (fd : FuncData) (x : Str) (k : Nat) (sp : Sp) : Prop where
  cl : Cls K C
  hp : PropOf K C x p g
  G : FnOk P w K mg base CX0 k g fd ["self"] sp
  b : Binds K fd ["self"] []
def spTrk (C : Addr) : Sp := fun vs H Q _ => ∃ (r : Addr) (tr : List E2), vs = [.ref r] ∧ RailAt C H r tr ∧ ∀ tt ps, H tt = some (.tup (ps.map V.ref)) → Prs H ps tr → Q (.ref tt) H
def spSame (C : Addr) : Sp := fun vs H Q _ => ∃ (r r2 : Addr) (tr tr2 : List E2), vs = [.ref r, .ref r2] ∧ RailAt C H r tr ∧ RailAt C H r2 tr2 ∧ Q (.bl (decide (tr = tr2))) H
end TR
namespace TR
open PySem PySem.Spec PyProof.Rows L2 L2.TT StX ClX
/-- for i in range(n): the item is iv i -/
theorem for_rg {n : Nat} {g : TG} {tb : TS} {D : Ends} {σ : L2.St} {H : Hp} (Pv : Nat → L2.St → Hp → Prop) (h0 : Pv 0 σ H)
    (hs : ∀ i σ H, i < n → Pv i σ H → g (iv i) σ H fun σ2 H2 => tb { D with nx := Pv (i + 1), ct := Pv (i + 1), bk := D.nx } σ2 H2) (hd : ∀ σ H, Pv n σ H → D.nx σ H) :
    ∃ W : Nat → Nat → L2.St → Hp → Prop, (∃ m, W 0 m σ H) ∧ ∀ i m σ H, W i m σ H →
      ((Itr 0 n).stop i H ∧ D.nx σ H) ∨ ((Itr 0 n).go i H ∧ ∃ N : L2.St → Hp → Prop, (∀ σ' H', N σ' H' → ∃ m', m' < m ∧ W (i + 1) m' σ' H') ∧ ∀ x H', (Itr 0 n).yld i H x H' → g x σ H' fun σ2 H2 => tb { D with nx := N, ct := N, bk := D.nx } σ2 H2) :=
  for_range (lo := 0) (n := n) Pv h0 (fun i σ H hi p => by rw [Int.zero_add]; exact hs i σ H hi p) hd
theorem Prs.put {H : Hp} {ps : List Addr} {l : List E2} (h : Prs H ps l) {D : Addr} {xs ys : List V} (hD : H D = some (.lst xs)) : Prs (upd H D (.lst ys)) ps l :=
  ⟨h.1, fun i p e hp he => by
    rw [upd_ne (ne_of (h.2 i p e hp he) hD (by intro z; cases z))]
    exact h.2 i p e hp he⟩
end TR
namespace L2.TT
open PySem PySem.Spec PyProof.Rows
end L2.TT
namespace TR
open PySem PySem.Spec PyProof.Rows L2 L2.TT StX ClX
theorem tyOf_same {K : PySem.W.Frag} {H H' : Hp} {v : V} {t : Value} (h : TyOf K H v t) (s : Same H H') : TyOf K H' v t := by
  cases h with
  | non => exact .non
  | bl x => exact .bl x
  | int x => exact .int x
  | str x => exact .str x
  | flt x => exact .flt x
  | lst e => exact .lst (s _ _ e)
  | frz e => exact .frz (s _ _ e)
  | tup e => exact .tup (s _ _ e)
  | dK e => exact .dK (s _ _ e)
  | dT e => exact .dT (s _ _ e)
  | ins e a b c d f => exact .ins (s _ _ e) a b c d f
theorem tyX_same {K : PySem.W.Frag} {H H' : Hp} {v : V} {t : Value} (h : TyX K H v t) (s : Same H H') : TyX K H' v t := by
  cases h with
  | base h => exact .base (tyOf_same h s)
  | byt b => exact .byt b
  | set e => exact .set (s _ _ e)
  | kList e c => exact .kList e c
  | kTuple e c => exact .kTuple e c
  | kDict e c => exact .kDict e c
  | fTuple e => exact .fTuple (s _ _ e)
  | fDict e => exact .fDict (s _ _ e)
theorem iv_same {K : PySem.W.Frag} {H H' : Hp} {v : V} (h : IV K H v) (s : Same H H') : IV K H' v := by
  rcases h with h | h | ⟨n, h, k⟩
  · exact .inl h
  · exact .inr (.inl h)
  · exact .inr (.inr ⟨n, tyX_same h s, k⟩)
end TR
namespace TR
open PySem PySem.Spec PyProof.Rows L2 L2.TT StX ClX
theorem PV.same {K : PySem.W.Frag} {H H' : Hp} {v : V} {o : Option (V × V)} (h : PV K H v o) (s : Same H H') : PV K H' v o := by
  cases h with
  | two h hx hy => exact .two (s _ _ h) (iv_same hx s) (iv_same hy s)
  | tup h hn => exact .tup (s _ _ h) hn
  | no t kb => exact .no (tyX_same t s) kb
theorem pr_get {α β : Type} {R : α → β → Prop} : ∀ {l : List α} {m : List β} {i : Nat} {x : α}, Paired R l m → l[i]? = some x → ∃ y, m[i]? = some y ∧ R x y
  | _, _, 0, _, .cons h _, e => by
    cases Option.some.inj e
    exact ⟨_, rfl, h⟩
  | _, _, i + 1, _, .cons _ t, e => pr_get (i := i) t e
theorem paired_len {α β : Type} {R : α → β → Prop} : ∀ {l : List α} {m : List β}, Paired R l m → l.length = m.length
  | _, _, .nil => rfl
  | _, _, .cons _ t => congrArg (· + 1) (paired_len t)
end TR
namespace TR
open PySem PySem.Spec PyProof.Rows L2 L2.TT StX ClX
/-- the tuple ENDS of the module -/
structure EndsC (K : PySem.W.Frag) (mg : Str → Option Value) : Prop where
  ex : ∃ E : Addr, mg "ENDS" = some (.ref E) ∧ ∀ H, SqT K H E [.str "head", .str "tail"]
/-- whether a pair is a move on so many stations -/
def isMv (o : Option (V × V)) (n : Nat) : Bool := match o with
  | some (x, y) => inV x [.str "head", .str "tail"] && inR y 0 n
  | none => false
def flat1 (o : Option (V × V)) : Prop := ∀ x y, o = some (x, y) → flatV x = true
def spIsMv (C : Addr) (K : PySem.W.Frag) : Sp := fun vs H Q _ => ∃ (r : Addr) (tr : List E2) (v : V) (o : Option (V × V)), vs = [.ref r, v] ∧ RailAt C H r tr ∧ PV K H v o ∧ flat1 o ∧ Q (.bl (isMv o tr.length)) H
/-- the first that is no move -/
def badMv (n : Nat) : List (Option (V × V)) → Option Nat
  | [] => none
  | o :: os => if isMv o n = true then (badMv n os).map (· + 1) else some 0
def spChkMv (C CM : Addr) (K : PySem.W.Frag) : Sp := fun vs H Q E => ∃ (r : Addr) (tr : List E2) (v : V), vs = [.ref r, v] ∧ RailAt C H r tr ∧
  ((∃ (t : Addr) (xs : List V) (os : List (Option (V × V))), v = .ref t ∧ H t = some (.tup xs) ∧ Paired (PV K H) xs os ∧ (∀ o ∈ os, flat1 o) ∧ (badMv tr.length os = none → ∀ H', Same H H' → Q .non H') ∧
    (∀ i, badMv tr.length os = some i → ∀ d H', Same H H' → H' d = none → E (.ref CM) (some d) (upd H' d (.xd [("position", iv i)])))) ∨
   ((∃ n, TyX K H v (.type n) ∧ kitB n "tuple" = some false) ∧ ∀ d, H d = none → E (.ref CM) (some d) (upd H d (.xd [("position", .non)]))))
section
variable {P : Program} {w : World} {K : PySem.W.Frag} {mg : Str → Option Value} {base : Heap}
abbrev N_sc_ismv : List Str := ["railway", "value"]
theorem sc_ismv : FnScope N_sc_ismv ["railway", "value"] (defScope s_is_move) := ⟨rfl, rfl, rfl, by decide +kernel, rfl, by decide +kernel, by decide +kernel⟩
theorem ok_ismv {f fI C : Addr} {fd fdI : FuncData} (F : Fun K "is_move" "is_move" s_is_move f fd) (N : Nm mg) (EC : EndsC K mg) (U : Use P w K mg base CX0 3 "is_station" fI fdI ["railway", "value"] (spIsSt C K)) : FnOk P w K mg base CX0 4 f fd ["railway", "value"] (spIsMv C K) := by
  refine F.ok sc_ismv (fun vs H Q E h => ?_) (fun cdv A outer s H vs Q E hr h => ?_)
  · obtain ⟨r, tr, v, o, rfl, _⟩ := h
    rfl
  · obtain ⟨r, tr, v, o, rfl, R, hv, fl, k⟩ := h
    obtain ⟨E0, mE, sE⟩ := EC.ex
    refine ⟨_, (pss_cons (ps_if (PW.pt (pw_or (pt_not (pt_val (pe_callB call_isi (by rfl) N.isi boot_isinstance (pa_cons (pv 1) (pa_cons (pe_bltn (v := .ty "tuple") (by rfl) N.tuple (by decide +kernel) rfl) pa_nil))))) (pw_or1 (pt_cmpR op_ne (pe_callB call_len_seq (by rfl) N.len boot_len (pa_cons (pv 1) pa_nil)) pe_int (nomark _))))) (pss_one (ps_ret pe_bl)) pss_nil)
        (pss_one (ps_ret (pe_and (pe_cmpR op_in_seq (pe_ix ix_tup (pv 1) pe_int (fun _ _ => rfl)) (pe_glob (v := .ref E0) (by rfl) mE rfl) (by with_unfolding_all rfl)) (pe_one (pe_use U hr (by rfl) (pa_cons (pv 0) (pa_cons (pe_ix ix_tup (pv 1) pe_int (fun _ _ => rfl)) pa_nil)))))))), ?_⟩
    cases hv with
    | no t kb =>
      refine ⟨_, rfl, _, _, _, _, false, rfl, .ty _, t, kit_ty kb, false, rfl, ?_⟩
      refine iteT ?_
      refine iteT ?_
      exact k
    | @tup a xs h hn =>
      refine ⟨_, rfl, _, _, _, _, true, rfl, .ty _, .base (.tup h), tup_tup, true, rfl, ?_⟩
      refine iteF ?_
      refine ⟨_, rfl, _, _, rfl, .inr (SqT.of h), rfl, _, rfl, ?_⟩
      refine ite2 (fun _ => ?_) (fun z => ?_)
      · exact k
      · exfalso
        apply z
        show (!decide (V.int (xs.length : Nat) = V.int 2)) = true
        simp only [Bool.not_eq_true', decide_eq_false_iff_not, V.int.injEq]
        omega
    | @two a x y h hx hy =>
      refine ⟨_, rfl, _, _, _, _, true, rfl, .ty _, .base (.tup h), tup_tup, true, rfl, ?_⟩
      refine iteF ?_
      refine ⟨_, rfl, _, _, rfl, .inr (SqT.of h), rfl, _, rfl, ?_⟩
      refine iteF ?_
      have fx := fl x y rfl
      refine ⟨_, rfl, a, _, _, _, rfl, rfl, SqT.of h, atN (n := 0) rfl, E0, _, rfl, .inr (sE H), fx, rfl, _, rfl, ?_⟩
      show (if inV x [.str "head", .str "tail"] = true then _ else _)
      cases e1 : inV x [.str "head", .str "tail"] with
      | false =>
        have e : isMv (some (x, y)) tr.length = false := by show (inV x [.str "head", .str "tail"] && inR y 0 tr.length) = false; rw [e1]; rfl
        rw [e] at k
        exact iteF k
      | true =>
        have e : isMv (some (x, y)) tr.length = inR y 0 tr.length := by show (inV x [.str "head", .str "tail"] && inR y 0 tr.length) = _; rw [e1]; rfl
        rw [e] at k
        refine iteT ?_
        exact ⟨_, rfl, _, rfl, a, _, _, _, rfl, rfl, SqT.of h, atN (n := 1) rfl, r, tr, y, rfl, R, hy, k⟩
abbrev N_sc_chkmv : List Str := ["railway", "moves", "index", "move"]
theorem sc_chkmv : FnScope N_sc_chkmv ["railway", "moves"] (defScope s_check_moves) := ⟨rfl, rfl, rfl, by decide +kernel, rfl, by decide +kernel, by decide +kernel⟩
theorem ok_chkmv {f fI C CM : Addr} {fd fdI : FuncData} (F : Fun K "check_moves" "check_moves" s_check_moves f fd) (N : Nm mg) (U : Use P w K mg base CX0 4 "is_move" fI fdI ["railway", "value"] (spIsMv C K)) (Z : RzC P w K mg base "InvalidMove" CM "position") :
    FnOk P w K mg base (L2.CX P w) 5 f fd ["railway", "moves"] (spChkMv C CM K) := by
  refine L2.Fun.okX F sc_chkmv (fun vs H Q E h => ?_) (fun cdv A outer s H vs Q E hr h => ?_)
  · obtain ⟨r, tr, v, rfl, _⟩ := h
    rfl
  · obtain ⟨r, tr, v, rfl, R, h⟩ := h
    obtain ⟨fI, fdI, i1, i2, F1, b1⟩ := Z.ex
    refine ⟨_, (pss_cons (ps_if (pt_not (pt_val (pe_callB call_isi (by rfl) N.isi boot_isinstance (pa_cons (pv 1) (pa_cons (pe_bltn (v := .ty "tuple") (by rfl) N.tuple (by decide +kernel) rfl) pa_nil))))) (pss_one (ps_raise rfl (takes_of rfl rfl rfl rfl) (pmk_oxg Z.ox i1 i2 F1 (hr.mono (by decide)) b1 .nil pass0 rfl Z.mgC (pa_cons pe_non pa_nil)))) pss_nil)
        (pss_one (ps_for (passes_of rfl) rfl (pi_enumT (by rfl) N.enum (pa_cons (pv 1) pa_nil)) (pg_tup rfl (pgs_cons (pg_name (i := 2) sc_chkmv.nd rfl (.inl rfl)) (pgs_cons (pg_name (i := 3) sc_chkmv.nd rfl (.inl rfl)) pgs_nil)))
          (pss_one (ps_if (pt_not (pt_val (pe_use U hr (by rfl) (pa_cons (pv 0) (pa_cons (pv 3) pa_nil))))) (pss_one (ps_raise rfl (takes_of rfl rfl rfl rfl) (pmk_oxg Z.ox i1 i2 F1 (hr.mono (by decide)) b1 .nil pass0 rfl Z.mgC (pa_cons (pv 2) pa_nil)))) pss_nil))))), ?_⟩
    rcases h with ⟨t, xs, os, rfl, ht, hP, hF, k1, k2⟩ | ⟨⟨n, ty, kb⟩, k⟩
    · refine ⟨_, rfl, _, _, _, _, true, rfl, .ty _, .base (.tup ht), tup_tup, true, rfl, ?_⟩
      refine iteF ?_
      refine ⟨_, rfl, t, _, rfl, SqT.of ht, ?_⟩
      refine for_enumT (K := K) (a := t) (xs := xs) (fun i σ H' => ∃ x2 x3, σ = [some (.ref r), some (.ref t), x2, x3] ∧ Same H H' ∧ badMv tr.length os = (badMv tr.length (os.drop i)).map (· + i)) ⟨_, _, rfl, Same.refl _, ?_⟩ (fun i σ H' _ ⟨_, _, _, s1, _⟩ => SqT.of (s1 _ _ ht)) ?_ ?_
      · rw [List.drop_zero]
        cases badMv tr.length os <;> rfl
      · rintro i x T σ H' hx ⟨x2, x3, rfl, s1, e⟩ nT
        obtain ⟨o, ho, hv⟩ := pr_get hP hx
        have sT := same_upd nT (.tup [V.int (i : Nat), x])
        have s2 := s1.trans sT
        have hT := upd_same (H := H') (a := T) (o := .tup [V.int (i : Nat), x])
        generalize upd H' T (.tup [V.int (i : Nat), x]) = H2 at sT s2 hT ⊢
        have ed : os.drop i = o :: os.drop (i + 1) := by
          obtain ⟨lt, e⟩ := List.getElem?_eq_some_iff.mp ho
          rw [← e]
          exact List.drop_eq_getElem_cons lt
        rw [ed] at e
        refine ⟨T, _, rfl, SqT.of hT, rfl, _, _, rfl, _, _, rfl, rfl, ?_⟩
        refine ⟨_, rfl, _, rfl, r, tr, x, o, rfl, R.same s2, hv.same s2, hF o (List.mem_of_getElem? ho), _, rfl, ?_⟩
        cases c : isMv o tr.length with
        | true =>
          refine iteF ?_
          refine ⟨_, _, rfl, s2, ?_⟩
          rw [e]
          show (if isMv o tr.length = true then _ else _ : Option Nat).map _ = _
          rw [if_pos c, Option.map_map]
          congr 1
          funext z
          show z + 1 + i = z + (i + 1)
          omega
        | false =>
          refine iteT ?_
          have e2 : badMv tr.length os = some i := by
            rw [e]
            show (if isMv o tr.length = true then _ else _ : Option Nat).map _ = _
            rw [if_neg (by rw [c]; decide)]
            show some (0 + i) = some i
            rw [Nat.zero_add]
          exact ⟨_, rfl, rz_end fun d nd => k2 i e2 d H2 s2 nd⟩
      · rintro σ H' ⟨x2, x3, rfl, s1, e⟩
        have e2 : badMv tr.length os = none := by
          rw [e, show os.drop xs.length = [] from by rw [paired_len hP]; exact List.drop_length]
          rfl
        exact k1 e2 H' s1
    · refine ⟨_, rfl, _, _, _, _, false, rfl, .ty _, ty, kit_ty kb, false, rfl, ?_⟩
      refine iteT ?_
      exact rz_end k
end
end TR
namespace TR
open PySem PySem.Spec PyProof.Rows L2 L2.TT StX ClX
/-- the index of the first move that is not possible -/
def fstBad (tr : List E2) : List Nat → List Mv → Option Nat
  | _, [] => none
  | l, m :: ms => if canM tr l m = true then (fstBad tr (aft l m) ms).map (· + 1) else some 0
theorem fstBad_ok {tr : List E2} : ∀ {l : List Nat} {ms : List Mv}, okM tr l ms = true → fstBad tr l ms = none
  | _, [], _ => rfl
  | l, m :: ms, h => by
    have h : (canM tr l m && okM tr (aft l m) ms) = true := h
    rw [Bool.and_eq_true] at h
    show (if canM tr l m = true then _ else _) = _
    rw [if_pos h.1, fstBad_ok h.2]
    rfl
def spAlong (C CB : Addr) : Sp := fun vs H Q E => ∃ (r q t : Addr) (tr : List E2) (l : List Nat) (ps : List Addr) (ms : List Mv), vs = [.ref r, .ref q, .ref t] ∧ RailAt C H r tr ∧ H q = some (.tup [iv (hd0 l), iv (lt0 l)]) ∧ Bd tr l ∧
  H t = some (.tup (ps.map V.ref)) ∧ Lay MvR H ps ms ∧ (∀ m ∈ ms, m.2 ≤ tr.length) ∧ ms.length ≤ 1000 ∧
  (fstBad tr l ms = none → ∀ D bs H', Same H H' → H' D = some (.lst (bs.map V.ref)) → Lay BdR H' bs (runM tr l ms) → Q (.ref D) H') ∧
  (∀ i, fstBad tr l ms = some i → ∀ d H', Same H H' → H' d = none → E (.ref CB) (some d) (upd H' d (.xd [("position", iv i)])))
theorem atI_lastV {xs : List V} {n : Nat} {x : V} (h : xs.length = n + 1) (hx : xs[n]? = some x) : atI xs (-1) = some x := by
  have e : ixN xs.length (-1) = some n := by
    unfold ixN
    rw [if_neg (by omega), if_pos (by omega), h]
    congr 1
    omega
  unfold atI
  rw [e]
  exact hx
/-- moves are moves -/
theorem pv_mvs {K : PySem.W.Frag} {H : Hp} {n : Nat} : ∀ {ps : List Addr} {ms : List Mv}, Lay MvR H ps ms → (∀ m ∈ ms, m.2 ≤ n) → Paired (PV K H) (ps.map V.ref) (ms.map fun m => some (V.str (mvw m.1), iv m.2)) ∧ badMv n (ms.map fun m => some (V.str (mvw m.1), iv m.2)) = none
  | [], [], _, _ => ⟨.nil, rfl⟩
  | [], _ :: _, h, _ => by cases h.len
  | _ :: _, [], h, _ => by cases h.len
  | p :: ps, m :: ms, h, k => by
    have h1 := h.at_ 0 p m rfl rfl
    obtain ⟨q1, q2⟩ := pv_mvs (K := K) (H := H) (n := n) (ps := ps) (ms := ms) ⟨Nat.succ.inj h.len, fun i p x hp hx => h.at_ (i + 1) p x hp hx⟩ (fun m' hm' => k m' (List.mem_cons_of_mem _ hm'))
    refine ⟨.cons (.two h1 (.inr .str) (.inl ⟨_, rfl⟩)) q1, ?_⟩
    have e : isMv (some (V.str (mvw m.1), iv m.2)) n = true := by
      have := k m List.mem_cons_self
      show (inV (V.str (mvw m.1)) [.str "head", .str "tail"] && inR (iv m.2) 0 n) = true
      rw [show inV (V.str (mvw m.1)) [.str "head", .str "tail"] = true from by cases m.1 <;> decide +kernel]
      show (decide ((0 : Int) ≤ (m.2 : Int)) && decide ((m.2 : Int) ≤ (n : Int))) = true
      rw [decide_eq_true (by omega), decide_eq_true (by omega)]
      rfl
    show (if isMv (some (V.str (mvw m.1), iv m.2)) n = true then (badMv n (ms.map fun m => some (V.str (mvw m.1), iv m.2))).map (· + 1) else some 0) = none
    rw [if_pos e, q2]
    rfl
theorem flat_mvs (ms : List Mv) : ∀ o ∈ ms.map fun m => some (V.str (mvw m.1), iv m.2), flat1 o := fun o ho => by
  obtain ⟨m, _, rfl⟩ := List.mem_map.mp ho
  intro x y e
  cases e
  rfl
theorem old_read {K : PySem.W.Frag} {σ : L2.St} {H : Hp} {Q : VK} {i j : Nat} {e : Bool} {p : Addr} {l : List Nat} (h5 : σ[i]? = some (some (V.str (mvw e)))) (h7 : σ[j]? = some (some (V.ref p))) (hp : BdR H p l) (h2 : 2 ≤ l.length) (k : Q (iv (endM l e)) H) :
    tIf (tTest (tOp rEq (tVar i) (tC (V.str "head")))) (tOp (rIxT K) (tVar j) (tC (V.int 0))) (tOp (rIxT K) (tVar j) (tUn (rU fun i => V.int (-i)) (tC (V.int 1)))) σ H Q := by
  refine ⟨_, h5, rfl, _, rfl, ?_⟩
  rw [mvw_hdV]
  cases e with
  | true =>
    refine iteT ?_
    exact ⟨_, h7, p, _, _, _, rfl, rfl, SqT.of hp, atHd h2, k⟩
  | false =>
    refine iteF ?_
    exact ⟨_, h7, _, rfl, p, _, _, _, rfl, rfl, SqT.of hp, atLt h2, k⟩
theorem Bd.endle {tr : List E2} {l : List Nat} (b : Bd tr l) (e : Bool) : endM l e ≤ tr.length := by
  cases e with
  | true => exact b.hle
  | false => exact b.lle
theorem can_iff {tr : List E2} {l : List Nat} {m : Mv} : canM tr l m = (decide (m.2 ∈ nb tr (endM l m.1)) && decide (m.2 ∉ l)) := by
  unfold canM fre
  rw [Bool.eq_iff_iff, Bool.and_eq_true]
  simp only [decide_eq_true_iff, List.mem_filter]
section
variable {P : Program} {w : World} {K : PySem.W.Frag} {mg : Str → Option Value} {base : Heap}
abbrev N_sc_along : List Str := ["railway", "standing", "moves", "bodies", "index", "end", "station", "body", "old"]
theorem sc_along : FnScope N_sc_along ["railway", "standing", "moves"] (defScope s_bodies_along) := ⟨rfl, rfl, rfl, by decide +kernel, rfl, by decide +kernel, by decide +kernel⟩
theorem ok_along {f fB fC fA fN C CM CB : Addr} {fd fdB fdC fdA fdN : FuncData} (F : Fun K "bodies_along" "bodies_along" s_bodies_along f fd) (N : Nm mg) (X : TxtR K mg C) (UB : Use P w K mg base CX0 6 "body_of" fB fdB ["railway", "standing"] (spBody C)) (UC : UseX P w K mg base 5 "check_moves" fC fdC ["railway", "moves"] (spChkMv C CM K))
    (UA : Use P w K mg base CX0 1 "_body_after" fA fdA ["body", "end", "station"] spAft) (Mn : MU P w K mg base C 5 "neighbours" fN fdN ["self", "station"] (spNbr C)) (Z : RzC P w K mg base "Blocked" CB "position") :
    FnOk P w K mg base (L2.CX P w) 7 f fd ["railway", "standing", "moves"] (spAlong C CB) := by
  refine L2.Fun.okX F sc_along (fun vs H Q E h => ?_) (fun cdv A outer s H vs Q E hr h => ?_)
  · obtain ⟨r, q, t, tr, l, ps, ms, rfl, _⟩ := h
    rfl
  · obtain ⟨r, q, t, tr, l, ps, ms, rfl, R, hq, b, ht, LP, hm, hl, k1, k2⟩ := h
    obtain ⟨fI, fdI, i1, i2, F1, b1⟩ := Z.ex
    refine ⟨_, (pss_cons (ps_set (i := 3) sc_along.nd rfl (.inl rfl) (pe_lst (pa_cons (pe_use UB (hr.mono (by decide)) (by rfl) (pa_cons (pv 0) (pa_cons (pv 1) pa_nil))) pa_nil)))
        (pss_cons (ps_expr (pe_call UC.G (hr.mono (by decide)) (by rfl) UC.m UC.kp UC.b .nil (passes_call (takes_of rfl rfl rfl rfl) (fun _ _ _ _ h => h)) (pa_cons (pv 0) (pa_cons (pv 2) pa_nil))))
        (pss_cons (ps_for (passes_of rfl) rfl (pi_enumT (by rfl) N.enum (pa_cons (pv 2) pa_nil)) (pg_tup rfl (pgs_cons (pg_name (i := 4) sc_along.nd rfl (.inl rfl)) (pgs_cons (pg_tup rfl (pgs_cons (pg_name (i := 5) sc_along.nd rfl (.inl rfl)) (pgs_cons (pg_name (i := 6) sc_along.nd rfl (.inl rfl)) pgs_nil))) pgs_nil)))
          (pss_cons (ps_set (i := 7) sc_along.nd rfl (.inl rfl) (pe_ix ix_list (pv 3) (pe_un un_neg pe_int) (fun _ _ => rfl)))
          (pss_cons (ps_set (i := 8) sc_along.nd rfl (.inl rfl) (pe_ifExp (pt_cmpR op_eq (pv 5) pe_str (nomark _)) (pe_ix ix_tup (pv 7) pe_int (fun _ _ => rfl)) (pe_ix ix_tup (pv 7) (pe_un un_neg pe_int) (fun _ _ => rfl))))
          (pss_cons (ps_if (PW.pt (pw_or (pt_cmpR op_notIn_seq (pv 6) (pe_meth (pv 0) X.cl Mn.m Mn.G (hr.mono (by decide)) Mn.b .nil pass0 (pa_cons (pv 8) pa_nil)) (by with_unfolding_all rfl)) (pw_or1 (pt_cmpR op_in_seq (pv 6) (pv 7) (by with_unfolding_all rfl))))) (pss_one (ps_raise rfl (takes_of rfl rfl rfl rfl) (pmk_oxg Z.ox i1 i2 F1 (hr.mono (by decide)) b1 .nil pass0 rfl Z.mgC (pa_cons (pv 4) pa_nil)))) pss_nil)
          (pss_one (ps_expr (pe_bm PySem.F.plainAttrs_list PySem.F.slot_list_append PySem.F.type_list_append mt_append (pv 3) (pa_cons (pe_use UA (hr.mono (by decide)) (by rfl) (pa_cons (pv 7) (pa_cons (pv 5) (pa_cons (pv 6) pa_nil)))) pa_nil))))))))
        (pss_one (ps_ret (pv 3)))))), ?_⟩
    have one : (1 : Nat) ≤ sizeLine := by rw [sizeLine_eq]; decide
    have T := R.T
    refine ⟨_, rfl, _, rfl, r, q, tr, hd0 l, lt0 l, rfl, R, hq, b.hle, b.lle, b.ne, fun l' p H1 sw s1 np hp => ?_⟩
    cases SW.uniq T sw b.sw
    refine ⟨one, fun D nD => ?_⟩
    have a0 : Acc BdR H1 (upd H1 D (.lst [V.ref p])) D [p] [l] := ⟨upd_same, same_upd nD _, .one (same_upd nD _ _ _ hp)⟩
    have s2 := s1.trans a0.sm
    generalize upd H1 D (.lst [V.ref p]) = H2 at a0 s2 ⊢
    obtain ⟨q1, q2⟩ := pv_mvs (K := K) (LP.same firmM s2) hm
    refine ⟨_, rfl, _, rfl, r, tr, _, rfl, R.same s2, .inl ⟨t, _, _, rfl, s2 _ _ ht, q1, flat_mvs ms, fun _ H3 s3 => ?_, fun i e => absurd (q2.symm.trans e) (fun z => by cases z)⟩⟩
    have a3 := a0.later firmB s3
    refine ⟨_, rfl, t, _, rfl, SqT.of ((s2.trans s3) _ _ ht), ?_⟩
    have lm : ps.length = ms.length := LP.len
    refine for_enumT (K := K) (a := t) (xs := ps.map V.ref) (fun i σ H' => ∃ (bs : List Addr) (x4 x5 x6 x7 x8 : Option V), σ = [some (.ref r), some (.ref q), some (.ref t), some (.ref D), x4, x5, x6, x7, x8] ∧ Acc BdR H1 H' D bs ((runM tr l ms).take (i + 1)) ∧ i ≤ ms.length ∧ Bd tr (endB l (ms.take i)) ∧ fstBad tr l ms = (fstBad tr (endB l (ms.take i)) (ms.drop i)).map (· + i))
      ⟨[p], _, _, _, _, _, rfl, ?_, Nat.zero_le _, b, ?_⟩ (fun i σ H' _ ⟨_, _, _, _, _, _, _, a, _⟩ => SqT.of ((s1.trans a.sm) _ _ ht)) ?_ ?_
    · cases ms with
      | nil => exact a3
      | cons m ms => exact a3
    · rw [List.drop_zero]
      show _ = (fstBad tr l ms).map _
      cases fstBad tr l ms <;> rfl
    · rintro i v T0 σ H4 hv ⟨bs, x4, x5, x6, x7, x8, rfl, a, hi, bi, ef⟩ nT
      obtain ⟨pm, m, rfl, hpm, hmi, hR⟩ := LP.get hv
      have lti : i < ms.length := (List.getElem?_eq_some_iff.mp hmi).1
      have sT := same_upd nT (.tup [V.int (i : Nat), .ref pm])
      have hT := upd_same (H := H4) (a := T0) (o := .tup [V.int (i : Nat), .ref pm])
      have nDT : D ≠ T0 := fun z => by
        have := a.own
        rw [z, nT] at this
        cases this
      have a := a.later firmB sT
      generalize upd H4 T0 (.tup [V.int (i : Nat), .ref pm]) = H5 at sT hT a ⊢
      have s15 := s1.trans a.sm
      have hR5 := firmM _ _ _ _ s15 hR
      have lb : bs.length = i + 1 := by
        rw [a.lay.len, List.length_take, runM_len]
        omega
      have eb : ((runM tr l ms).take (i + 1))[i]? = some (endB l (ms.take i)) := by
        rw [List.getElem?_take, if_pos (Nat.lt_succ_self i)]
        exact bodyAt_take l ms i hi
      obtain ⟨pb, hpb, hbR⟩ := a.lay.of eb
      have etk : (runM tr l ms).take (i + 1 + 1) = (runM tr l ms).take (i + 1) ++ [endB l (ms.take (i + 1))] := take_snoc (bodyAt_take l ms (i + 1) lti)
      have emt : ms.take (i + 1) = ms.take i ++ [m] := take_snoc hmi
      have een : endB l (ms.take (i + 1)) = aft (endB l (ms.take i)) m := by
        rw [emt, endB_app]
        rfl
      have edr : ms.drop i = m :: ms.drop (i + 1) := by
        obtain ⟨lt, e⟩ := List.getElem?_eq_some_iff.mp hmi
        rw [← e]
        exact List.drop_eq_getElem_cons lt
      rw [edr] at ef
      rw [etk, een]
      generalize endB l (ms.take i) = lc at bi ef hbR eb ⊢
      have R5 := R.same s15
      obtain ⟨_, _, dx, tt, na, Aa, L, ps0, ts0, h1, _⟩ := id R5
      have lcl : lc.length ≤ 1000 := by
        have := nd_len bi.sw.nd bi.le
        have := R.few
        omega
      refine ⟨T0, _, rfl, SqT.of hT, rfl, _, _, rfl, _, _, rfl, pm, _, rfl, SqT.of hR5, rfl, _, _, rfl, _, _, rfl, rfl, rfl, ?_⟩
      refine ⟨_, rfl, _, rfl, D, _, _, _, rfl, rfl, SqL.of a.own, atI_lastV (by rw [List.length_map]; exact lb) (map_get hpb), ?_⟩
      refine old_read (e := m.1) rfl rfl hbR bi.two ?_
      refine ⟨_, rfl, _, rfl, r, dx, _, rfl, h1, flR_no (by decide +kernel) (by decide +kernel) (by decide +kernel) (by decide +kernel), _, rfl, r, tr, endM lc m.1, rfl, R5, bi.endle _, fun tn htn => ?_⟩
      refine ⟨tn, _, rfl, .inr (SqT.of htn), rfl, iv_flat _, _, rfl, ?_⟩
      rw [inV_iv]
      have ecan := can_iff (tr := tr) (l := lc) (m := m)
      have raise : canM tr lc m = false → ∀ d, H5 d = none → E (.ref CB) (some d) (upd H5 d (.xd [("position", iv i)])) := fun c d nd => by
        refine k2 i ?_ d H5 s15 nd
        rw [ef]
        show (if canM tr lc m = true then _ else _ : Option Nat).map _ = _
        rw [if_neg (by rw [c]; decide)]
        show some (0 + i) = some i
        rw [Nat.zero_add]
      by_cases c1 : m.2 ∈ nb tr (endM lc m.1)
      · rw [show (if true = true then !decide (m.2 ∈ nb tr (endM lc m.1)) else decide (m.2 ∈ nb tr (endM lc m.1))) = false from by simp [c1]]
        refine iteF ?_
        refine ⟨_, rfl, _, rfl, pb, _, rfl, .inr (SqT.of hbR), rfl, iv_flat _, _, rfl, ?_⟩
        rw [inV_iv]
        by_cases c2 : m.2 ∈ lc
        · rw [show (if false = true then !decide (m.2 ∈ lc) else decide (m.2 ∈ lc)) = true from by simp [c2]]
          refine iteT ?_
          exact ⟨_, rfl, rz_end (raise (by rw [ecan]; simp [c2]))⟩
        · rw [show (if false = true then !decide (m.2 ∈ lc) else decide (m.2 ∈ lc)) = false from by simp [c2]]
          refine iteF ?_
          have hcan : canM tr lc m = true := by
            rw [ecan]
            simp [c1, c2]
          refine ⟨_, rfl, .inl ⟨rfl, _, SqL.of a.own⟩, _, rfl, _, rfl, _, rfl, pb, lc, m, rfl, hbR, bi.two, lcl, fun q2 H6 s6 nq2 hb2 => ⟨D, _, _, rfl, rfl, s6 _ _ a.own, by rw [List.length_map, lb, sizeLine_eq]; omega, ?_⟩⟩
          refine ⟨bs ++ [q2], _, _, _, _, _, rfl, a.push firmB tupyB nD s6 hb2, lti, (bi.aft R.T hcan).1, ?_⟩
          rw [ef]
          show (if canM tr lc m = true then _ else _ : Option Nat).map _ = _
          rw [if_pos hcan, Option.map_map]
          congr 1
          funext z
          show z + 1 + i = z + (i + 1)
          omega
      · rw [show (if true = true then !decide (m.2 ∈ nb tr (endM lc m.1)) else decide (m.2 ∈ nb tr (endM lc m.1))) = true from by simp [c1]]
        refine iteT ?_
        refine iteT ?_
        exact ⟨_, rfl, rz_end (raise (by rw [ecan]; simp [c1]))⟩
    · rintro σ H4 ⟨bs, x4, x5, x6, x7, x8, rfl, a, hi, bi, ef⟩
      rw [List.length_map, lm] at a ef
      have e : fstBad tr l ms = none := by
        rw [ef, List.drop_length]
        rfl
      rw [List.take_of_length_le (by rw [runM_len]; exact Nat.le_refl _)] at a
      refine ⟨_, rfl, k1 e D bs H4 (s1.trans a.sm) a.own a.lay⟩
end
end TR
namespace TR
open PySem PySem.Spec PyProof.Rows L2 L2.TT
def spAround (K : PySem.W.Frag) : Sp := fun vs H Q _ => ∃ (a : Addr) (ps : List Addr) (tr : List E2), vs = [.ref a] ∧ SqT K H a (ps.map V.ref) ∧ Prs H ps tr ∧ (∀ e ∈ tr, e.1 ≠ e.2 ∧ e.1 < tr.length + 1 ∧ e.2 < tr.length + 1) ∧ tr.length ≤ 999 ∧
  ∀ (D : Addr) (ts : List Addr) (H' : Hp), Same H H' → Rws H H' D (tr.length + 1) HO.lst ts (nb tr) → Q (.ref D) H'
section
variable {P : Program} {w : World} {K : PySem.W.Frag} {mg : Str → Option Value} {base : Heap}
theorem sc_links : FnScope ["tracks_here", "found", "one", "two", "spot", "some"] ["tracks_here"] (defScope s_law_links) := ⟨rfl, rfl, rfl, by decide +kernel, rfl, by decide +kernel, by decide +kernel⟩
theorem ok_links {f : Addr} {fd : FuncData} (F : Fun K "_law_links" "_law_links" s_law_links f fd) (N : Nm mg) : FnOk P w K mg base CX0 1 f fd ["tracks_here"] (spAround K) := by
  refine F.ok sc_links (fun vs H Q E h => ?_) (fun cdv A outer s H vs Q E hr h => ?_)
  · obtain ⟨a, ps, tr, rfl, _⟩ := h
    rfl
  · obtain ⟨a, ps, tr, rfl, hS, hP, T, hl, k⟩ := h
    refine ⟨_, pss_cons (ps_setLc (i := 1) (own := [("spot", 4)]) (g := gName 4) (tt := tYes) (by rfl) sc_links.nd rfl rfl (sw_true rfl rfl rfl (by decide +kernel))
        (pi_range1 (by rfl) N.range (pa_cons (pe_op op_add (pe_callB call_len_seq (by rfl) N.len PySem.boot_len (pa_cons (pv 0) pa_nil)) pe_int) pa_nil))
        (blkOk_by (N := ["tracks_here", "found", "one", "two", "spot", "some"]) (sc := defScope s_law_links) (by decide +kernel))
        (fun _ _ _ _ _ => pg_name (i := 4) sc_links.nd rfl (Or.inl rfl)) (fun _ _ _ _ _ => pts_nil) (fun _ _ _ _ _ => pe_lst pa_nil))
      (pss_cons (ps_for PassesOwn.never rfl (pi_tup (pv 0)) (pg_tup rfl (pgs_cons (pg_name (i := 2) sc_links.nd rfl (.inl rfl)) (pgs_cons (pg_name (i := 3) sc_links.nd rfl (.inl rfl)) pgs_nil)))
        (pss_cons (ps_expr (pe_bm PySem.F.plainAttrs_list PySem.F.slot_list_append PySem.F.type_list_append mt_append (pe_ix ix_list (pv 1) (pv 2) (fun _ _ => rfl)) (pa_cons (pv 3) pa_nil)))
        (pss_one (ps_expr (pe_bm PySem.F.plainAttrs_list PySem.F.slot_list_append PySem.F.type_list_append mt_append (pe_ix ix_list (pv 1) (pv 3) (fun _ _ => rfl)) (pa_cons (pv 2) pa_nil))))))
      (pss_one (ps_ret (pe_lc (own := [("some", 5)]) (g := gName 5) (tt := tYes) rfl sc_links.nd (pi_list (pv 1)) (blkOk_by (N := ["tracks_here", "found", "one", "two", "spot", "some"]) (sc := defScope s_law_links) (by decide +kernel))
        (fun _ _ _ _ _ => pg_name (i := 5) sc_links.nd rfl (Or.inl rfl)) (fun _ _ _ _ _ => pts_nil)
        (fun _ _ _ _ _ => pe_callB (cs_K (K := K) rfl) (by rfl) N.sorted boot_sorted (pa_cons (pv 5) pa_nil)))))), ?_⟩
    have lp : (ps.map V.ref).length = tr.length := by rw [List.length_map, hP.1]
    have e62 : (2 : Int) ^ 62 = 4611686018427387904 := by decide
    refine ⟨_, rfl, a, _, rfl, .inr hS, _, _, rfl, rfl, _, rfl, by omega, by rw [lp, e62]; omega, fun r nr => ?_⟩
    refine lc_range (lo := 0) (fun i H' => ∃ as, Rws H H' r i HO.lst as (fun _ => []) ∧ Same H H') ⟨[], rws_start _ _ nr, same_upd nr _⟩ ?_ ?_
    · rintro i H' hi ⟨as, R, s1⟩
      refine ⟨rfl, by show 0 ≤ sizeLine; exact Nat.zero_le _, fun p np => ⟨as.map V.ref, ?_, ?_, as ++ [p], ?_, ?_⟩⟩
      · have npr : r ≠ p := fun z => by rw [← z, R.own] at np; cases np
        rw [upd_ne npr]
        exact R.own
      · rw [List.length_map, R.len, sizeLine_eq]
        rw [lp] at hi
        omega
      · exact R.grow s1 np (fun b hb _ => upd_ne hb) upd_same
      · exact same_old (s1.trans (same_upd np _)) nr _
    rintro H1 ⟨as, R, s1⟩
    have en : (((ps.map V.ref).length : Int) + 1).toNat = tr.length + 1 := by rw [lp]; omega
    have R1 : Rws H H1 r (tr.length + 1) HO.lst as (fun _ => []) := en ▸ R
    clear R
    -- for one, other in tracks
    refine ⟨_, rfl, a, rfl, ⟨_, s1.tp hS⟩, for_tup (K := K) (a := a) (xs := ps.map V.ref) (fun i σ H' => ∃ (as : List Addr) (x2 x3 x4 x5 : Option V), σ = [some (.ref a), some (.ref r), x2, x3, x4, x5] ∧ Same H H' ∧ Rws H H' r (tr.length + 1) HO.lst as (rowOf (tr.take i)))
      ⟨as, none, none, none, none, rfl, s1, R1⟩ (fun i σ H' _ ⟨_, _, _, _, _, _, s2, _⟩ => s2.tp hS) ?_ ?_⟩
    · rintro i v σ H' hv ⟨as, x2, x3, x4, x5, rfl, s2, R⟩
      obtain ⟨p, e, rfl, hp, he, hH⟩ := hP.get hv
      have hm := List.mem_of_getElem? he
      obtain ⟨ne, b1, b2⟩ := T e hm
      have hH2 := s2 _ _ hH
      refine ⟨p, _, rfl, SqT.of hH2, rfl, ?_⟩
      refine ⟨_, _, rfl, _, _, rfl, rfl, ?_⟩
      obtain ⟨r1, g1, h1, n1, d1⟩ := R.get b1
      have hlen : ∀ u, ((rowOf (tr.take i) u).map iv).length ≤ 999 := fun u => by
        rw [List.length_map]
        have := rowOf_len (tr.take i) u
        rw [List.length_take] at this
        omega
      refine ⟨_, rfl, _, rfl, r, _, _, _, rfl, rfl, SqL.of R.own, atN (map_get g1), .inl ⟨rfl, _, SqL.of h1⟩, _, rfl, _, _, _, rfl, rfl, h1, by rw [sizeLine_eq]; have := hlen e.1; omega, ?_⟩
      have e1 : (rowOf (tr.take i) e.1).map iv ++ [iv e.2] = ((fun u => if u = e.1 then rowOf (tr.take i) u ++ [e.2] else rowOf (tr.take i) u) e.1).map iv := by simp
      have R2 := R.put (g := fun u => if u = e.1 then rowOf (tr.take i) u ++ [e.2] else rowOf (tr.take i) u) g1 (fun u hu => by simp [hu])
      rw [← e1] at R2
      have s3 := same_old s2 n1 (.lst ((rowOf (tr.take i) e.1).map iv ++ [iv e.2]))
      generalize upd H' r1 (.lst ((rowOf (tr.take i) e.1).map iv ++ [iv e.2])) = H2 at R2 s3
      obtain ⟨r2, g2, h2, n2, d2⟩ := R2.get b2
      rw [if_neg fun z => ne z.symm] at h2
      refine ⟨_, rfl, _, rfl, r, _, _, _, rfl, rfl, SqL.of R2.own, atN (map_get g2), .inl ⟨rfl, _, SqL.of h2⟩, _, rfl, _, _, _, rfl, rfl, h2, by rw [sizeLine_eq]; have := hlen e.2; omega, ?_⟩
      have et : tr.take (i + 1) = tr.take i ++ [e] := take_snoc he
      have e2 : (rowOf (tr.take i) e.2).map iv ++ [iv e.1] = (rowOf (tr.take (i + 1)) e.2).map iv := by
        rw [et, rowOf_snoc, List.map_append]
        have : bit e.2 e = [e.1] := by unfold bit; rw [if_neg ne, if_pos rfl]
        rw [this]
        rfl
      refine ⟨as, _, _, _, _, rfl, same_old s3 n2 _, ?_⟩
      rw [e2]
      refine R2.put g2 fun u hu => ?_
      rw [et, rowOf_snoc]
      show rowOf (tr.take i) u ++ bit u e = if u = e.1 then rowOf (tr.take i) u ++ [e.2] else rowOf (tr.take i) u
      by_cases c : u = e.1
      · rw [if_pos c]
        unfold bit
        rw [if_pos c.symm]
      · rw [if_neg c]
        unfold bit
        rw [if_neg fun z => c z.symm, if_neg fun z => hu z.symm, List.append_nil]
    · rintro σ H' ⟨as, x2, x3, x4, x5, rfl, s2, R⟩
      have ea : tr.take (ps.map V.ref).length = tr := by rw [lp]; exact List.take_length
      rw [ea] at R
      refine ⟨_, rfl, r, rfl, ⟨_, SqL.of R.own⟩, fun D nD => ?_⟩
      refine lc_list (K := K) (a := r) (xs := as.map V.ref) (fun i H2 => ∃ ts, Rws H' H2 D i HO.lst ts (nb tr) ∧ Same H' H2) ⟨[], rws_start _ _ nD, same_upd nD _⟩ (fun i H2 _ ⟨_, _, s3⟩ => s3.seq (SqL.of R.own)) ?_ ?_
      · rintro i v H2 hv ⟨ts, R2, s3⟩
        obtain ⟨b, hb, rfl⟩ := map_got hv
        obtain ⟨h1, _, _⟩ := R.at_ i b hb
        refine ⟨rfl, ?_⟩
        refine ⟨_, rfl, b, (rowOf tr i).map Int.ofNat, rfl, by rw [ints_map]; exact s3.seq (SqL.of h1), fun ns' p hp hs np => ?_⟩
        have en' : ns'.map V.int = (nb tr i).map iv := by
          rw [srt_of hp hs, ints_map]
          rfl
        rw [en']
        refine ⟨ts.map V.ref, ?_, ?_, ts ++ [p], ?_, ?_⟩
        · have n1 : D ≠ p := fun z => by
            rw [← z, R2.own] at np
            cases np
          rw [upd_ne n1]
          exact R2.own
        · rw [List.length_map, R2.len, sizeLine_eq]
          have := (List.getElem?_eq_some_iff.mp hb).1
          rw [R.len] at this
          omega
        · exact R2.grow s3 np (fun b hb _ => upd_ne hb) upd_same
        · exact same_old (s3.trans (same_upd np _)) nD _
      · rintro H2 ⟨ts, R2, s3⟩
        refine k D ts H2 (s2.trans s3) ?_
        have el : (as.map V.ref).length = tr.length + 1 := by rw [List.length_map, R.len]
        rw [← el]
        exact R2.base s2
end
end TR
namespace TR
section
variable {nr fr : Nat → Nat} {L : Nat}
/-- a part of the body, all else of the train before its ends -/
structure StI (nr fr : Nat → Nat) (L i j : Nat) : Prop where
  lt : i < j
  le : j ≤ L
  n : L ≤ nr i + (j - i)
  f : L ≤ fr j + (j - i)
theorem StI.start (hL : 0 < L) : StI nr fr L 0 L := ⟨hL, Nat.le_refl _, by omega, by omega⟩
/-- a part that no side can make shorter -/
structure Fx (nr fr : Nat → Nat) (L p q : Nat) : Prop where
  lt : p < q
  le : q ≤ L
  n : nr p + (q - p) = L
  f : fr q + (q - p) = L
end
end TR
namespace TR
section
variable {tr : List E2}
/-- depths before the stations of a body, seen from the next one, seen from the one before -/
noncomputable def nrB (tr : List E2) (l : List Nat) (i : Nat) : Nat := dph tr (l.getD i 0) (l.getD (i + 1) 0)
noncomputable def frB (tr : List E2) (l : List Nat) (j : Nat) : Nat := dph tr (l.getD j 0) (l.getD (j - 1) 0)
end
end TR
namespace TR
section
variable {nr fr : Nat → Nat} {L : Nat}
/-- a part that holds whatever the train does -/
structure Cl (nr fr : Nat → Nat) (L p q : Nat) : Prop where
  lt : p < q
  le : q ≤ L
  n : nr p + (q - p) ≤ L
  f : fr q + (q - p) ≤ L
theorem Fx.cl {p q : Nat} (h : Fx nr fr L p q) : Cl nr fr L p q := ⟨h.lt, h.le, Nat.le_of_eq h.n, Nat.le_of_eq h.f⟩
def isCl (nr fr : Nat → Nat) (L p q : Nat) : Bool := decide (nr p + (q - p) ≤ L) && decide (fr q + (q - p) ≤ L)
/-- the parts that hold, in the order of a search for them -/
def clR (P : Nat → Nat → Bool) (L i k : Nat) : List (Nat × Nat) := (((List.range k).map fun d => i + 1 + d).filter (P i)).map fun j => (i, j)
def clA (P : Nat → Nat → Bool) (L : Nat) : Nat → List (Nat × Nat)
  | 0 => []
  | n + 1 => clA P L n ++ clR P L n (L - n)
/-- the widest so far -/
def wid (x : Nat × Nat) : Nat := x.2 - x.1
structure Wst (S : List (Nat × Nat)) (w : Option (Nat × Nat)) : Prop where
  no : w = none → S = []
  mem : ∀ x, w = some x → x ∈ S
  mx : ∀ x, w = some x → ∀ y ∈ S, wid y ≤ wid x
theorem Wst.nil : Wst [] none := ⟨fun _ => rfl, fun _ h => (nomatch h), fun _ h => (nomatch h)⟩
theorem Wst.new {S : List (Nat × Nat)} {w : Option (Nat × Nat)} (h : Wst S w) {y : Nat × Nat} (hy : ∀ x, w = some x → wid x < wid y) : Wst (S ++ [y]) (some y) := by
  refine ⟨fun z => (nomatch z), fun x e => ?_, fun x e z hz => ?_⟩
  · cases e
    simp
  · cases e
    rcases List.mem_append.mp hz with hz | hz
    · cases w with
      | none =>
        rw [h.no rfl] at hz
        cases hz
      | some v =>
        have := h.mx v rfl z hz
        have := hy v rfl
        omega
    · rw [List.mem_singleton] at hz
      rw [hz]
      exact Nat.le_refl _
theorem Wst.old {S : List (Nat × Nat)} {x y : Nat × Nat} (h : Wst S (some x)) (hy : ¬ wid x < wid y) : Wst (S ++ [y]) (some x) := by
  refine ⟨fun z => (nomatch z), fun z e => ?_, fun z e u hu => ?_⟩
  · exact List.mem_append_left _ (h.mem z e)
  · cases e
    rcases List.mem_append.mp hu with hu | hu
    · exact h.mx x rfl u hu
    · rw [List.mem_singleton] at hu
      rw [hu]
      omega
end
end TR
namespace TR
section
variable {tr : List E2}
noncomputable abbrev clB (tr : List E2) (l : List Nat) : List (Nat × Nat) := clA (isCl (nrB tr l) (frB tr l) (l.length - 1)) (l.length - 1) (l.length - 1 + 1)
end
end TR
namespace TR
section
variable {tr : List E2}
/-- the part that all others lie in, as stations -/
def Big (S : List (Nat × Nat)) (x : Nat × Nat) : Prop := x ∈ S ∧ ∀ y ∈ S, x.1 ≤ y.1 ∧ y.2 ≤ x.2
abbrev stE (l : List Nat) (x : Nat × Nat) : E2 := (l.getD x.1 0, l.getD x.2 0)
noncomputable def pk (tr : List E2) (l : List Nat) : Option E2 := open Classical in if h : ∃ x, Big (clB tr l) x then some (stE l h.choose) else none
end
end TR
namespace TR
section
variable {tr : List E2}
/-- a move reversed -/
theorem can_rev (T : TreeL tr) {l : List Nat} {e : Bool} {w : Nat} : canM tr l.reverse (!e, w) = canM tr l (e, w) := by
  unfold canM
  refine decide_eq_decide.mpr ?_
  rw [mem_fre T, mem_fre T, List.mem_reverse]
  cases e with
  | true =>
    show Adj tr (lt0 l.reverse) w ∧ _ ↔ Adj tr (hd0 l) w ∧ _
    rw [lt0_rev]
  | false =>
    show Adj tr (hd0 l.reverse) w ∧ _ ↔ Adj tr (lt0 l) w ∧ _
    rw [hd0_rev]
theorem aft_rev {l : List Nat} {e : Bool} {w : Nat} : aft l.reverse (!e, w) = (aft l (e, w)).reverse := by
  cases e with
  | true =>
    show l.reverse.tail ++ [w] = (w :: l.dropLast).reverse
    rw [List.reverse_cons, List.tail_reverse]
  | false =>
    show w :: l.reverse.dropLast = (l.tail ++ [w]).reverse
    rw [List.reverse_append, List.dropLast_reverse]
    rfl
/-- one body leads to another -/
def Leads (tr : List E2) (l m : List Nat) : Prop := ∃ ms, okM tr l ms = true ∧ endB l ms = m
theorem Leads.refl (l : List Nat) : Leads tr l l := ⟨[], rfl, rfl⟩
theorem Leads.trans {l m k : List Nat} (h : Leads tr l m) (g : Leads tr m k) : Leads tr l k := by
  obtain ⟨ms, h1, rfl⟩ := h
  obtain ⟨ns, g1, rfl⟩ := g
  exact ⟨ms ++ ns, by rw [okM_app, h1, g1]; rfl, endB_app ms ns l⟩
theorem Leads.one {l : List Nat} {m : Mv} (h : canM tr l m = true) : Leads tr l (aft l m) := ⟨[m], by show (canM tr l m && true) = true; rw [h]; rfl, rfl⟩
theorem leads_ind {C : List Nat → Prop} (hs : ∀ l m, C l → canM tr l m = true → C (aft l m)) : ∀ (ms : List Mv) (l : List Nat), okM tr l ms = true → C l → C (endB l ms)
  | [], _, _, h => h
  | m :: ms, l, ok, h => by
    have ok : (canM tr l m && okM tr (aft l m) ms) = true := ok
    rw [Bool.and_eq_true] at ok
    exact leads_ind hs ms (aft l m) ok.2 (hs l m h ok.1)
theorem Leads.bd (T : TreeL tr) {l m : List Nat} (h : Leads tr l m) (b : Bd tr l) : Bd tr m ∧ m.length = l.length := by
  obtain ⟨ms, ok, rfl⟩ := h
  exact leads_ind (C := fun k => Bd tr k ∧ k.length = l.length) (fun k m hk hc => ⟨(hk.1.aft T hc).1, (hk.1.aft T hc).2.trans hk.2⟩) ms l ok ⟨b, rfl⟩
theorem Leads.symm (T : TreeL tr) {l m : List Nat} (h : Leads tr l m) (b : Bd tr l) : Leads tr m l := by
  obtain ⟨ms, ok, rfl⟩ := h
  refine (leads_ind (C := fun k => Bd tr k ∧ Leads tr k l) (fun k m hk hc => ⟨(hk.1.aft T hc).1, ?_⟩) ms l ok ⟨b, .refl l⟩).2
  obtain ⟨h1, h2⟩ := hk.1.back T hc
  have := Leads.one h1
  rw [h2] at this
  exact this.trans hk.2
theorem Leads.rev (T : TreeL tr) {l m : List Nat} (h : Leads tr l m) : Leads tr l.reverse m.reverse := by
  obtain ⟨ms, ok, rfl⟩ := h
  refine leads_ind (C := fun k => Leads tr l.reverse k.reverse) (fun k m hk hc => ?_) ms l ok (.refl _)
  obtain ⟨e, w⟩ := m
  rw [← can_rev T] at hc
  have := Leads.one hc
  rw [aft_rev] at this
  exact hk.trans this
end
end TR
namespace TR
section
variable {tr : List E2}
/-- what a search has found; ws waits -/
structure Bc (tr : List E2) (l : List Nat) (bs ws : List (List Nat)) : Prop where
  hd : bs.head? = some l
  ld : ∀ m ∈ bs, Leads tr l m
  nd : bs.Nodup
  ws_ : ∀ m ∈ ws, m ∈ bs
  cl : ∀ m ∈ bs, m ∉ ws → ∀ mv ∈ poss tr m, aft m mv ∈ bs
/-- .. while the moves of m are looked at -/
structure Bm (tr : List E2) (l m : List Nat) (j : Nat) (bs ws : List (List Nat)) : Prop where
  hd : bs.head? = some l
  ld : ∀ m ∈ bs, Leads tr l m
  nd : bs.Nodup
  ws_ : ∀ m ∈ ws, m ∈ bs
  mm : m ∈ bs
  cl : ∀ k ∈ bs, k ∉ ws → k ≠ m → ∀ mv ∈ poss tr k, aft k mv ∈ bs
  cm : ∀ mv ∈ (poss tr m).take j, aft m mv ∈ bs
theorem Bc.start (l : List Nat) : Bc tr l [l] [l] := ⟨rfl, fun m hm => by rw [List.mem_singleton] at hm; rw [hm]; exact .refl l, by simp, fun m hm => hm, fun m hm hn => absurd hm hn⟩
theorem Bm.skip {l m : List Nat} {j : Nat} {bs ws : List (List Nat)} (b : Bm tr l m j bs ws) {mv : Mv} (hj : (poss tr m)[j]? = some mv) (h : aft m mv ∈ bs) : Bm tr l m (j + 1) bs ws :=
  ⟨b.hd, b.ld, b.nd, b.ws_, b.mm, b.cl, fun v hv => by
    rw [List.take_add_one, hj] at hv
    rcases List.mem_append.mp hv with hv | hv
    · exact b.cm v hv
    · have : v = mv := by simpa using hv
      rw [this]
      exact h⟩
theorem Bm.add {l m : List Nat} {j : Nat} {bs ws : List (List Nat)} (b : Bm tr l m j bs ws) {mv : Mv} (hj : (poss tr m)[j]? = some mv) (h : aft m mv ∉ bs) : Bm tr l m (j + 1) (bs ++ [aft m mv]) (ws ++ [aft m mv]) := by
  have hc : canM tr m mv = true := decide_eq_true (mem_poss.mp (List.mem_of_getElem? hj))
  refine ⟨?_, fun k hk => ?_, ?_, fun k hk => ?_, List.mem_append_left _ b.mm, fun k hk hn ne v hv => ?_, fun v hv => ?_⟩
  · rw [List.head?_append, b.hd]
    rfl
  · rcases List.mem_append.mp hk with hk | hk
    · exact b.ld k hk
    · rw [List.mem_singleton] at hk
      rw [hk]
      exact (b.ld m b.mm).trans (.one hc)
  · rw [List.nodup_append]
    refine ⟨b.nd, by simp, fun u hu v hv e => ?_⟩
    rw [List.mem_singleton] at hv
    rw [hv] at e
    exact h (e ▸ hu)
  · rcases List.mem_append.mp hk with hk | hk
    · exact List.mem_append_left _ (b.ws_ k hk)
    · exact List.mem_append_right _ hk
  · rcases List.mem_append.mp hk with hk | hk
    · exact List.mem_append_left _ (b.cl k hk (fun z => hn (List.mem_append_left _ z)) ne v hv)
    · exact absurd (List.mem_append_right _ hk) hn
  · rw [List.take_add_one, hj] at hv
    rcases List.mem_append.mp hv with hv | hv
    · exact List.mem_append_left _ (b.cm v hv)
    · have : v = mv := by simpa using hv
      rw [this]
      exact List.mem_append_right _ (by simp)
theorem Bm.back {l m : List Nat} {bs ws : List (List Nat)} (b : Bm tr l m (poss tr m).length bs ws) : Bc tr l bs ws := by
  refine ⟨b.hd, b.ld, b.nd, b.ws_, fun k hk hn => ?_⟩
  by_cases c : k = m
  · subst c
    have := b.cm
    rw [List.take_length] at this
    exact this
  · exact b.cl k hk hn c
theorem Bc.all {l : List Nat} {bs : List (List Nat)} (b : Bc tr l bs []) : ∀ m, Leads tr l m ↔ m ∈ bs := fun m => by
  constructor
  · rintro ⟨ms, ok, rfl⟩
    refine leads_ind (C := fun k => k ∈ bs) (fun k v hk hc => b.cl k hk (fun z => by cases z) v (mem_poss.mpr (of_decide_eq_true hc))) ms l ok ?_
    have := b.hd
    exact List.mem_of_mem_head? (by rw [this]; rfl)
  · exact b.ld m
/-- the ends of a body -/
def endsB (m : List Nat) : E2 := (hd0 m, lt0 m)
end
end TR
namespace TR
section
variable {tr : List E2}
/-- what a search has found, while the moves ms of m are looked at -/
structure BmG (tr : List E2) (l m : List Nat) (ms : List Mv) (j : Nat) (bs ws : List (List Nat)) : Prop where
  hd : bs.head? = some l
  ld : ∀ m ∈ bs, Leads tr l m
  nd : bs.Nodup
  ws_ : ∀ m ∈ ws, m ∈ bs
  mm : m ∈ bs
  cl : ∀ k ∈ bs, k ∉ ws → k ≠ m → ∀ mv ∈ poss tr k, aft k mv ∈ bs
  cm : ∀ mv ∈ ms.take j, aft m mv ∈ bs
theorem BmG.skip {l m : List Nat} {ms : List Mv} {j : Nat} {bs ws : List (List Nat)} (b : BmG tr l m ms j bs ws) {mv : Mv} (hj : ms[j]? = some mv) (h : aft m mv ∈ bs) : BmG tr l m ms (j + 1) bs ws :=
  ⟨b.hd, b.ld, b.nd, b.ws_, b.mm, b.cl, fun v hv => by
    rw [List.take_add_one, hj] at hv
    rcases List.mem_append.mp hv with hv | hv
    · exact b.cm v hv
    · have : v = mv := by simpa using hv
      rw [this]
      exact h⟩
theorem BmG.add {l m : List Nat} {ms : List Mv} {j : Nat} {bs ws : List (List Nat)} (b : BmG tr l m ms j bs ws) {mv : Mv} (hj : ms[j]? = some mv) (hm : mv ∈ poss tr m) (h : aft m mv ∉ bs) : BmG tr l m ms (j + 1) (bs ++ [aft m mv]) (ws ++ [aft m mv]) := by
  have hc : canM tr m mv = true := decide_eq_true (mem_poss.mp hm)
  refine ⟨?_, fun k hk => ?_, ?_, fun k hk => ?_, List.mem_append_left _ b.mm, fun k hk hn ne v hv => ?_, fun v hv => ?_⟩
  · rw [List.head?_append, b.hd]
    rfl
  · rcases List.mem_append.mp hk with hk | hk
    · exact b.ld k hk
    · rw [List.mem_singleton] at hk
      rw [hk]
      exact (b.ld m b.mm).trans (.one hc)
  · rw [List.nodup_append]
    refine ⟨b.nd, by simp, fun u hu v hv e => ?_⟩
    rw [List.mem_singleton] at hv
    rw [hv] at e
    exact h (e ▸ hu)
  · rcases List.mem_append.mp hk with hk | hk
    · exact List.mem_append_left _ (b.ws_ k hk)
    · exact List.mem_append_right _ hk
  · rcases List.mem_append.mp hk with hk | hk
    · exact List.mem_append_left _ (b.cl k hk (fun z => hn (List.mem_append_left _ z)) ne v hv)
    · exact absurd (List.mem_append_right _ hk) hn
  · rw [List.take_add_one, hj] at hv
    rcases List.mem_append.mp hv with hv | hv
    · exact List.mem_append_left _ (b.cm v hv)
    · have : v = mv := by simpa using hv
      rw [this]
      exact List.mem_append_right _ (by simp)
theorem BmG.back {l m : List Nat} {ms : List Mv} {bs ws : List (List Nat)} (b : BmG tr l m ms ms.length bs ws) (h : ∀ mv ∈ poss tr m, mv ∈ ms) : Bc tr l bs ws := by
  refine ⟨b.hd, b.ld, b.nd, b.ws_, fun k hk hn mv hmv => ?_⟩
  by_cases c : k = m
  · subst c
    have := b.cm
    rw [List.take_length] at this
    exact this mv (h mv hmv)
  · exact b.cl k hk hn c mv hmv
end
end TR
namespace TR
section
variable {tr : List E2}
/-- the station before the last one of a path is unique -/
theorem pre_uniq (T : TreeL tr) {s u v w : Nat} (hs : s ≤ tr.length) (hw : w ≤ tr.length) (h1 : Adj tr u w) (h2 : Adj tr v w) (d1 : dst tr s u + 1 = dst tr s w) (d2 : dst tr s v + 1 = dst tr s w) : u = v := by
  have key : ∀ {x : Nat}, Adj tr x w → dst tr s x + 1 = dst tr s w → ∃ l, SW tr s x l ∧ SW tr s w (l ++ [w]) := fun {x} hx d => by
    have xl := (T.adj_le hx).1
    obtain ⟨l, sw, _⟩ := sw_ex T hs xl
    refine ⟨l, sw, sw.snoc hx fun hm => ?_⟩
    obtain ⟨i, hi⟩ := List.mem_iff_getElem?.mp hm
    have lt := (List.getElem?_eq_some_iff.mp hi).1
    have e1 := dst_eq T sw
    have e2 := dst_eq T (sw.take hi)
    rw [List.length_take] at e2
    omega
  obtain ⟨l, s1, k1⟩ := key h1 d1
  obtain ⟨m, s2, k2⟩ := key h2 d2
  have e := SW.uniq T k1 k2
  have e := List.append_cancel_right e
  subst e
  exact Option.some.inj (s1.lt.symm.trans s2.lt)
/-- a search from a station: seen ones, the first n of them done -/
structure Gp (tr : List E2) (s : Nat) (ws : List Nat) (n : Nat) : Prop where
  nd : ws.Nodup
  le : ∀ v ∈ ws, v ≤ tr.length
  st : s ∈ ws
  pre : ∀ v ∈ ws, ∀ u, Adj tr u v → dst tr s u + 1 = dst tr s v → u ∈ ws
  dn : ∀ (i v : Nat), i < n → ws[i]? = some v → ∀ w, Adj tr v w → w ∈ ws
theorem Gp.start (T : TreeL tr) {s : Nat} (hs : s ≤ tr.length) : Gp tr s [s] 0 := by
  refine ⟨by simp, fun v hv => by rw [List.mem_singleton.mp hv]; exact hs, by simp, fun v hv u _ d => ?_, fun i v hi => absurd hi (Nat.not_lt_zero _)⟩
  rw [List.mem_singleton.mp hv, dst_self T] at d
  omega
theorem Gp.add (T : TreeL tr) {s n : Nat} (hs : s ≤ tr.length) {ws : List Nat} (g : Gp tr s ws n) (hn : n ≤ ws.length) {v w : Nat} (hv : v ∈ ws) (h : Adj tr v w) (hw : w ∉ ws) : Gp tr s (ws ++ [w]) n ∧ dst tr s w = dst tr s v + 1 := by
  have vl := g.le v hv
  have wl := (T.adj_le h).2
  have d : dst tr s w = dst tr s v + 1 := by
    rcases dst_adj T hs vl h with e | e
    · exact e
    · exact absurd (g.pre v hv w h.symm e.symm) hw
  refine ⟨⟨List.nodup_append.mpr ⟨g.nd, by simp, fun a ha b hb => ?_⟩, fun x hx => ?_, List.mem_append_left _ g.st, fun x hx u hu du => ?_, fun i x hi hx y hy => ?_⟩, d⟩
  · rw [List.mem_singleton.mp hb]
    exact fun z => hw (z ▸ ha)
  · rcases List.mem_append.mp hx with hx | hx
    · exact g.le x hx
    · rw [List.mem_singleton.mp hx]
      exact wl
  · rcases List.mem_append.mp hx with hx | hx
    · exact List.mem_append_left _ (g.pre x hx u hu du)
    · rw [List.mem_singleton.mp hx] at hu du
      rw [pre_uniq T hs wl hu h du d.symm]
      exact List.mem_append_left _ hv
  · rw [List.getElem?_append_left (by omega)] at hx
    exact List.mem_append_left _ (g.dn i x hi hx y hy)
theorem Gp.next {s n : Nat} {ws : List Nat} (g : Gp tr s ws n) {v : Nat} (hv : ws[n]? = some v) (h : ∀ w, Adj tr v w → w ∈ ws) : Gp tr s ws (n + 1) := by
  refine ⟨g.nd, g.le, g.st, g.pre, fun i x hi hx => ?_⟩
  by_cases c : i = n
  · rw [c, hv] at hx
    cases hx
    exact h
  · exact g.dn i x (by omega) hx
theorem Gp.all (T : TreeL tr) {s : Nat} (hs : s ≤ tr.length) {ws : List Nat} (g : Gp tr s ws ws.length) : ∀ v, v ≤ tr.length → v ∈ ws := by
  have key : ∀ d v, v ≤ tr.length → dst tr s v = d → v ∈ ws := by
    intro d
    induction d with
    | zero =>
      intro v hv h
      rw [dst_zero T hs hv h]
      exact g.st
    | succ d ih =>
      intro v hv h
      have ne : v ≠ s := fun z => by
        rw [z, dst_self T] at h
        omega
      obtain ⟨u, ul, ad, du⟩ := dst_prev T hs hv ne
      obtain ⟨i, hi⟩ := List.mem_iff_getElem?.mp (ih u ul (by omega))
      exact g.dn i u (List.getElem?_eq_some_iff.mp hi).1 hi v ad
  exact fun v hv => key _ v hv rfl
end
end TR
namespace TR
section
variable {tr : List E2}
/-- the station before the tail -/
theorem nx_pen (T : TreeL tr) {l : List Nat} (b : Bd tr l) : SW tr (hd0 l) (lt0 l.dropLast) l.dropLast ∧ Adj tr (lt0 l) (lt0 l.dropLast) := by
  obtain ⟨r, z, e, hr⟩ := bd_snoc b.two
  have ez : lt0 l = z := by rw [e, lt0_snoc]
  have s := b.sw
  rw [ez] at s ⊢
  rw [e] at s ⊢
  rw [List.dropLast_concat]
  obtain ⟨r', x, e2⟩ : ∃ r' x, r = r' ++ [x] := ⟨r.dropLast, r.getLast hr, (List.dropLast_concat_getLast hr).symm⟩
  have ex : lt0 r = x := by rw [e2, lt0_snoc]
  rw [ex]
  constructor
  · refine ⟨wk_init s.wk, (List.nodup_append.mp s.nd).1, ?_, by rw [e2]; simp⟩
    have := s.hd
    rw [List.head?_append] at this
    obtain ⟨y, r2, e3⟩ := List.exists_cons_of_ne_nil hr
    rw [e3] at this ⊢
    exact this
  · have s2 := s
    rw [e2, List.append_assoc] at s2
    have := (SW.part (l := r') (w := x) (r := [z]) s2).wk.1
    exact this.sym
/-- the ends after a move -/
theorem ends_head {l : List Nat} (h : 2 ≤ l.length) (w : Nat) : endsB (aft l (true, w)) = (w, lt0 l.dropLast) := by
  obtain ⟨r, z, e, hr⟩ := bd_snoc h
  unfold endsB aft
  rw [if_pos rfl, e, List.dropLast_concat]
  refine Prod.ext rfl ?_
  show lt0 (w :: r) = lt0 r
  obtain ⟨r', x, e2⟩ : ∃ r' x, r = r' ++ [x] := ⟨r.dropLast, r.getLast hr, (List.dropLast_concat_getLast hr).symm⟩
  rw [e2, lt0_snoc, ← List.cons_append, lt0_snoc]
theorem ends_tail {l : List Nat} (h : 2 ≤ l.length) (w : Nat) : endsB (aft l (false, w)) = (hd0 l.tail, w) := by
  obtain ⟨x, r, e, hr⟩ := bd_cons h
  unfold endsB aft
  rw [if_neg (by simp), e]
  refine Prod.ext ?_ lt0_snoc
  show hd0 (r ++ [w]) = hd0 r
  obtain ⟨y, r2, e3⟩ := List.exists_cons_of_ne_nil hr
  rw [e3]
  rfl
end
end TR
namespace TR
open PySem PySem.Spec PyProof.Rows L2 L2.TT StX ClX
def spFts (K : PySem.W.Frag) : Sp := fun vs H Q _ => ∃ (a t q : Addr) (tr : List E2) (l : List Nat) (m : Mv), vs = [.ref a, .ref t, .ref q] ∧ Ard K H a tr ∧ TreeL tr ∧ tr.length ≤ 99 ∧ H t = some (.tup [iv (hd0 l), iv (lt0 l)]) ∧ Bd tr l ∧ MvR H q m ∧ ∀ H', Same H H' → Q (.bl (canM tr l m)) H'
def spGne (K : PySem.W.Frag) : Sp := fun vs H Q _ => ∃ (a t q : Addr) (tr : List E2) (l : List Nat) (m : Mv), vs = [.ref a, .ref t, .ref q] ∧ Ard K H a tr ∧ TreeL tr ∧ tr.length ≤ 99 ∧ H t = some (.tup [iv (hd0 l), iv (lt0 l)]) ∧ Bd tr l ∧ MvR H q m ∧ canM tr l m = true ∧ ∀ p H', Same H H' → H p = none → H' p = some (.tup [iv (hd0 (aft l m)), iv (lt0 (aft l m))]) → Q (.ref p) H'
def spChn (K : PySem.W.Frag) : Sp := fun vs H Q _ => ∃ (a t : Addr) (tr : List E2) (l : List Nat), vs = [.ref a, .ref t] ∧ Ard K H a tr ∧ TreeL tr ∧ tr.length ≤ 99 ∧ H t = some (.tup [iv (hd0 l), iv (lt0 l)]) ∧ Bd tr l ∧ ∀ D qs H', Same H H' → H D = none → H' D = some (.lst (qs.map V.ref)) → Lay MvR H' qs (poss tr l) → Q (.ref D) H'
theorem pen_at {tr : List E2} (T : TreeL tr) {l : List Nat} (b : Bd tr l) : atI (l.map iv) (-2) = some (iv (lt0 l.dropLast)) := by
  have b2 := b.two
  have ex : ixN (l.map iv).length (-2) = some (l.length - 2) := by
    unfold ixN
    rw [if_neg (by omega), if_pos (by rw [List.length_map]; omega), List.length_map]
    congr 1
    omega
  unfold atI
  rw [ex]
  show (l.map iv)[l.length - 2]? = _
  have : l.dropLast[l.length - 2]? = some (lt0 l.dropLast) := by
    have h := sw_atl (nx_pen T b).1
    rw [List.length_dropLast, show l.length - 1 - 1 = l.length - 2 by omega] at h
    exact h
  rw [List.getElem?_map]
  rw [List.dropLast_eq_take, List.getElem?_take, if_pos (by omega)] at this
  rw [this]
  rw [List.dropLast_eq_take]
  rfl
theorem snd_at {l : List Nat} (b2 : 2 ≤ l.length) : atI (l.map iv) 1 = some (iv (hd0 l.tail)) := by
  obtain ⟨x, r, e, hr⟩ := bd_cons b2
  obtain ⟨y, r2, e2⟩ := List.exists_cons_of_ne_nil hr
  rw [e, e2]
  exact atN (n := 1) rfl
theorem poss_fil (tr : List E2) (l : List Nat) : ((nb tr (hd0 l)).map (fun w => ((true, w) : Mv)) ++ (nb tr (lt0 l)).map (fun w => ((false, w) : Mv))).filter (canM tr l) = poss tr l := by
  have h : ∀ (e : Bool) (xs : List Nat), (∀ w ∈ xs, w ∈ nb tr (endM l e)) → (xs.map (fun w => ((e, w) : Mv))).filter (canM tr l) = (xs.filter fun w => decide (w ∉ l)).map (fun w => (e, w)) := by
    intro e xs
    induction xs with
    | nil => intro _; rfl
    | cons x xs ih =>
      intro hx
      have ih := ih fun w hw => hx w (List.mem_cons_of_mem _ hw)
      have c : canM tr l (e, x) = decide (x ∉ l) := by
        rw [can_iff, show decide (((e, x) : Mv).2 ∈ nb tr (endM l ((e, x) : Mv).1)) = true from decide_eq_true (hx x List.mem_cons_self), Bool.true_and]
      rw [List.map_cons, List.filter_cons, List.filter_cons, c]
      by_cases z : x ∉ l
      · rw [decide_eq_true z, if_pos rfl, if_pos rfl, List.map_cons, ih]
      · rw [decide_eq_false z, if_neg (by decide), if_neg (by decide), ih]
  have h1 := h true (nb tr (hd0 l)) (fun w hw => hw)
  have h2 := h false (nb tr (lt0 l)) (fun w hw => hw)
  rw [List.filter_append, h1, h2]
  rfl
section
variable {P : Program} {w : World} {K : PySem.W.Frag} {mg : Str → Option Value} {base : Heap}
abbrev N_sc_fts : List Str := ["links", "place", "move", "end"]
theorem sc_fts : FnScope N_sc_fts ["links", "place", "move"] (defScope s_law_fits) := ⟨rfl, rfl, rfl, by decide +kernel, rfl, by decide +kernel, by decide +kernel⟩
theorem ok_fts {f fR : Addr} {fd fdR : FuncData} (F : Fun K "_law_fits" "_law_fits" s_law_fits f fd) (UR : Use P w K mg base CX0 1 "_law_route" fR fdR ["links", "one", "two"] (spBdy K)) : FnOk P w K mg base CX0 2 f fd ["links", "place", "move"] (spFts K) := by
  refine F.ok sc_fts (fun vs H Q E h => ?_) (fun cdv A outer s H vs Q E hr h => ?_)
  · obtain ⟨a, t, q, tr, l, m, rfl, _⟩ := h
    rfl
  · obtain ⟨a, t, q, tr, l, m, rfl, hA, T, hl, ht, bd, hq, k⟩ := h
    refine ⟨_, (pss_cons (ps_set (i := 3) sc_fts.nd rfl (.inl rfl) (pe_ifExp (pt_cmpR op_eq (pe_ix ix_tup (pv 2) pe_int (fun _ _ => rfl)) pe_str (nomark _)) (pe_ix ix_tup (pv 1) pe_int (fun _ _ => rfl)) (pe_ix ix_tup (pv 1) pe_int (fun _ _ => rfl))))
        (pss_one (ps_ret (pe_and (pe_cmpR op_in_seq (pe_ix ix_tup (pv 2) pe_int (fun _ _ => rfl)) (pe_ix ix_list (pv 0) (pv 3) (fun _ _ => rfl)) (by with_unfolding_all rfl)) (pe_one (pe_cmpR op_notIn_seq (pe_ix ix_tup (pv 2) pe_int (fun _ _ => rfl)) (pe_use UR hr (by rfl) (pa_cons (pv 0) (pa_cons (pe_ix ix_tup (pv 1) pe_int (fun _ _ => rfl)) (pa_cons (pe_ix ix_tup (pv 1) pe_int (fun _ _ => rfl)) pa_nil)))) (by with_unfolding_all rfl))))))), ?_⟩
    obtain ⟨e, x⟩ := m
    have b2 := bd.two
    have i0 : atI [iv (hd0 l), iv (lt0 l)] 0 = some (iv (hd0 l)) := atN (n := 0) rfl
    have i1 : atI [iv (hd0 l), iv (lt0 l)] 1 = some (iv (lt0 l)) := atN (n := 1) rfl
    refine ⟨_, rfl, q, _, _, _, rfl, rfl, SqT.of hq, atN (n := 0) rfl, rfl, _, rfl, ?_⟩
    rw [mvw_hdV]
    cases e with
    | true =>
      refine iteT ?_
      refine ⟨_, rfl, t, _, _, _, rfl, rfl, SqT.of ht, i0, ?_⟩
      obtain ⟨rs, q1, r1, r2, r3⟩ := hA.row bd.hle
      refine ⟨_, rfl, q, _, _, _, rfl, rfl, SqT.of hq, atN (n := 1) rfl, _, rfl, _, rfl, a, _, _, _, rfl, rfl, r1, atN r2, q1, _, rfl, .inl (SqL.of r3), rfl, iv_flat _, _, rfl, ?_⟩
      rw [inV_iv, show (if false = true then !decide (x ∈ nb tr (hd0 l)) else decide (x ∈ nb tr (hd0 l))) = decide (x ∈ nb tr (hd0 l)) from rfl]
      by_cases c : x ∈ nb tr (hd0 l)
      · rw [decide_eq_true c]
        refine iteT ?_
        refine ⟨_, rfl, q, _, _, _, rfl, rfl, SqT.of hq, atN (n := 1) rfl, _, rfl, _, rfl, t, _, _, _, rfl, rfl, SqT.of ht, i0, _, rfl, t, _, _, _, rfl, rfl, SqT.of ht, i1, a, tr, hd0 l, lt0 l, rfl, hA, T, by omega, bd.hle, bd.lle, fun p l2 H1 s1 np hp sw => ?_⟩
        cases SW.uniq T sw bd.sw
        refine ⟨p, _, rfl, .inl (SqL.of hp), rfl, iv_flat _, ?_⟩
        have h := k H1 s1
        rw [can_iff] at h
        rw [inV_iv]
        have e : (decide (x ∈ nb tr (hd0 l)) && decide (x ∉ l)) = !decide (x ∈ l) := by rw [decide_eq_true c, Bool.true_and]; by_cases z : x ∈ l <;> simp [z]
        have h : Q (.bl (decide (x ∈ nb tr (hd0 l)) && decide (x ∉ l))) H1 := h
        rw [e] at h
        exact h
      · rw [decide_eq_false c]
        refine iteF ?_
        have h := k H (Same.refl _)
        rw [can_iff] at h
        have h : Q (.bl (decide (x ∈ nb tr (hd0 l)) && decide (x ∉ l))) H := h
        rw [decide_eq_false c] at h
        exact h
    | false =>
      refine iteF ?_
      refine ⟨_, rfl, t, _, _, _, rfl, rfl, SqT.of ht, i1, ?_⟩
      obtain ⟨rs, q1, r1, r2, r3⟩ := hA.row bd.lle
      refine ⟨_, rfl, q, _, _, _, rfl, rfl, SqT.of hq, atN (n := 1) rfl, _, rfl, _, rfl, a, _, _, _, rfl, rfl, r1, atN r2, q1, _, rfl, .inl (SqL.of r3), rfl, iv_flat _, _, rfl, ?_⟩
      rw [inV_iv, show (if false = true then !decide (x ∈ nb tr (lt0 l)) else decide (x ∈ nb tr (lt0 l))) = decide (x ∈ nb tr (lt0 l)) from rfl]
      by_cases c : x ∈ nb tr (lt0 l)
      · rw [decide_eq_true c]
        refine iteT ?_
        refine ⟨_, rfl, q, _, _, _, rfl, rfl, SqT.of hq, atN (n := 1) rfl, _, rfl, _, rfl, t, _, _, _, rfl, rfl, SqT.of ht, i0, _, rfl, t, _, _, _, rfl, rfl, SqT.of ht, i1, a, tr, hd0 l, lt0 l, rfl, hA, T, by omega, bd.hle, bd.lle, fun p l2 H1 s1 np hp sw => ?_⟩
        cases SW.uniq T sw bd.sw
        refine ⟨p, _, rfl, .inl (SqL.of hp), rfl, iv_flat _, ?_⟩
        have h := k H1 s1
        rw [can_iff] at h
        rw [inV_iv]
        have e : (decide (x ∈ nb tr (lt0 l)) && decide (x ∉ l)) = !decide (x ∈ l) := by rw [decide_eq_true c, Bool.true_and]; by_cases z : x ∈ l <;> simp [z]
        have h : Q (.bl (decide (x ∈ nb tr (lt0 l)) && decide (x ∉ l))) H1 := h
        rw [e] at h
        exact h
      · rw [decide_eq_false c]
        refine iteF ?_
        have h := k H (Same.refl _)
        rw [can_iff] at h
        have h : Q (.bl (decide (x ∈ nb tr (lt0 l)) && decide (x ∉ l))) H := h
        rw [decide_eq_false c] at h
        exact h
abbrev N_sc_gne : List Str := ["links", "place", "move", "route"]
theorem sc_gne : FnScope N_sc_gne ["links", "place", "move"] (defScope s_law_gone) := ⟨rfl, rfl, rfl, by decide +kernel, rfl, by decide +kernel, by decide +kernel⟩
theorem ok_gne {f fR : Addr} {fd fdR : FuncData} (F : Fun K "_law_gone" "_law_gone" s_law_gone f fd) (UR : Use P w K mg base CX0 1 "_law_route" fR fdR ["links", "one", "two"] (spBdy K)) : FnOk P w K mg base CX0 2 f fd ["links", "place", "move"] (spGne K) := by
  refine F.ok sc_gne (fun vs H Q E h => ?_) (fun cdv A outer s H vs Q E hr h => ?_)
  · obtain ⟨a, t, q, tr, l, m, rfl, _⟩ := h
    rfl
  · obtain ⟨a, t, q, tr, l, m, rfl, hA, T, hl, ht, bd, hq, c, k⟩ := h
    refine ⟨_, (pss_cons (ps_set (i := 3) sc_gne.nd rfl (.inl rfl) (pe_use UR hr (by rfl) (pa_cons (pv 0) (pa_cons (pe_ix ix_tup (pv 1) pe_int (fun _ _ => rfl)) (pa_cons (pe_ix ix_tup (pv 1) pe_int (fun _ _ => rfl)) pa_nil)))))
        (pss_one (ps_ret (pe_ifExp (pt_cmpR op_eq (pe_ix ix_tup (pv 2) pe_int (fun _ _ => rfl)) pe_str (nomark _)) (pe_tup (pa_cons (pe_ix ix_tup (pv 2) pe_int (fun _ _ => rfl)) (pa_cons (pe_ix ix_list (pv 3) (pe_un un_neg pe_int) (fun _ _ => rfl)) pa_nil))) (pe_tup (pa_cons (pe_ix ix_list (pv 3) pe_int (fun _ _ => rfl)) (pa_cons (pe_ix ix_tup (pv 2) pe_int (fun _ _ => rfl)) pa_nil))))))), ?_⟩
    obtain ⟨e, x⟩ := m
    have two : (2 : Nat) ≤ sizeLine := by rw [sizeLine_eq]; decide
    have b2 := bd.two
    have i0 : atI [iv (hd0 l), iv (lt0 l)] 0 = some (iv (hd0 l)) := atN (n := 0) rfl
    have i1 : atI [iv (hd0 l), iv (lt0 l)] 1 = some (iv (lt0 l)) := atN (n := 1) rfl
    have eM := pen_at T bd
    have e1 := snd_at b2
    refine ⟨_, rfl, _, rfl, t, _, _, _, rfl, rfl, SqT.of ht, i0, _, rfl, t, _, _, _, rfl, rfl, SqT.of ht, i1, a, tr, hd0 l, lt0 l, rfl, hA, T, by omega, bd.hle, bd.lle, fun p l2 H1 s1 np hp sw => ?_⟩
    cases SW.uniq T sw bd.sw
    have hq1 := s1 _ _ hq
    refine ⟨_, rfl, q, _, _, _, rfl, rfl, SqT.of hq1, atN (n := 0) rfl, rfl, _, rfl, ?_⟩
    rw [mvw_hdV]
    cases e with
    | true =>
      refine iteT ?_
      obtain ⟨g1, g2⟩ := Prod.mk.inj (ends_head b2 x)
      refine ⟨_, rfl, q, _, _, _, rfl, rfl, SqT.of hq1, atN (n := 1) rfl, _, rfl, _, rfl, p, _, _, _, rfl, rfl, SqL.of hp, eM, two, fun z nz => k z _ (s1.trans (same_upd nz _)) (s1.free nz) ?_⟩
      rw [upd_same, g1, g2]
    | false =>
      refine iteF ?_
      obtain ⟨g1, g2⟩ := Prod.mk.inj (ends_tail b2 x)
      refine ⟨_, rfl, p, _, _, _, rfl, rfl, SqL.of hp, e1, _, rfl, q, _, _, _, rfl, rfl, SqT.of hq1, atN (n := 1) rfl, two, fun z nz => k z _ (s1.trans (same_upd nz _)) (s1.free nz) ?_⟩
      rw [upd_same, g1, g2]
abbrev N_sc_chn : List Str := ["links", "place", "some", "spot", "move"]
theorem sc_chn : FnScope N_sc_chn ["links", "place"] (defScope s_law_chances) := ⟨rfl, rfl, rfl, by decide +kernel, rfl, by decide +kernel, by decide +kernel⟩
theorem ok_chn {f fF : Addr} {fd fdF : FuncData} (F : Fun K "_law_chances" "_law_chances" s_law_chances f fd) (UF : Use P w K mg base CX0 2 "_law_fits" fF fdF ["links", "place", "move"] (spFts K)) : FnOk P w K mg base CX0 3 f fd ["links", "place"] (spChn K) := by
  refine F.ok sc_chn (fun vs H Q E h => ?_) (fun cdv A outer s H vs Q E hr h => ?_)
  · obtain ⟨a, t, tr, l, rfl, _⟩ := h
    rfl
  · obtain ⟨a, t, tr, l, rfl, hA, T, hl, ht, bd, k⟩ := h
    refine ⟨_, (pss_cons (ps_set (i := 2) sc_chn.nd rfl (.inl rfl) (pe_op op_catL (pe_lc (own := [("spot", 3)]) (g := (gName 3)) (tt := tYes) rfl sc_chn.nd (pi_list (pe_ix ix_list (pv 0) (pe_ix ix_tup (pv 1) pe_int (fun _ _ => rfl)) (fun _ _ => rfl))) (blkOk_by (N := N_sc_chn) (sc := defScope s_law_chances) (by decide +kernel)) (fun _ _ _ _ _ => pg_name (i := 3) sc_chn.nd rfl (Or.inl rfl)) (fun _ _ _ _ _ => pts_nil) (fun _ _ _ _ _ => (pe_tup (pa_cons pe_str (pa_cons (pv 3) pa_nil))))) (pe_lc (own := [("spot", 3)]) (g := (gName 3)) (tt := tYes) rfl sc_chn.nd (pi_list (pe_ix ix_list (pv 0) (pe_ix ix_tup (pv 1) pe_int (fun _ _ => rfl)) (fun _ _ => rfl))) (blkOk_by (N := N_sc_chn) (sc := defScope s_law_chances) (by decide +kernel)) (fun _ _ _ _ _ => pg_name (i := 3) sc_chn.nd rfl (Or.inl rfl)) (fun _ _ _ _ _ => pts_nil) (fun _ _ _ _ _ => (pe_tup (pa_cons pe_str (pa_cons (pv 3) pa_nil)))))))
        (pss_one (ps_ret (pe_lc (own := [("move", 4)]) (g := (gName 4)) rfl sc_chn.nd (pi_list (pv 2)) (blkOk_by (N := N_sc_chn) (sc := defScope s_law_chances) (by decide +kernel)) (fun _ _ _ _ _ => pg_name (i := 4) sc_chn.nd rfl (Or.inl rfl)) (fun _ _ _ _ _ => pts_one (pt_val (pe_use UF hr (by rfl) (pa_cons (pv 0) (pa_cons (pv 1) (pa_cons (pv 4) pa_nil)))))) (fun _ _ _ _ _ => (pv 4)))))), ?_⟩
    have b2 := bd.two
    have i0 : atI [iv (hd0 l), iv (lt0 l)] 0 = some (iv (hd0 l)) := atN (n := 0) rfl
    have i1 : atI [iv (hd0 l), iv (lt0 l)] 1 = some (iv (lt0 l)) := atN (n := 1) rfl
    have two : (2 : Nat) ≤ sizeLine := by rw [sizeLine_eq]; decide
    obtain ⟨rs, q1, r1, r2, r3⟩ := hA.row bd.hle
    obtain ⟨rs', q2, r1', r2', r3'⟩ := hA.row bd.lle
    have nbl := fun v => nb_len tr v
    refine ⟨_, rfl, _, rfl, t, _, _, _, rfl, rfl, SqT.of ht, i0, a, _, _, _, rfl, rfl, r1, atN r2, q1, rfl, ⟨_, SqL.of r3⟩, fun D nD => ?_⟩
    refine lc_list (K := K) (a := q1) (xs := (nb tr (hd0 l)).map iv) (fun i H' => ∃ qs, Acc MvR H H' D qs (((nb tr (hd0 l)).take i).map fun w => (true, w))) ⟨[], Acc.start nD⟩ (fun i H' _ ⟨_, ac⟩ => SqL.of (ac.sm _ _ r3)) ?_ ?_
    · rintro i y H3 hy ⟨qs, ac⟩
      obtain ⟨w, hw, rfl⟩ := map_got hy
      have lq := ac.lay.len
      rw [List.length_map, List.length_take] at lq
      have := nbl (hd0 l)
      refine ⟨rfl, _, rfl, two, fun z nz => ⟨qs.map V.ref, (same_upd nz _) _ _ ac.own, by rw [List.length_map, sizeLine_eq]; omega, qs ++ [z], ?_⟩⟩
      rw [take_snoc hw, List.map_append]
      exact ac.push firmM tupyM nD (same_upd nz _) upd_same
    rintro H3 ⟨qs1, ac1⟩
    rw [List.length_map, List.take_length] at ac1
    have s3 := ac1.sm
    refine ⟨_, rfl, _, rfl, t, _, _, _, rfl, rfl, SqT.of (s3 _ _ ht), i1, a, _, _, _, rfl, rfl, s3.seq r1', atN r2', q2, rfl, ⟨_, SqL.of (s3 _ _ r3')⟩, fun D2 nD2 => ?_⟩
    refine lc_list (K := K) (a := q2) (xs := (nb tr (lt0 l)).map iv) (fun i H' => ∃ qs, Acc MvR H3 H' D2 qs (((nb tr (lt0 l)).take i).map fun w => (false, w))) ⟨[], Acc.start nD2⟩ (fun i H' _ ⟨_, ac⟩ => SqL.of (ac.sm _ _ (s3 _ _ r3'))) ?_ ?_
    · rintro i y H4 hy ⟨qs, ac⟩
      obtain ⟨w, hw, rfl⟩ := map_got hy
      have lq := ac.lay.len
      rw [List.length_map, List.length_take] at lq
      have := nbl (lt0 l)
      refine ⟨rfl, _, rfl, two, fun z nz => ⟨qs.map V.ref, (same_upd nz _) _ _ ac.own, by rw [List.length_map, sizeLine_eq]; omega, qs ++ [z], ?_⟩⟩
      rw [take_snoc hw, List.map_append]
      exact ac.push firmM tupyM nD2 (same_upd nz _) upd_same
    rintro H4 ⟨qs2, ac2⟩
    rw [List.length_map, List.take_length] at ac2
    have s34 := ac2.sm
    have own1 := s34 _ _ ac1.own
    have LM := (ac1.lay.same firmM s34).app ac2.lay
    have l1 := ac1.lay.len
    have l2 := ac2.lay.len
    rw [List.length_map] at l1 l2
    have n1 := nbl (hd0 l)
    have n2 := nbl (lt0 l)
    refine ⟨D, D2, _, _, rfl, rfl, SqL.of own1, SqL.of ac2.own, by rw [List.length_map, List.length_map, sizeLine_eq]; omega, fun D3 nD3 => ?_⟩
    have s5 := same_upd nD3 (.lst (qs1.map V.ref ++ qs2.map V.ref))
    have h5 := upd_same (H := H4) (a := D3) (o := .lst (qs1.map V.ref ++ qs2.map V.ref))
    rw [← List.map_append] at s5 h5 ⊢
    have LM5 := LM.same firmM s5
    generalize upd H4 D3 (.lst ((qs1 ++ qs2).map V.ref)) = H5 at s5 h5 LM5 ⊢
    have s05 := (s3.trans s34).trans s5
    have lq : (qs1 ++ qs2).length ≤ 1000 := by rw [List.length_append]; omega
    generalize qs1 ++ qs2 = qs at h5 LM5 lq
    clear own1 ac1 ac2 LM s34 s3 s5 nD nD2 nD3
    refine ⟨_, rfl, D3, rfl, ⟨_, SqL.of h5⟩, fun D4 nD4 => ?_⟩
    have nD4H := s05.free nD4
    have fe := poss_fil tr l
    generalize (nb tr (hd0 l)).map (fun w => ((true, w) : Mv)) ++ (nb tr (lt0 l)).map (fun w => ((false, w) : Mv)) = ms at LM5 fe
    refine lc_list (K := K) (a := D3) (xs := qs.map V.ref) (fun i H' => ∃ ps, Acc MvR H5 H' D4 ps ((ms.take i).filter (canM tr l)) ∧ ps.length ≤ i) ⟨[], Acc.start nD4, Nat.le_refl _⟩ (fun i H' _ ⟨_, ac, _⟩ => SqL.of (ac.sm _ _ h5)) ?_ ?_
    · rintro i y H6 hy ⟨ps, ac, lp⟩
      obtain ⟨q, m, rfl, hq, hm, hqm⟩ := LM5.get hy
      have il := (List.getElem?_eq_some_iff.mp hq).1
      have s6 := s05.trans ac.sm
      refine ⟨rfl, _, rfl, _, rfl, _, rfl, a, t, q, tr, l, m, rfl, hA.same s6, T, hl, s6 _ _ ht, bd, ac.sm _ _ hqm, fun H7 s7 => ⟨_, rfl, ?_⟩⟩
      rw [take_snoc hm, List.filter_append]
      have ac7 := ac.later firmM s7
      by_cases c : canM tr l m = true
      · rw [c]
        refine iteT ⟨_, rfl, ps.map V.ref, ac7.own, by rw [List.length_map, sizeLine_eq]; omega, ps ++ [q], ?_, by rw [List.length_append]; show _ + 1 ≤ _; omega⟩
        rw [List.filter_cons_of_pos c, List.filter_nil]
        exact ac7.push firmM tupyM nD4 (Same.refl _) (s7 _ _ (ac.sm _ _ hqm))
      · have c : canM tr l m = false := by simpa using c
        rw [c]
        refine iteF ⟨ps, ?_, by omega⟩
        rw [List.filter_cons_of_neg (by rw [c]; decide), List.filter_nil, List.append_nil]
        exact ac7
    rintro H6 ⟨ps, ac, _⟩
    have lm := LM5.len
    rw [List.length_map, List.take_of_length_le (by omega), fe] at ac
    exact k D4 ps H6 (s05.trans ac.sm) nD4H ac.own ac.lay
end
end TR
namespace TR
open PySem PySem.Spec PyProof.Rows L2 L2.TT StX ClX
def mvD (m : Mv) : PyData := .tuple [.str (mvw m.1), di m.2]
theorem mvD_dp {K : PySem.W.Frag} {H : Hp} {p : Addr} {m : Mv} (h : MvR H p m) : Dp K H (.ref p) (mvD m) := .tup (SqT.of h) (.cons (.str _) (.cons (.int _) .nil))
theorem mvD_lay (m : Mv) : (mvD m).canLay0 = true := by
  show ((PyData.str (mvw m.1)).canLay0 && ((di m.2).canLay0 && true)) = true
  rw [show (PyData.str (mvw m.1)).canLay0 = true from by cases m.1 <;> decide +kernel]
  rfl
theorem mvs_dp {K : PySem.W.Frag} {H : Hp} : ∀ {ps : List Addr} {ms : List Mv}, Lay MvR H ps ms → DpAll K H (ps.map V.ref) (ms.map mvD)
  | [], [], _ => .nil
  | [], _ :: _, h => by cases h.len
  | _ :: _, [], h => by cases h.len
  | p :: ps, m :: ms, h => .cons (mvD_dp (h.at_ 0 p m rfl rfl)) (mvs_dp ⟨Nat.succ.inj h.len, fun i p x hp hx => h.at_ (i + 1) p x hp hx⟩)
theorem mvs_lay : ∀ (ms : List Mv), PyData.canLayAll0 (ms.map mvD) = true
  | [] => rfl
  | m :: ms => by
    show ((mvD m).canLay0 && PyData.canLayAll0 (ms.map mvD)) = true
    rw [mvD_lay, mvs_lay]
    rfl
theorem mvs_depth : ∀ (ms : List Mv), PyData.depthAll (ms.map mvD) ≤ 1
  | [] => Nat.zero_le _
  | m :: ms => by
    have := mvs_depth ms
    have e : (mvD m).depth = 1 := rfl
    show max (mvD m).depth (PyData.depthAll (ms.map mvD)) ≤ 1
    omega
theorem mvs_shaped (ms : List Mv) : SeqAt.shaped (.list (ms.map mvD)) = true := by
  unfold SeqAt.shaped
  rw [Bool.and_eq_true]
  refine ⟨mvs_lay ms, decide_eq_true ?_⟩
  have := mvs_depth ms
  show PyData.depthAll (ms.map mvD) + 1 ≤ 64
  omega
end TR
namespace TR
/-! The halved railway. -/
def hf (tr : List E2) (k : Nat) : List E2 := [((tr.getD k (0, 0)).1, tr.length + 1 + k), ((tr.getD k (0, 0)).2, tr.length + 1 + k)]
section
variable {tr : List E2}
/-- sorted lists of the same different items are the same -/
theorem sorted_ext {l m : List Nat} (h1 : l.Nodup) (h2 : m.Nodup) (s1 : l.Pairwise (· ≤ ·)) (s2 : m.Pairwise (· ≤ ·)) (h : ∀ x, x ∈ l ↔ x ∈ m) : l = m :=
  List.Perm.eq_of_pairwise (le := (· ≤ ·)) (fun a b _ _ h1 h2 => Nat.le_antisymm h1 h2) s1 s2 ((List.perm_ext_iff_of_nodup h1 h2).mpr h)
theorem nb_ext {tr tr' : List E2} (T : TreeL tr) (T' : TreeL tr') {v v' : Nat} (h : ∀ x, Adj tr v x ↔ Adj tr' v' x) : nb tr v = nb tr' v' :=
  sorted_ext (nb_nd T v) (nb_nd T' v') (srt_le _) (srt_le _) fun x => by rw [mem_nb T.ne, mem_nb T'.ne, h]
theorem nb_nrmS (T : TreeL tr) (v : Nat) : nb (nrmS tr) v = nb tr v := nb_ext T.nS T fun x => (nrmS_norm tr).adj
end
end TR
namespace TR
open PySem PySem.Spec PyProof.Rows L2 L2.TT StX ClX
def spTrp (K : PySem.W.Frag) : Sp := fun vs H Q _ => ∃ (dr cl a t : Addr) (tr : List E2) (l : List Nat) (many n : Nat), vs = [.ref dr, .ref a, .ref t, iv many] ∧ DrawAt H dr cl n ∧ n ≤ 700000000 ∧ many ≤ 100 ∧ Ard K H a tr ∧ TreeL tr ∧ tr.length ≤ 99 ∧ H t = some (.tup [iv (hd0 l), iv (lt0 l)]) ∧ Bd tr l ∧
  ∀ (p D t2 : Addr) (qs : List Addr) (mv : List Mv) (H' : Hp), H' p = some (.tup [.ref D, .ref t2]) → H' D = some (.lst (qs.map V.ref)) → H D = none → Lay MvR H' qs mv → okM tr l mv = true → mv.length ≤ many → H' t2 = some (.tup [iv (hd0 (endB l mv)), iv (lt0 (endB l mv))]) → DrawAt H' dr cl (n + many) → Fr dr H H' → Q (.ref p) H'
theorem poss_len (tr : List E2) (l : List Nat) (h : tr.length ≤ 99) : (poss tr l).length ≤ 300 := by
  have h1 := nb_len tr (endM l true)
  have h2 := nb_len tr (endM l false)
  have f1 := List.length_filter_le (fun w => decide (w ∉ l)) (nb tr (endM l true))
  have f2 := List.length_filter_le (fun w => decide (w ∉ l)) (nb tr (endM l false))
  unfold poss fre
  rw [List.length_append, List.length_map, List.length_map]
  omega
theorem poss_can {tr : List E2} {l : List Nat} {m : Mv} (h : m ∈ poss tr l) : canM tr l m = true := by
  unfold poss at h
  rcases List.mem_append.mp h with h | h
  · obtain ⟨w, hw, rfl⟩ := List.mem_map.mp h
    exact decide_eq_true hw
  · obtain ⟨w, hw, rfl⟩ := List.mem_map.mp h
    exact decide_eq_true hw
theorem lay_fr {dr : Addr} {H H' : Hp} {kvs : List (Key × V)} {ps : List Addr} {ms : List Mv} (h : Lay MvR H ps ms) (F : Fr dr H H') (hd : H dr = some (.dK kvs)) : Lay MvR H' ps ms :=
  ⟨h.len, fun i p x a b => F _ _ (h.at_ i p x a b) (ne_of (h.at_ i p x a b) hd (by intro z; cases z))⟩
theorem draw_upd {H H0 : Hp} {dr cl D : Addr} {n m : Nat} {o : HO} (d : DrawAt H dr cl n) (nD : H0 D = none) (d0 : DrawAt H0 dr cl m) (ne : D ≠ dr) : DrawAt (upd H D o) dr cl n := by
  obtain ⟨cs, i, j, k, h1, h2, r⟩ := d
  obtain ⟨xs, h3⟩ := d0.some2
  exact ⟨cs, i, j, k, by rw [upd_ne ne.symm]; exact h1, by rw [upd_ne (ne_of_none h3 nD)]; exact h2, r⟩
section
variable {P : Program} {w : World} {K : PySem.W.Frag} {mg : Str → Option Value} {base : Heap}
abbrev N_sc_trp : List Str := ["draw", "links", "place", "many", "found", "k", "some", "move"]
theorem sc_trp : FnScope N_sc_trp ["draw", "links", "place", "many"] (defScope s_law_trip) := ⟨rfl, rfl, rfl, by decide +kernel, rfl, by decide +kernel, by decide +kernel⟩
theorem ok_trp {f fC fG fN : Addr} {fd fdC fdG fdN : FuncData} (F : Fun K "_law_trip" "_law_trip" s_law_trip f fd) (N : Nm mg) (UC : Use P w K mg base CX0 3 "_law_chances" fC fdC ["links", "place"] (spChn K)) (UG : Use P w K mg base CX0 2 "_law_gone" fG fdG ["links", "place", "move"] (spGne K)) (UN : Use P w K mg base CX0 2 "_law_next" fN fdN ["draw", "bound"] spNext) : FnOk P w K mg base CX0 4 f fd ["draw", "links", "place", "many"] (spTrp K) := by
  refine F.ok sc_trp (fun vs H Q E h => ?_) (fun cdv A outer s H vs Q E hr h => ?_)
  · obtain ⟨dr, cl, a, t, tr, l, many, n, rfl, _⟩ := h
    rfl
  · obtain ⟨dr, cl, a, t, tr, l, many, n, rfl, D0, hn, hm, hA, T, hl, ht, bd, k⟩ := h
    have hr2 : Room 2 (A.deeper (envOfC "_law_trip" (defScope s_law_trip) s.heap.objs.size f cdv)) := hr.mono (by decide)
    have hu64 : (A.deeper (envOfC "_law_trip" (defScope s_law_trip) s.heap.objs.size f cdv)).units + 64 < cLine := hr.units
    refine ⟨_, (pss_cons (ps_set (i := 4) sc_trp.nd rfl (.inl rfl) (pe_lst pa_nil))
        (pss_cons (ps_for PassesOwn.never rfl (pi_range1 (by rfl) N.range (pa_cons (pv 3) pa_nil)) (pg_name (i := 5) sc_trp.nd rfl (.inl rfl))
          (pss_cons (ps_set (i := 6) sc_trp.nd rfl (.inl rfl) (pe_use UC hr (by rfl) (pa_cons (pv 1) (pa_cons (pv 2) pa_nil))))
          (pss_one (ps_if (pt_cmpR (op_neD hu64) (pv 6) (pe_lst pa_nil) (nomark _)) (pss_cons (ps_set (i := 7) sc_trp.nd rfl (.inl rfl) (pe_ix ix_list (pv 6) (pe_use UN hr2 (by rfl) (pa_cons (pv 0) (pa_cons (pe_callB call_len_seq (by rfl) N.len boot_len (pa_cons (pv 6) pa_nil)) pa_nil))) (fun _ _ => rfl)))
            (pss_cons (ps_expr (pe_bm PySem.F.plainAttrs_list PySem.F.slot_list_append PySem.F.type_list_append mt_append (pv 4) (pa_cons (pv 7) pa_nil)))
            (pss_one (ps_set (i := 2) sc_trp.nd rfl (.inl rfl) (pe_use UG hr2 (by rfl) (pa_cons (pv 1) (pa_cons (pv 2) (pa_cons (pv 7) pa_nil)))))))) pss_nil))))
        (pss_one (ps_ret (pe_tup (pa_cons (pv 4) (pa_cons (pv 2) pa_nil))))))), ?_⟩
    have e62 : (2 : Int) ^ 62 = 4611686018427387904 := by decide
    have two : (2 : Nat) ≤ sizeLine := by rw [sizeLine_eq]; decide
    obtain ⟨kv0, hd0'⟩ := D0.some1
    refine ⟨Nat.zero_le _, fun D nD => ?_⟩
    have ddr : D ≠ dr := fun z => by rw [z, hd0'] at nD; cases nD
    refine ⟨_, rfl, _, rfl, by rw [e62]; omega, by rw [e62]; omega, ?_⟩
    rw [show ((many : Nat) : Int).toNat = many from rfl]
    refine for_rg (n := many) (fun i σ H' => ∃ (t2 : Addr) (qs : List Addr) (mv : List Mv) (y5 y6 y7 : Option V), σ = [some (.ref dr), some (.ref a), some (.ref t2), some (iv many), some (.ref D), y5, y6, y7] ∧ H' D = some (.lst (qs.map V.ref)) ∧ Lay MvR H' qs mv ∧ okM tr l mv = true ∧ mv.length ≤ i ∧ H' t2 = some (.tup [iv (hd0 (endB l mv)), iv (lt0 (endB l mv))]) ∧ DrawAt H' dr cl (n + i) ∧ Fr dr H H')
      ⟨t, [], [], _, _, _, rfl, upd_same, .nil, rfl, Nat.le_refl _, (same_upd nD _) _ _ ht, D0.same (same_upd nD _), Fr.sm (same_upd nD _)⟩ ?_ ?_
    · rintro i σ H1 hi ⟨t2, qs, mv, y5, y6, y7, rfl, hD, LM, ok, lm, ht2, D1, F1⟩
      have bd1 := bd.run T mv ok
      refine ⟨_, rfl, _, rfl, a, t2, tr, endB l mv, rfl, hA.fr F1 hd0', T, hl, ht2, bd1.1, fun S ps H2 s2 nS hS LS => ?_⟩
      have hD2 := s2 _ _ hD
      have D2 := D1.same s2
      have F2 := F1.trans (Fr.sm s2)
      have LM2 := LM.same firmM s2
      have ht22 := s2 _ _ ht2
      have SD : S ≠ D := fun z => by rw [z, hD] at nS; cases nS
      clear hD D1 F1 LM ht2 s2 nS
      refine ⟨_, rfl, Nat.zero_le _, fun e ne => ⟨.list ((poss tr (endB l mv)).map mvD), .list [], .lst (SqL.of (same_upd ne _ _ _ hS)) (mvs_dp (LS.same firmM (same_upd ne _))), .lst (SqL.of upd_same) .nil, mvs_shaped _, shaped_ints [], _, rfl, ?_⟩⟩
      have se := same_upd (H := H2) ne (.lst [])
      have hD3 := se _ _ hD2
      have hS3 := se _ _ hS
      have D3 := D2.same se
      have F3 := F2.trans (Fr.sm se)
      have LM3 := LM2.same firmM se
      have LS3 := LS.same firmM se
      have ht23 := se _ _ ht22
      generalize upd H2 e (.lst []) = H3 at hD3 hS3 D3 F3 LM3 LS3 ht23 ⊢
      clear se hD2 hS D2 F2 LM2 LS ht22 ne
      have eA := hA.fr F3 hd0'
      obtain ⟨kv3, hd3⟩ := D3.some1
      have lS := LS3.len
      have lp : (poss tr (endB l mv)).length ≤ 300 := poss_len tr _ hl
      cases hp : poss tr (endB l mv) with
      | nil =>
        refine iteF ?_
        exact ⟨t2, qs, mv, _, _, _, rfl, hD3, LM3, ok, by omega, ht23, D3.mono (by omega), F3⟩
      | cons m0 msr =>
        refine iteT ?_
        have lpos : 0 < ps.length := by rw [lS, hp]; exact Nat.succ_pos _
        refine ⟨_, rfl, _, rfl, _, rfl, S, _, rfl, .inl (SqL.of hS3), dr, cl, _, _, rfl, D3, by omega, by rw [List.length_map]; omega, by rw [List.length_map]; omega, fun r H4 r0 r1 D4 k4 => ?_⟩
        obtain ⟨j, rfl⟩ := Int.eq_ofNat_of_zero_le r0
        rw [List.length_map] at r1
        have jl : j < (ps.map V.ref).length := by rw [List.length_map]; omega
        have F4 := Fr.of k4
        have hS4 := F4 _ _ hS3 (ne_of hS3 hd3 (by intro z; cases z))
        have hD4 := F4 _ _ hD3 (ne_of hD3 hd3 (by intro z; cases z))
        have ht24 := F4 _ _ ht23 (ne_of ht23 hd3 (by intro z; cases z))
        have LM4 := lay_fr LM3 F4 hd3
        have LS4 := lay_fr LS3 F4 hd3
        have hv := List.getElem?_eq_getElem jl
        obtain ⟨q, m, ev, hq, hmm, hqm⟩ := LS4.get hv
        rw [ev] at hv
        have can := poss_can (List.mem_of_getElem? hmm)
        refine ⟨S, _, _, _, rfl, rfl, SqL.of hS4, atN hv, ?_⟩
        have lq := LM4.len
        refine ⟨_, rfl, .inl ⟨rfl, _, SqL.of hD4⟩, _, rfl, D, _, _, rfl, rfl, hD4, by rw [List.length_map, sizeLine_eq]; omega, ?_⟩
        have F5 : Fr dr H (upd H4 D (.lst (qs.map V.ref ++ [V.ref q]))) := fun b o e n => by rw [upd_ne (ne_of_none e nD)]; exact (F3.trans F4) b o e n
        have hD5 := upd_same (H := H4) (a := D) (o := .lst (qs.map V.ref ++ [V.ref q]))
        have LM5 : Lay MvR (upd H4 D (.lst (qs.map V.ref ++ [V.ref q]))) (qs ++ [q]) (mv ++ [m]) := by
          have h := LM4.snoc hqm
          exact ⟨h.len, fun i p x a b => tupyM _ _ _ _ _ _ hD4 (h.at_ i p x a b)⟩
        have hq5 : MvR (upd H4 D (.lst (qs.map V.ref ++ [V.ref q]))) q m := tupyM _ _ _ _ _ _ hD4 hqm
        have ht25 : upd H4 D (.lst (qs.map V.ref ++ [V.ref q])) t2 = some (.tup [iv (hd0 (endB l mv)), iv (lt0 (endB l mv))]) := by rw [upd_ne (ne_of ht24 hD4 (by intro z; cases z))]; exact ht24
        have D5 : DrawAt (upd H4 D (.lst (qs.map V.ref ++ [V.ref q]))) dr cl (n + i + 1) := draw_upd D4 nD D0 ddr
        generalize upd H4 D (.lst (qs.map V.ref ++ [V.ref q])) = H5 at F5 hD5 LM5 hq5 ht25 D5 ⊢
        refine ⟨_, rfl, _, rfl, _, rfl, a, t2, q, tr, endB l mv, m, rfl, hA.fr F5 hd0', T, hl, ht25, bd1.1, hq5, can, fun t3 H6 s6 n6 ht3 => ?_⟩
        refine ⟨t3, qs ++ [q], mv ++ [m], _, _, _, rfl, ?_, LM5.same firmM s6, ?_, ?_, ?_, D5.same s6, F5.trans (Fr.sm s6)⟩
        · rw [List.map_append]; exact s6 _ _ hD5
        · rw [okM_app, ok]
          show (canM tr (endB l mv) m && true) = true
          rw [can]; rfl
        · rw [List.length_append]; show _ + 1 ≤ _; omega
        · rw [endB_app]; exact ht3
    · rintro σ H1 ⟨t2, qs, mv, y5, y6, y7, rfl, hD, LM, ok, lm, ht2, D1, F1⟩
      refine ⟨_, rfl, _, rfl, two, fun p np => ?_⟩
      have s1 := same_upd np (.tup [.ref D, .ref t2])
      exact k p D t2 qs mv _ upd_same (s1 _ _ hD) nD (LM.same firmM s1) ok lm (s1 _ _ ht2) (D1.same s1) (F1.trans (Fr.sm s1))
end
end TR
namespace TR
open PySem PySem.Spec PyProof.Rows L2 L2.TT StX ClX
def flC (bs ms pl : Addr) : List (Str × V) := putF "used" (.int 0) (putF "left" .non (putF "places" (.ref pl) (putF "moves" (.ref ms) (putF "bodies" (.ref bs) []))))
theorem flC_b {bs ms pl : Addr} : (flC bs ms pl).lookup ("bodies" : Str) = some (.ref bs) := by unfold flC; rw [lookup_putF, if_neg (by decide +kernel), lookup_putF, if_neg (by decide +kernel), lookup_putF, if_neg (by decide +kernel), lookup_putF, if_neg (by decide +kernel), lookup_putF, if_pos rfl]
theorem flC_m {bs ms pl : Addr} : (flC bs ms pl).lookup ("moves" : Str) = some (.ref ms) := by unfold flC; rw [lookup_putF, if_neg (by decide +kernel), lookup_putF, if_neg (by decide +kernel), lookup_putF, if_neg (by decide +kernel), lookup_putF, if_pos rfl]
theorem flC_p {bs ms pl : Addr} : (flC bs ms pl).lookup ("places" : Str) = some (.ref pl) := by unfold flC; rw [lookup_putF, if_neg (by decide +kernel), lookup_putF, if_neg (by decide +kernel), lookup_putF, if_pos rfl]
theorem flC_l {bs ms pl : Addr} : (flC bs ms pl).lookup ("left" : Str) = some .non := by unfold flC; rw [lookup_putF, if_neg (by decide +kernel), lookup_putF, if_pos rfl]
/-- what the top has made of the class -/
structure TxtC (K : PySem.W.Frag) (CC : Addr) : Prop where
  cl : Cls K CC
  nB : NoAttr K CC "bodies"
  nM : NoAttr K CC "moves"
  nP : NoAttr K CC "places"
  nL : NoAttr K CC "left"
  nU : NoAttr K CC "used"
def spCIni (CC : Addr) : Sp := fun vs H Q _ => ∃ (c dx p : Addr) (l : List Nat) (x : Nat), vs = [.ref c, .ref p, .non] ∧ H c = some (.ins CC dx []) ∧ H p = some (.tup (l.map iv)) ∧ l[0]? = some x ∧
  ∀ (bs ms pl : Addr) (H' : Hp), (∀ b o, H b = some o → b ≠ c → H' b = some o) → H bs = none → H ms = none → H pl = none → bs ≠ ms → H' c = some (.ins CC dx (flC bs ms pl)) → H' bs = some (.lst [.ref p]) → H' ms = some (.lst []) → H' pl = some (.dK [(.inl (x : Int), .bl true)]) → Q .non H'
/-- all but c stay -/
def KpC (c : Addr) (H H' : Hp) : Prop := ∀ b o, H b = some o → b ≠ c → H' b = some o
theorem KpC.refl (c : Addr) (H : Hp) : KpC c H H := fun _ _ e _ => e
theorem KpC.obj {c p : Addr} {H H1 : Hp} {o : HO} (k : KpC c H H1) (n : H1 p = none) : KpC c H (upd H1 p o) := fun b u h ne => by
  rw [upd_ne (ne_of_none (k b u h ne) n)]; exact k b u h ne
theorem KpC.fld {c : Addr} {H H1 : Hp} {o : HO} (k : KpC c H H1) : KpC c H (upd H1 c o) := fun b u h ne => by
  rw [upd_ne ne]; exact k b u h ne
theorem KpC.free {c q : Addr} {H H1 : Hp} {o o' : HO} (k : KpC c H H1) (hc : H c = some o) (n : H1 q = none) (hc1 : H1 c = some o') : H q = none := by
  cases e : H q with
  | none => rfl
  | some u =>
    exfalso
    by_cases z : q = c
    · rw [z, hc1] at n; cases n
    · rw [k _ _ e z] at n; cases n
theorem KpC.old {c q : Addr} {H H1 : Hp} {o o' : HO} (k : KpC c H H1) (hc : H c = some o) (n : H1 q = none) (hc1 : H1 c = some o') : H q = none := k.free hc n hc1
theorem KpC.obj2 {c p : Addr} {H H1 : Hp} {o : HO} (k : KpC c H H1) (n : H p = none) : KpC c H (upd H1 p o) := fun b u h ne => by
  rw [upd_ne (ne_of_none h n)]; exact k b u h ne
section
variable {P : Program} {w : World} {K : PySem.W.Frag} {mg : Str → Option Value} {base : Heap}
abbrev N_sc_cini : List Str := ["self", "body", "left"]
theorem sc_cini : FnScope N_sc_cini ["self", "body", "left"] (defScope s_Course_init) := ⟨rfl, rfl, rfl, by decide +kernel, rfl, by decide +kernel, by decide +kernel⟩
theorem ok_cini {f CC : Addr} {fd : FuncData} (F : Fun K "__init__" "Course.__init__" s_Course_init f fd) (X : TxtC K CC) : FnOk P w K mg base CX0 1 f fd ["self", "body", "left"] (spCIni CC) := by
  refine F.ok sc_cini (fun vs H Q E h => ?_) (fun cdv A outer s H vs Q E hr h => ?_)
  · obtain ⟨c, dx, p, l, x, rfl, _⟩ := h
    rfl
  · obtain ⟨c, dx, p, l, x, rfl, hc, hp, hx, k⟩ := h
    refine ⟨_, (pss_cons (ps_fld (pv 0) (pe_lst (pa_cons (pv 1) pa_nil)) rfl)
        (pss_cons (ps_fld (pv 0) (pe_lst pa_nil) rfl)
        (pss_cons (ps_fld (pv 0) (pe_disp (pps_cons (pe_ix ix_tup (pv 1) pe_int (fun _ _ => rfl)) pe_bl pps_nil) (by rfl) (by rfl) (fun z => by cases z) (by decide)) rfl)
        (pss_cons (ps_fld (pv 0) (pv 2) rfl)
        (pss_one (ps_fld (pv 0) pe_int rfl)))))), ?_⟩
    have one : (1 : Nat) ≤ sizeLine := by rw [sizeLine_eq]; decide
    refine ⟨_, rfl, one, fun bs nb => ⟨_, rfl, c, CC, dx, [], rfl, ?_, X.cl, X.nB, by decide, ?_⟩⟩
    · rw [upd_ne (ne_of_none hc nb)]; exact hc
    have k1 := (KpC.refl c H).obj nb (o := .lst [V.ref p])
    have hb1 : upd (upd H bs (.lst [V.ref p])) c (.ins CC dx (putF "bodies" (.ref bs) [])) bs = some (.lst [V.ref p]) := by rw [upd_ne (ne_of_none hc nb).symm, upd_same]
    have k1 := k1.fld (o := .ins CC dx (putF "bodies" (.ref bs) []))
    have hc1 := upd_same (H := upd H bs (.lst [V.ref p])) (a := c) (o := .ins CC dx (putF "bodies" (.ref bs) []))
    generalize upd (upd H bs (.lst [V.ref p])) c (.ins CC dx (putF "bodies" (.ref bs) [])) = H1 at k1 hc1 hb1 ⊢
    refine ⟨Nat.zero_le _, fun ms nm => ⟨_, rfl, c, CC, dx, putF "bodies" (.ref bs) [], rfl, ?_, X.cl, X.nM, by show 1 < 1000; decide, ?_⟩⟩
    · rw [upd_ne (ne_of_none hc1 nm)]; exact hc1
    have bm : bs ≠ ms := ne_of_none hb1 nm
    have nmH := k1.free hc nm hc1
    have k2 := k1.obj nm (o := .lst [])
    have hm2 : upd (upd H1 ms (.lst [])) c (.ins CC dx (putF "moves" (.ref ms) (putF "bodies" (.ref bs) []))) ms = some (.lst []) := by rw [upd_ne (ne_of_none hc1 nm).symm, upd_same]
    have hb2 : upd (upd H1 ms (.lst [])) c (.ins CC dx (putF "moves" (.ref ms) (putF "bodies" (.ref bs) []))) bs = some (.lst [V.ref p]) := by rw [upd_ne (ne_of hb1 hc1 (by intro z; cases z)), upd_ne bm]; exact hb1
    have k2 := k2.fld (o := .ins CC dx (putF "moves" (.ref ms) (putF "bodies" (.ref bs) [])))
    have hc2 := upd_same (H := upd H1 ms (.lst [])) (a := c) (o := .ins CC dx (putF "moves" (.ref ms) (putF "bodies" (.ref bs) [])))
    generalize upd (upd H1 ms (.lst [])) c (.ins CC dx (putF "moves" (.ref ms) (putF "bodies" (.ref bs) []))) = H2 at k2 hc2 hm2 hb2 ⊢
    clear k1 hc1 hb1
    intro pl np
    have pn : p ≠ c := ne_of hp hc (by intro z; cases z)
    have hp2 := k2 _ _ hp pn
    have nplH := k2.free hc np hc2
    refine ⟨_, rfl, p, _, _, iv x, rfl, rfl, SqT.of (by rw [upd_ne (ne_of_none hp2 np)]; exact hp2), atN (n := 0) (map_get hx), ?_⟩
    refine ⟨by rw [upd_same], [(.inl (x : Int), .bl true)], rfl, by show 1 ≤ 15; decide, _, rfl, c, CC, dx, putF "moves" (.ref ms) (putF "bodies" (.ref bs) []), rfl, ?_, X.cl, X.nP, by show 2 < 1000; decide, ?_⟩
    · rw [upd_upd, upd_ne (ne_of_none hc2 np)]; exact hc2
    have k3 := ((k2.obj np (o := .dK [])).obj2 (k2.old hc np hc2) (o := .dK (mergeK [] [((.inl (x : Int) : Key), V.bl true)]))).fld (o := .ins CC dx (putF "places" (.ref pl) (putF "moves" (.ref ms) (putF "bodies" (.ref bs) []))))
    have pc : pl ≠ c := (ne_of_none hc2 np).symm
    have hp3 : upd (upd (upd H2 pl (.dK [])) pl (.dK (mergeK [] [((.inl (x : Int) : Key), V.bl true)]))) c (.ins CC dx (putF "places" (.ref pl) (putF "moves" (.ref ms) (putF "bodies" (.ref bs) [])))) pl = some (.dK [(.inl (x : Int), .bl true)]) := by rw [upd_ne pc, upd_same]; rfl
    have hm3 : upd (upd (upd H2 pl (.dK [])) pl (.dK (mergeK [] [((.inl (x : Int) : Key), V.bl true)]))) c (.ins CC dx (putF "places" (.ref pl) (putF "moves" (.ref ms) (putF "bodies" (.ref bs) [])))) ms = some (.lst []) := by rw [upd_ne (ne_of hm2 hc2 (by intro z; cases z)), upd_upd, upd_ne (ne_of_none hm2 np)]; exact hm2
    have hb3 : upd (upd (upd H2 pl (.dK [])) pl (.dK (mergeK [] [((.inl (x : Int) : Key), V.bl true)]))) c (.ins CC dx (putF "places" (.ref pl) (putF "moves" (.ref ms) (putF "bodies" (.ref bs) [])))) bs = some (.lst [V.ref p]) := by rw [upd_ne (ne_of hb2 hc2 (by intro z; cases z)), upd_upd, upd_ne (ne_of_none hb2 np)]; exact hb2
    have hc3 := upd_same (H := upd (upd H2 pl (.dK [])) pl (.dK (mergeK [] [((.inl (x : Int) : Key), V.bl true)]))) (a := c) (o := .ins CC dx (putF "places" (.ref pl) (putF "moves" (.ref ms) (putF "bodies" (.ref bs) []))))
    generalize upd (upd (upd H2 pl (.dK [])) pl (.dK (mergeK [] [((.inl (x : Int) : Key), V.bl true)]))) c (.ins CC dx (putF "places" (.ref pl) (putF "moves" (.ref ms) (putF "bodies" (.ref bs) [])))) = H3 at k3 hc3 hp3 hm3 hb3 ⊢
    refine ⟨_, rfl, _, rfl, c, CC, dx, _, rfl, hc3, X.cl, X.nL, by show 3 < 1000; decide, ?_⟩
    refine ⟨_, rfl, c, CC, dx, _, rfl, upd_same, X.cl, X.nU, by show 4 < 1000; decide, ?_⟩
    refine k bs ms pl _ (k3.fld.fld) nb nmH nplH bm upd_same ?_ ?_ ?_
    · rw [upd_ne (ne_of hb3 hc3 (by intro z; cases z)), upd_ne (ne_of hb3 hc3 (by intro z; cases z))]; exact hb3
    · rw [upd_ne (ne_of hm3 hc3 (by intro z; cases z)), upd_ne (ne_of hm3 hc3 (by intro z; cases z))]; exact hm3
    · rw [upd_ne pc, upd_ne pc]; exact hp3
end
end TR
namespace PySem.AutoSeq1
open PySem PySem.Spec PyProof.Rows
theorem list_extend_tupleD (l : Addr) (items : Array Value) (n : Nat) (b : Addr) (items2 : Array Value) (n2 : Nat) (dd : Option Addr) (sl : Array (Option Value)) (hs0 : ¬(!items.isEmpty && Builtin.List.listTooLong (items.size + items2.size)) = true) (hs1 : items.size ≤ sizeLine) (hs2 : items.size + items2.size ≤ sizeLine + 1) :
    Meets (Builtin.«list.extend» ⟨[.ref l, .ref b], []⟩) (fun _ R s => s.heap.get? l = some { cls := .type "list", dict := none, data := .seq items n, slots := #[] } ∧ s.heap.get? b = some { cls := .type "tuple", dict := dd, data := .seq items2 n2, slots := sl } ∧ R (.ok (.ret Value.none)) { s with heap := s.heap.update l (Obj.mapSeq fun x => x ++ items2), toks := s.toks }) :=
  .of_wp fun prog w A R s h => by
    obtain ⟨hp, g, d, tk, os⟩ := s; obtain ⟨hl, hb, h⟩ := h; have f1 := idx_int; have f2 := sub_tuple_tuple; have f3 := sub_list_list; have f4 := sub_tuple_list; have f5 := sub_list_tuple;
    have hz' : (items ++ items2).size ≤ sizeLine + 1 := by rw [Array.size_append]; exact hs2
    wp_walk using (wpAny_updateSeq hl rfl (hz := hs1) (_hz' := hz')), wpAny_loadPart' hl, wpAny_loadPart' hb; exact ⟨_, rfl, h⟩
end PySem.AutoSeq1
namespace L2.TT
open PySem PySem.Spec PyProof.Rows
variable {X : Cx}
def rExtendT (K : PySem.W.Frag) : V → List V → Hp → VK → Prop := fun x vs H Q => ∃ l b xs zs, x = .ref l ∧ vs = [.ref b] ∧ H l = some (.lst xs) ∧ SqT K H b zs ∧ xs.length + zs.length ≤ sizeLine ∧ Q .non (upd H l (.lst (xs ++ zs)))
theorem mt_extendT : MtM X "list.extend" (rExtendT X.K) := by
  intro pins s σ H x vs v us Q I rx rv h
  obtain ⟨l, b, xs, zs, rfl, rfl, hH, hB, hz, q⟩ := h
  cases rx
  obtain ⟨u, rfl, ru⟩ := rv.one
  cases ru
  obtain ⟨z, its, n, r, hl, e⟩ := I.lstM hH
  obtain ⟨its2, r2, ⟨o, e2, hc, n2, hd⟩, hl2⟩ := I.tuple hB
  have hl3 := r2.length
  obtain ⟨c, dd, dt, sl⟩ := o
  cases hc
  cases hd
  have hsz : its.toArray.size + its2.toArray.size ≤ sizeLine := by rw [List.size_toArray, List.size_toArray]; omega
  have hlong : ¬ (!its.toArray.isEmpty && Builtin.List.listTooLong (its.toArray.size + its2.toArray.size)) = true := by
    rw [notLongL hsz, Bool.and_false]
    exact Bool.false_ne_true
  refine call_meets F.slot_list_extend ⟨_, e, rfl⟩ F.entry_list_extend (F.args_list_extend_2 _ _)
    (AutoSeq1.list_extend_tupleD l its.toArray n b its2.toArray n2 dd sl hlong (by rw [List.size_toArray]; omega) (by omega)) ⟨e, e2, ?_⟩
  refine ⟨.non, _, I.lset (its' := its ++ its2) hH e (by simp) (r.append r2) ?_, rfl, q⟩
  rw [List.length_append]
  omega
end L2.TT
namespace TR
open PySem PySem.Spec PyProof.Rows L2 L2.TT StX ClX
/-- a course: its last body, its moves; n bounds its sizes -/
structure CrAt (CC : Addr) (H : Hp) (c bs ms pl : Addr) (l : List Nat) (rows : List Mv) (n : Nat) : Prop where
  ex : ∃ (dx : Addr) (ps qs : List Addr) (bl : List (List Nat)) (kvs : List (Key × V)), H c = some (.ins CC dx (flC bs ms pl)) ∧ H bs = some (.lst (ps.map V.ref)) ∧ Lay BdR H ps bl ∧ bl.getLast? = some l ∧ H ms = some (.lst (qs.map V.ref)) ∧ Lay MvR H qs rows ∧ H pl = some (.dK kvs) ∧ kvs.length ≤ n ∧ ps.length ≤ n ∧ qs.length ≤ n
  bm : bs ≠ ms
/-- all but three stay -/
def Kp3 (b m p : Addr) (H H' : Hp) : Prop := ∀ x o, H x = some o → x ≠ b → x ≠ m → x ≠ p → H' x = some o
theorem Kp3.refl (b m p : Addr) (H : Hp) : Kp3 b m p H H := fun _ _ e _ _ _ => e
theorem Kp3.trans {b m p : Addr} {H H1 H2 : Hp} (k : Kp3 b m p H H1) (l : Kp3 b m p H1 H2) : Kp3 b m p H H2 := fun x o e n1 n2 n3 => l x o (k x o e n1 n2 n3) n1 n2 n3
theorem Kp3.sm {b m p : Addr} {H H1 : Hp} (s : Same H H1) : Kp3 b m p H H1 := fun x o e _ _ _ => s x o e
def spBurn (CC : Addr) : Sp := fun vs H Q _ => ∃ (c bs ms pl : Addr) (l : List Nat) (rows : List Mv) (n : Nat) (i : Int), vs = [.ref c, .int i] ∧ CrAt CC H c bs ms pl l rows n ∧ Q .non H
def spGo (CC : Addr) (K : PySem.W.Frag) : Sp := fun vs H Q _ => ∃ (c bs ms pl a b : Addr) (l : List Nat) (rows ms2 : List Mv) (n : Nat) (qs2 ps2 : List Addr) (bl2 : List (List Nat)), vs = [.ref c, .ref a, .ref b] ∧ CrAt CC H c bs ms pl l rows n ∧
  SqT K H a (qs2.map V.ref) ∧ Lay MvR H qs2 ms2 ∧ H b = some (.lst (ps2.map V.ref)) ∧ Lay BdR H ps2 bl2 ∧ (∀ m ∈ bl2, m ≠ []) ∧ b ≠ bs ∧ b ≠ ms ∧ n + qs2.length ≤ 1000 ∧ ps2.length = qs2.length ∧
  ∀ H', Kp3 bs ms pl H H' → CrAt CC H' c bs ms pl (bl2.getLast?.getD l) (rows ++ ms2) (n + qs2.length) → Q .non H'
theorem flC_no {bs ms pl : Addr} {m : Str} (h0 : ¬ m = "bodies") (h1 : ¬ m = "moves") (h2 : ¬ m = "places") (h3 : ¬ m = "left") (h4 : ¬ m = "used") : (flC bs ms pl).lookup m = none := by
  unfold flC
  rw [lookup_putF, if_neg h4, lookup_putF, if_neg h3, lookup_putF, if_neg h2, lookup_putF, if_neg h1, lookup_putF, if_neg h0]
  rfl
theorem Lay.upd_lst {α : Type} {R : Hp → Addr → α → Prop} (t : Tupy R) {H : Hp} {D : Addr} {xs ys : List V} (hD : H D = some (.lst xs)) {ps : List Addr} {as : List α} (h : Lay R H ps as) : Lay R (upd H D (.lst ys)) ps as := ⟨h.len, fun i p x a b => t H D xs ys p x hD (h.at_ i p x a b)⟩
def Kp1 (pl : Addr) (H H' : Hp) : Prop := ∀ x o, H x = some o → x ≠ pl → H' x = some o
theorem Kp1.lay {pl : Addr} {H H' : Hp} (k : Kp1 pl H H') {kvs : List (Key × V)} (hp : H pl = some (.dK kvs)) {ps : List Addr} {bl : List (List Nat)} (h : Lay BdR H ps bl) : Lay BdR H' ps bl := ⟨h.len, fun i p x a b => k _ _ (h.at_ i p x a b) (ne_of (h.at_ i p x a b) hp (by intro z; cases z))⟩
theorem Kp1.laym {pl : Addr} {H H' : Hp} (k : Kp1 pl H H') {kvs : List (Key × V)} (hp : H pl = some (.dK kvs)) {ps : List Addr} {bl : List Mv} (h : Lay MvR H ps bl) : Lay MvR H' ps bl := ⟨h.len, fun i p x a b => k _ _ (h.at_ i p x a b) (ne_of (h.at_ i p x a b) hp (by intro z; cases z))⟩
theorem hd_at {l : List Nat} (h : l ≠ []) : atI (l.map iv) 0 = some (iv (hd0 l)) := by
  cases l with
  | nil => exact absurd rfl h
  | cons x r => exact atN (n := 0) rfl
theorem last_app {α : Type} {bl bl2 : List α} {l : α} (h : bl.getLast? = some l) : (bl ++ bl2).getLast? = some (bl2.getLast?.getD l) := by
  rw [List.getLast?_append, h]
  cases bl2.getLast? <;> rfl
section
variable {P : Program} {w : World} {K : PySem.W.Frag} {mg : Str → Option Value} {base : Heap}
abbrev N_sc_cfu : List Str := ["self", "count"]
theorem sc_cfu : FnScope N_sc_cfu ["self", "count"] (defScope s_Course_check_fuel) := ⟨rfl, rfl, rfl, by decide +kernel, rfl, by decide +kernel, by decide +kernel⟩
theorem ok_cfu {f CC : Addr} {fd : FuncData} (F : Fun K "check_fuel" "Course.check_fuel" s_Course_check_fuel f fd) (X : TxtC K CC) : FnOk P w K mg base CX0 1 f fd ["self", "count"] (spBurn CC) := by
  refine F.ok sc_cfu (fun vs H Q E h => ?_) (fun cdv A outer s H vs Q E hr h => ?_)
  · obtain ⟨c, bs, ms, pl, l, rows, n, i, rfl, _⟩ := h
    rfl
  · obtain ⟨c, bs, ms, pl, l, rows, n, i, rfl, ⟨⟨dx, ps, qs, bl, kvs, h1, h2⟩, bm⟩, k⟩ := h
    refine ⟨_, (pss_one (ps_if (PW.pt (pw_and (pt_cmp (pc_notN (pe_fld (pv 0) rfl))) (pw_and1 (pt_cmpR op_lt (pe_fld (pv 0) rfl) (pv 1) (nomark _))))) (pss_one L2.ps_never) pss_nil)), ?_⟩
    refine ⟨_, rfl, c, CC, dx, _, _, rfl, h1, X.cl, X.nL, flC_l, _, rfl, ?_⟩
    exact iteF k
abbrev N_sc_brn : List Str := ["self", "count"]
theorem sc_brn : FnScope N_sc_brn ["self", "count"] (defScope s_Course_burn) := ⟨rfl, rfl, rfl, by decide +kernel, rfl, by decide +kernel, by decide +kernel⟩
theorem ok_brn {f CC : Addr} {fd : FuncData} (F : Fun K "_burn" "Course._burn" s_Course_burn f fd) (X : TxtC K CC) : FnOk P w K mg base CX0 1 f fd ["self", "count"] (spBurn CC) := by
  refine F.ok sc_brn (fun vs H Q E h => ?_) (fun cdv A outer s H vs Q E hr h => ?_)
  · obtain ⟨c, bs, ms, pl, l, rows, n, i, rfl, _⟩ := h
    rfl
  · obtain ⟨c, bs, ms, pl, l, rows, n, i, rfl, ⟨⟨dx, ps, qs, bl, kvs, h1, h2⟩, bm⟩, k⟩ := h
    refine ⟨_, (pss_one (ps_if (pt_cmp (pc_notN (pe_fld (pv 0) rfl))) (pss_cons ps_never
          (pss_one ps_never)) pss_nil)), ?_⟩
    refine ⟨_, rfl, c, CC, dx, _, _, rfl, h1, X.cl, X.nL, flC_l, _, rfl, ?_⟩
    exact iteF k
abbrev N_sc_gon : List Str := ["self", "moves", "bodies", "body"]
theorem sc_gon : FnScope N_sc_gon ["self", "moves", "bodies"] (defScope s_Course_go_on) := ⟨rfl, rfl, rfl, by decide +kernel, rfl, by decide +kernel, by decide +kernel⟩
theorem ok_gon {f fB CC : Addr} {fd fdB : FuncData} (F : Fun K "go_on" "Course.go_on" s_Course_go_on f fd) (N : Nm mg) (X : TxtC K CC) (MB : MU P w K mg base CC 1 "_burn" fB fdB ["self", "count"] (spBurn CC)) : FnOk P w K mg base CX0 2 f fd ["self", "moves", "bodies"] (spGo CC K) := by
  refine F.ok sc_gon (fun vs H Q E h => ?_) (fun cdv A outer s H vs Q E hr h => ?_)
  · obtain ⟨c, bs, ms, pl, a, b, l, rows, ms2, n, qs2, ps2, bl2, rfl, _⟩ := h
    rfl
  · obtain ⟨c, bs, ms, pl, a, b, l, rows, ms2, n, qs2, ps2, bl2, rfl, ⟨⟨dx, ps, qs, bl, kvs, h1, h2, h3, h4, h5, h6, h7, h8, h9, h10⟩, bm⟩, ha, LA, hb, LB, ne2, b1, b2, hn, hl, k⟩ := h
    refine ⟨_, (pss_cons (ps_expr (pe_bm PySem.F.plainAttrs_list PySem.F.slot_list_extend PySem.F.type_list_extend mt_extendT (pe_fld (pv 0) rfl) (pa_cons (pv 1) pa_nil)))
        (pss_cons (ps_expr (pe_bm PySem.F.plainAttrs_list PySem.F.slot_list_extend PySem.F.type_list_extend mt_extend (pe_fld (pv 0) rfl) (pa_cons (pv 2) pa_nil)))
        (pss_cons (ps_for PassesOwn.never rfl (pi_list (pv 2)) (pg_name (i := 3) sc_gon.nd rfl (.inl rfl))
          (pss_one (ps_dput (hu_of hr) (pe_fld (pv 0) rfl) (pe_ix ix_tup (pv 3) pe_int (fun _ _ => rfl)) pe_bl rfl)))
        (pss_one (ps_expr (pe_meth (pv 0) X.cl MB.m MB.G hr MB.b .nil pass0 (pa_cons (pe_callB call_len_seq (by rfl) N.len boot_len (pa_cons (pv 1) pa_nil)) pa_nil))))))), ?_⟩
    refine ⟨_, rfl, c, CC, dx, _, _, rfl, h1, X.cl, X.nM, flC_m, .inl ⟨rfl, _, SqL.of h5⟩, _, rfl, ms, a, _, _, rfl, rfl, h5, ha, by rw [List.length_map, List.length_map, sizeLine_eq]; omega, ?_⟩
    have k1 : Kp3 bs ms pl H (upd H ms (.lst (qs.map V.ref ++ qs2.map V.ref))) := fun x o e n1 n2 n3 => by rw [upd_ne n2]; exact e
    have c1 := h1
    have d1 : upd H ms (.lst (qs.map V.ref ++ qs2.map V.ref)) c = some (.ins CC dx (flC bs ms pl)) := by rw [upd_ne (ne_of h1 h5 (by intro z; cases z))]; exact h1
    have d2 : upd H ms (.lst (qs.map V.ref ++ qs2.map V.ref)) bs = some (.lst (ps.map V.ref)) := by rw [upd_ne bm]; exact h2
    have d3 := Lay.upd_lst tupyB h5 h3 (ys := qs.map V.ref ++ qs2.map V.ref)
    have d6 := (Lay.upd_lst tupyM h5 (h6.app LA) (ys := qs.map V.ref ++ qs2.map V.ref))
    have d7 : upd H ms (.lst (qs.map V.ref ++ qs2.map V.ref)) pl = some (.dK kvs) := by rw [upd_ne (ne_of h7 h5 (by intro z; cases z))]; exact h7
    have d8 : upd H ms (.lst (qs.map V.ref ++ qs2.map V.ref)) b = some (.lst (ps2.map V.ref)) := by rw [upd_ne b2]; exact hb
    have d9 := Lay.upd_lst tupyB h5 LB (ys := qs.map V.ref ++ qs2.map V.ref)
    have da : SqT K (upd H ms (.lst (qs.map V.ref ++ qs2.map V.ref))) a (qs2.map V.ref) := by
      rcases ha with (h | ⟨ob, h⟩) | h
      · exact .inl (.inl (by rw [upd_ne (ne_of h h5 (by intro z; cases z))]; exact h))
      · exact .inl (.inr ⟨ob, by rw [upd_ne (ne_of h h5 (by intro z; cases z))]; exact h⟩)
      · exact .inr h
    have d5 : upd H ms (.lst (qs.map V.ref ++ qs2.map V.ref)) ms = some (.lst ((qs ++ qs2).map V.ref)) := by rw [upd_same, List.map_append]
    generalize upd H ms (.lst (qs.map V.ref ++ qs2.map V.ref)) = H1 at k1 d1 d2 d3 d5 d6 d7 d8 d9 da ⊢
    clear h1 h2 h3 h5 h6 h7 hb LB LA ha c1
    refine ⟨_, rfl, c, CC, dx, _, _, rfl, d1, X.cl, X.nB, flC_b, .inl ⟨rfl, _, SqL.of d2⟩, _, rfl, bs, b, _, _, rfl, rfl, d2, d8, by rw [List.length_map, List.length_map, sizeLine_eq]; omega, ?_⟩
    have k2 : Kp3 bs ms pl H (upd H1 bs (.lst (ps.map V.ref ++ ps2.map V.ref))) := k1.trans fun x o e n1 n2 n3 => by rw [upd_ne n1]; exact e
    have e1 : upd H1 bs (.lst (ps.map V.ref ++ ps2.map V.ref)) c = some (.ins CC dx (flC bs ms pl)) := by rw [upd_ne (ne_of d1 d2 (by intro z; cases z))]; exact d1
    have e2 : upd H1 bs (.lst (ps.map V.ref ++ ps2.map V.ref)) bs = some (.lst ((ps ++ ps2).map V.ref)) := by rw [upd_same, List.map_append]
    have e3 := Lay.upd_lst tupyB d2 (d3.app d9) (ys := ps.map V.ref ++ ps2.map V.ref)
    have e9 := Lay.upd_lst tupyB d2 d9 (ys := ps.map V.ref ++ ps2.map V.ref)
    have e6 := Lay.upd_lst tupyM d2 d6 (ys := ps.map V.ref ++ ps2.map V.ref)
    have e7 : upd H1 bs (.lst (ps.map V.ref ++ ps2.map V.ref)) pl = some (.dK kvs) := by rw [upd_ne (ne_of d7 d2 (by intro z; cases z))]; exact d7
    have e8 : upd H1 bs (.lst (ps.map V.ref ++ ps2.map V.ref)) b = some (.lst (ps2.map V.ref)) := by rw [upd_ne b1]; exact d8
    have e5 : upd H1 bs (.lst (ps.map V.ref ++ ps2.map V.ref)) ms = some (.lst ((qs ++ qs2).map V.ref)) := by rw [upd_ne bm.symm]; exact d5
    have ea : SqT K (upd H1 bs (.lst (ps.map V.ref ++ ps2.map V.ref))) a (qs2.map V.ref) := by
      rcases da with (h | ⟨ob, h⟩) | h
      · exact .inl (.inl (by rw [upd_ne (ne_of h d2 (by intro z; cases z))]; exact h))
      · exact .inl (.inr ⟨ob, by rw [upd_ne (ne_of h d2 (by intro z; cases z))]; exact h⟩)
      · exact .inr h
    generalize upd H1 bs (.lst (ps.map V.ref ++ ps2.map V.ref)) = H2 at k2 e1 e2 e3 e5 e6 e7 e8 e9 ea ⊢
    clear k1 d1 d2 d3 d5 d6 d7 d8 d9 da
    refine ⟨_, rfl, b, rfl, ⟨_, SqL.of e8⟩, ?_⟩
    have bpl : b ≠ pl := ne_of e8 e7 (by intro z; cases z)
    refine for_list (K := K) (a := b) (xs := ps2.map V.ref) (fun i σ H' => ∃ (x3 : Option V) (kv : List (Key × V)), σ = [some (.ref c), some (.ref a), some (.ref b), x3] ∧ Kp1 pl H2 H' ∧ H' pl = some (.dK kv) ∧ kv.length ≤ n + i) ⟨_, kvs, rfl, fun _ _ e _ => e, e7, h8⟩ (fun i σ H' _ ⟨_, _, _, h, _⟩ => SqL.of (h _ _ e8 bpl)) ?_ ?_
    · rintro i v σ H3 hv ⟨x3, kv, rfl, k3, f7, fl⟩
      obtain ⟨p, m, rfl, hp, hm, hpm⟩ := e9.get hv
      have il := (List.getElem?_eq_some_iff.mp hp).1
      have hpm3 := k3 _ _ hpm (ne_of hpm e7 (by intro z; cases z))
      have hc3 := k3 _ _ e1 (ne_of e1 e7 (by intro z; cases z))
      refine ⟨_, rfl, c, CC, dx, _, _, rfl, hc3, X.cl, X.nP, flC_p, _, rfl, p, _, _, _, rfl, rfl, SqT.of hpm3, hd_at (ne2 m (List.mem_of_getElem? hm)), pl, _, rfl, DPut.k (k := Sum.inl ((hd0 m : Nat) : Int)) f7 (by rw [sizeLine_eq]; omega), ?_⟩
      have lk := length_putK kv (Sum.inl ((hd0 m : Nat) : Int) : Key) (.bl true)
      exact ⟨_, _, rfl, fun x o e n => by rw [upd_ne n]; exact k3 x o e n, upd_same, by omega⟩
    · rintro σ H3 ⟨x3, kv, rfl, k3, f7, fl⟩
      have hc3 := k3 _ _ e1 (ne_of e1 e7 (by intro z; cases z))
      have CR : CrAt CC H3 c bs ms pl (bl2.getLast?.getD l) (rows ++ ms2) (n + qs2.length) := by
        refine ⟨⟨dx, ps ++ ps2, qs ++ qs2, bl ++ bl2, kv, hc3, k3 _ _ e2 (ne_of e2 e7 (by intro z; cases z)), k3.lay e7 e3, last_app h4, k3 _ _ e5 (ne_of e5 e7 (by intro z; cases z)), k3.laym e7 e6, f7, ?_, ?_, ?_⟩, bm⟩
        · rw [List.length_map] at fl; omega
        · rw [List.length_append]; omega
        · rw [List.length_append]; omega
      have ea3 : SqT K H3 a (qs2.map V.ref) := by
        rcases ea with (h | ⟨ob, h⟩) | h
        · exact .inl (.inl (k3 _ _ h (ne_of h e7 (by intro z; cases z))))
        · exact .inl (.inr ⟨ob, k3 _ _ h (ne_of h e7 (by intro z; cases z))⟩)
        · exact .inr h
      refine ⟨_, rfl, c, dx, _, rfl, hc3, flC_no (by decide +kernel) (by decide +kernel) (by decide +kernel) (by decide +kernel) (by decide +kernel), _, rfl, a, _, rfl, .inr ea3, c, bs, ms, pl, _, _, _, _, rfl, CR, ?_⟩
      exact k H3 (k2.trans fun x o e n1 n2 n3 => k3 x o e n3) CR
end
end TR
namespace TR
open PySem PySem.Spec PyProof.Rows L2 L2.TT StX ClX
def flT (r c : Addr) : List (Str × V) := putF "course" (.ref c) (putF "_railway" (.ref r) [])
theorem flT_r {r c : Addr} : (flT r c).lookup ("_railway" : Str) = some (.ref r) := by unfold flT; rw [lookup_putF, if_neg (by decide +kernel), lookup_putF, if_pos rfl]
theorem flT_c {r c : Addr} : (flT r c).lookup ("course" : Str) = some (.ref c) := by unfold flT; rw [lookup_putF, if_pos rfl]
theorem flT_no {r c : Addr} {m : Str} (h0 : ¬ m = "_railway") (h1 : ¬ m = "course") : (flT r c).lookup m = none := by
  unfold flT
  rw [lookup_putF, if_neg h1, lookup_putF, if_neg h0]
  rfl
structure TxtT (K : PySem.W.Frag) (CT : Addr) : Prop where
  cl : Cls K CT
  nR : NoAttr K CT "_railway"
  nC : NoAttr K CT "course"
/-- a property as a rule -/
structure PrU (P : Program) (w : World) (K : PySem.W.Frag) (mg : Str → Option Value) (base : Heap) (C : Addr) (x : Str) (k : Nat) (p g : Addr) (fd : FuncData) (sp : Sp) : Prop where
  cl : Cls K C
  hp : PropOf K C x p g
  G : FnOk P w K mg base CX0 k g fd ["self"] sp
  b : Binds K fd ["self"] []
theorem getLast_at {α : Type} {bl : List α} {l : α} (h : bl.getLast? = some l) : 0 < bl.length ∧ bl[bl.length - 1]? = some l := by
  rw [List.getLast?_eq_getElem?] at h
  exact ⟨by have := (List.getElem?_eq_some_iff.mp h).1; omega, h⟩
def TnAt (CT : Addr) (H : Hp) (t r c : Addr) : Prop := ∃ dx, H t = some (.ins CT dx (flT r c))
def spTRail (CT : Addr) : Sp := fun vs H Q _ => ∃ (t r c : Addr), vs = [.ref t] ∧ TnAt CT H t r c ∧ Q (.ref r) H
def spTBody (CT CC : Addr) : Sp := fun vs H Q _ => ∃ (t r c bs ms pl : Addr) (l : List Nat) (rows : List Mv) (n : Nat), vs = [.ref t] ∧ TnAt CT H t r c ∧ CrAt CC H c bs ms pl l rows n ∧ ∀ p, H p = some (.tup (l.map iv)) → Q (.ref p) H
def spTHead (CT CC : Addr) (f : List Nat → V) : Sp := fun vs H Q _ => ∃ (t r c bs ms pl : Addr) (l : List Nat) (rows : List Mv) (n : Nat), vs = [.ref t] ∧ TnAt CT H t r c ∧ CrAt CC H c bs ms pl l rows n ∧ 2 ≤ l.length ∧ l.length ≤ 1000 ∧ Q (f l) H
def spTSt (CT CC : Addr) : Sp := fun vs H Q _ => ∃ (t r c bs ms pl : Addr) (l : List Nat) (rows : List Mv) (n : Nat), vs = [.ref t] ∧ TnAt CT H t r c ∧ CrAt CC H c bs ms pl l rows n ∧ 2 ≤ l.length ∧ l.length ≤ 1000 ∧ ∀ p, H p = none → Q (.ref p) (upd H p (.tup [iv (hd0 l), iv (lt0 l)]))
def spTSteps (CT CC : Addr) : Sp := fun vs H Q _ => ∃ (t r c bs ms pl : Addr) (l : List Nat) (rows : List Mv) (n : Nat), vs = [.ref t] ∧ TnAt CT H t r c ∧ CrAt CC H c bs ms pl l rows n ∧ ∀ p qs, H p = none → Lay MvR H qs rows → Q (.ref p) (upd H p (.tup (qs.map V.ref)))
abbrev spanV (l : List Nat) : V := .int ((l.length : Int) - 1)
def spTIni (CT CC C : Addr) : Sp := fun vs H Q _ => ∃ (t dx r : Addr) (tr : List E2) (x y : Nat), vs = [.ref t, .ref r, iv x, iv y] ∧ H t = some (.ins CT dx []) ∧ RailAt C H r tr ∧ x ≤ tr.length ∧ y ≤ tr.length ∧ x ≠ y ∧
  ∀ (c bs ms pl : Addr) (l : List Nat) (H' : Hp), KpC t H H' → Bd tr l → hd0 l = x → lt0 l = y → H c = none → H bs = none → H ms = none → H pl = none → TnAt CT H' t r c → CrAt CC H' c bs ms pl l [] 1 → Q .non H'
theorem rail_kpc {C CT t dx : Addr} {H H' : Hp} {r : Addr} {tr : List E2} (R : RailAt C H r tr) (k : KpC t H H') (ht : H t = some (.ins CT dx [])) : RailAt C H' r tr := by
  obtain ⟨T, few, dx2, tt, na, A, L, ps, ts, h1, h2, h3, h4, h5, h6, h7, h8⟩ := R
  have hr : r ≠ t := fun z => by
    rw [z, ht] at h1
    have e := (HO.ins.inj (Option.some.inj h1)).2.2
    have e2 := flR_t (tt := tt) (na := na) (A := A) (L := L)
    rw [← e] at e2
    cases e2
  exact ⟨T, few, dx2, tt, na, A, L, ps, ts, k _ _ h1 hr, k _ _ h2 (ne_of h2 ht (by intro z; cases z)), ⟨h3.1, fun i p e a b => k _ _ (h3.2 i p e a b) (ne_of (h3.2 i p e a b) ht (by intro z; cases z))⟩, k _ _ h4 (ne_of h4 ht (by intro z; cases z)), h5, fun v q h => k _ _ (h6 v q h) (ne_of (h6 v q h) ht (by intro z; cases z)), k _ _ h7 (ne_of h7 ht (by intro z; cases z)), k _ _ h8 (ne_of h8 ht (by intro z; cases z))⟩
section
variable {P : Program} {w : World} {K : PySem.W.Frag} {mg : Str → Option Value} {base : Heap}
abbrev N_sc_tini : List Str := ["self", "railway", "head", "tail"]
theorem sc_tini : FnScope N_sc_tini ["self", "railway", "head", "tail"] (defScope s_Train_init) := ⟨rfl, rfl, rfl, by decide +kernel, rfl, by decide +kernel, by decide +kernel⟩
theorem ok_tini {f fB fC CT CC C : Addr} {fd fdB fdC : FuncData} (F : Fun K "__init__" "Train.__init__" s_Train_init f fd) (X : TxtT K CT) (MC : Mk K CC fC) (GC : FnOk P w K mg base CX0 1 fC fdC ["self", "body", "left"] (spCIni CC)) (bC : Binds K fdC ["self", "body", "left"] []) (mC : mg "Course" = some (.ref CC))
    (UB : Use P w K mg base CX0 6 "body_of" fB fdB ["railway", "standing"] (spBody C)) : FnOk P w K mg base CX0 7 f fd ["self", "railway", "head", "tail"] (spTIni CT CC C) := by
  refine F.ok sc_tini (fun vs H Q E h => ?_) (fun cdv A outer s H vs Q E hr h => ?_)
  · obtain ⟨t, dx, r, tr, x, y, rfl, _⟩ := h
    rfl
  · obtain ⟨t, dx, r, tr, x, y, rfl, ht, R, hx, hy, ne, k⟩ := h
    have hr1 : Room 2 (A.deeper (envOfC "Train.__init__" (defScope s_Train_init) s.heap.objs.size f cdv)) := hr.mono (by decide)
    have hr6 : Room 6 (A.deeper (envOfC "Train.__init__" (defScope s_Train_init) s.heap.objs.size f cdv)) := hr
    refine ⟨_, (pss_cons (ps_fld (pv 0) (pv 1) rfl)
        (pss_one (ps_fld (pv 0) (pe_make MC GC hr1 (by rfl) mC bC .nil pass0 (pa_cons (pe_use UB hr6 (by rfl) (pa_cons (pv 1) (pa_cons (pe_tup (pa_cons (pv 2) (pa_cons (pv 3) pa_nil))) pa_nil))) (pa_cons pe_non pa_nil))) rfl))), ?_⟩
    refine ⟨_, rfl, _, rfl, t, CT, dx, [], rfl, ht, X.cl, X.nR, by show 0 < 1000; decide, ?_⟩
    have k1 := (KpC.refl t H).fld (o := .ins CT dx (putF "_railway" (.ref r) []))
    have ht1 := upd_same (H := H) (a := t) (o := .ins CT dx (putF "_railway" (.ref r) []))
    have R1 := rail_kpc R k1 ht
    generalize upd H t (.ins CT dx (putF "_railway" (.ref r) [])) = H1 at k1 ht1 R1 ⊢
    have two : (2 : Nat) ≤ sizeLine := by rw [sizeLine_eq]; decide
    refine ⟨_, rfl, _, rfl, _, rfl, two, fun q nq => ⟨r, q, tr, x, y, rfl, R1.same (same_upd nq _), upd_same, hx, hy, ne, fun l p H2 sw s2 np hp => ?_⟩⟩
    have sq := (same_upd nq (.tup [iv x, iv y])).trans s2
    obtain ⟨bd, b1, b2⟩ := sw_bd R.T sw hx ne
    have l2 := bd.two
    have k2 : KpC t H H2 := fun b o e n => sq _ _ (k1 b o e n)
    have ht2 := sq _ _ ht1
    generalize upd H1 q _ = G at s2
    clear s2 sq np nq ht1 k1 R1
    refine fun c dc nc ndc nec => ?_
    have hp2 : upd (upd H2 dc (.own c)) c (.ins CC dc []) p = some (.tup (l.map iv)) := by rw [upd_ne (ne_of_none hp nc), upd_ne (ne_of_none hp ndc)]; exact hp
    have ht3 : upd (upd H2 dc (.own c)) c (.ins CC dc []) t = some (.ins CT dx (putF "_railway" (.ref r) [])) := by rw [upd_ne (ne_of_none ht2 nc), upd_ne (ne_of_none ht2 ndc)]; exact ht2
    have k3 : KpC t H (upd (upd H2 dc (.own c)) c (.ins CC dc [])) := fun b o e n => by rw [upd_ne (ne_of_none (k2 b o e n) nc), upd_ne (ne_of_none (k2 b o e n) ndc)]; exact k2 b o e n
    have ncH := k2.free ht nc ht2
    have l0 : l[0]? = some (hd0 l) := by
      cases l with
      | nil => cases l2
      | cons a b => rfl
    refine ⟨c, dc, p, l, hd0 l, rfl, upd_same, hp2, l0, fun bs ms pl H3 k4 nb nm npl bm hc hb hm hpl => ⟨rfl, ?_⟩⟩
    have tc : t ≠ c := fun z => by rw [z, nc] at ht2; cases ht2
    have ht4 := k4 _ _ ht3 tc
    refine ⟨_, rfl, t, CT, dx, _, rfl, ht4, X.cl, X.nC, by show 1 < 1000; decide, ?_⟩
    have k5 : KpC t H H3 := fun b o e n => k4 _ _ (k3 b o e n) (fun z => by rw [z, ncH] at e; cases e)
    have old : ∀ {z : Addr}, upd (upd H2 dc (.own c)) c (.ins CC dc []) z = none → H z = none := fun n => k3.free ht n ht3
    have up : ∀ {z : Addr} {o : HO}, H3 z = some o → z ≠ t → upd H3 t (.ins CT dx (putF "course" (.ref c) (putF "_railway" (.ref r) []))) z = some o := fun e n => by rw [upd_ne n]; exact e
    have hp4 := k4 _ _ hp2 (ne_of hp2 (upd_same (H := upd H2 dc (.own c)) (a := c) (o := .ins CC dc [])) (by intro z; cases z))
    refine k c bs ms pl l _ k5.fld bd b1 b2 ncH (old nb) (old nm) (old npl) ⟨dx, upd_same⟩ ⟨⟨dc, [p], [], [l], _, up hc tc.symm, up hb (ne_of hb ht4 (by intro z; cases z)), .one (up hp4 (ne_of hp4 ht4 (by intro z; cases z))), rfl, up hm (ne_of hm ht4 (by intro z; cases z)), .nil, up hpl (ne_of hpl ht4 (by intro z; cases z)), Nat.le_refl _, Nat.le_refl _, Nat.zero_le _⟩, bm⟩
abbrev N_sc_trl : List Str := ["self"]
theorem sc_trl : FnScope N_sc_trl ["self"] (defScope s_Train_railway) := ⟨rfl, rfl, rfl, by decide +kernel, rfl, by decide +kernel, by decide +kernel⟩
theorem ok_trl {f CT : Addr} {fd : FuncData} (F : Fun K "railway" "Train.railway" s_Train_railway f fd) (X : TxtT K CT) : FnOk P w K mg base CX0 1 f fd ["self"] (spTRail CT) := by
  refine F.ok sc_trl (fun vs H Q E h => ?_) (fun cdv A outer s H vs Q E hr h => ?_)
  · obtain ⟨t, r, c, rfl, _⟩ := h
    rfl
  · obtain ⟨t, r, c, rfl, ⟨dx, ht⟩, k⟩ := h
    refine ⟨_, (pss_one (ps_ret (pe_fld (pv 0) rfl))), ?_⟩
    exact ⟨_, rfl, t, CT, dx, _, _, rfl, ht, X.cl, X.nR, flT_r, k⟩
abbrev N_sc_tbd : List Str := ["self"]
theorem sc_tbd : FnScope N_sc_tbd ["self"] (defScope s_Train_body) := ⟨rfl, rfl, rfl, by decide +kernel, rfl, by decide +kernel, by decide +kernel⟩
theorem ok_tbd {f CT CC : Addr} {fd : FuncData} (F : Fun K "body" "Train.body" s_Train_body f fd) (X : TxtT K CT) (XC : TxtC K CC) : FnOk P w K mg base CX0 1 f fd ["self"] (spTBody CT CC) := by
  refine F.ok sc_tbd (fun vs H Q E h => ?_) (fun cdv A outer s H vs Q E hr h => ?_)
  · obtain ⟨t, r, c, bs, ms, pl, l, rows, n, rfl, _⟩ := h
    rfl
  · obtain ⟨t, r, c, bs, ms, pl, l, rows, n, rfl, ⟨dt, ht⟩, ⟨⟨dx, ps, qs, bl, kvs, h1, h2, h3, h4, h5⟩, bm⟩, k⟩ := h
    refine ⟨_, (pss_one (ps_ret (pe_ix ix_list (pe_fld (pe_fld (pv 0) rfl) rfl) (pe_un un_neg pe_int) (fun _ _ => rfl)))), ?_⟩
    have hl := getLast_at h4
    obtain ⟨p, hp, hpm⟩ := h3.of hl.2
    have lp := h3.len
    refine ⟨_, rfl, t, CT, dt, _, _, rfl, ht, X.cl, X.nC, flT_c, c, CC, dx, _, _, rfl, h1, XC.cl, XC.nB, flC_b, _, rfl, bs, _, _, _, rfl, rfl, SqL.of h2, atI_lastV (n := bl.length - 1) (by rw [List.length_map, lp]; omega) (map_get hp), k p hpm⟩
abbrev N_sc_thd : List Str := ["self"]
theorem sc_thd : FnScope N_sc_thd ["self"] (defScope s_Train_head) := ⟨rfl, rfl, rfl, by decide +kernel, rfl, by decide +kernel, by decide +kernel⟩
theorem ok_thd {f g p CT CC : Addr} {fd fdg : FuncData} (F : Fun K "head" "Train.head" s_Train_head f fd) (PB : PrU P w K mg base CT "body" 1 p g fdg (spTBody CT CC)) : FnOk P w K mg base CX0 3 f fd ["self"] (spTHead CT CC fun l => iv (hd0 l)) := by
  refine F.ok sc_thd (fun vs H Q E h => ?_) (fun cdv A outer s H vs Q E hr h => ?_)
  · obtain ⟨t, r, c, bs, ms, pl, l, rows, n, rfl, _⟩ := h
    rfl
  · obtain ⟨t, r, c, bs, ms, pl, l, rows, n, rfl, TN, CR, l2, l3, k⟩ := h
    refine ⟨_, (pss_one (ps_ret (pe_ix ix_tup (pe_prop (pv 0) PB.cl PB.hp PB.G hr PB.b .nil pass0 rfl) pe_int (fun _ _ => rfl)))), ?_⟩
    obtain ⟨dt, ht⟩ := id TN
    exact ⟨_, rfl, t, dt, _, rfl, ht, t, r, c, bs, ms, pl, l, rows, n, rfl, TN, CR, fun p hp => ⟨p, _, _, _, rfl, rfl, SqT.of hp, atHd l2, k⟩⟩
abbrev N_sc_ttl : List Str := ["self"]
theorem sc_ttl : FnScope N_sc_ttl ["self"] (defScope s_Train_tail) := ⟨rfl, rfl, rfl, by decide +kernel, rfl, by decide +kernel, by decide +kernel⟩
theorem ok_ttl {f g p CT CC : Addr} {fd fdg : FuncData} (F : Fun K "tail" "Train.tail" s_Train_tail f fd) (PB : PrU P w K mg base CT "body" 1 p g fdg (spTBody CT CC)) : FnOk P w K mg base CX0 3 f fd ["self"] (spTHead CT CC fun l => iv (lt0 l)) := by
  refine F.ok sc_ttl (fun vs H Q E h => ?_) (fun cdv A outer s H vs Q E hr h => ?_)
  · obtain ⟨t, r, c, bs, ms, pl, l, rows, n, rfl, _⟩ := h
    rfl
  · obtain ⟨t, r, c, bs, ms, pl, l, rows, n, rfl, TN, CR, l2, l3, k⟩ := h
    refine ⟨_, (pss_one (ps_ret (pe_ix ix_tup (pe_prop (pv 0) PB.cl PB.hp PB.G hr PB.b .nil pass0 rfl) (pe_un un_neg pe_int) (fun _ _ => rfl)))), ?_⟩
    obtain ⟨dt, ht⟩ := id TN
    exact ⟨_, rfl, t, dt, _, rfl, ht, t, r, c, bs, ms, pl, l, rows, n, rfl, TN, CR, fun p hp => ⟨_, rfl, p, _, _, _, rfl, rfl, SqT.of hp, atLt l2, k⟩⟩
abbrev N_sc_tsp : List Str := ["self"]
theorem sc_tsp : FnScope N_sc_tsp ["self"] (defScope s_Train_span) := ⟨rfl, rfl, rfl, by decide +kernel, rfl, by decide +kernel, by decide +kernel⟩
theorem ok_tsp {f g p CT CC : Addr} {fd fdg : FuncData} (F : Fun K "span" "Train.span" s_Train_span f fd) (N : Nm mg) (PB : PrU P w K mg base CT "body" 1 p g fdg (spTBody CT CC)) : FnOk P w K mg base CX0 3 f fd ["self"] (spTHead CT CC spanV) := by
  refine F.ok sc_tsp (fun vs H Q E h => ?_) (fun cdv A outer s H vs Q E hr h => ?_)
  · obtain ⟨t, r, c, bs, ms, pl, l, rows, n, rfl, _⟩ := h
    rfl
  · obtain ⟨t, r, c, bs, ms, pl, l, rows, n, rfl, TN, CR, l2, l3, k⟩ := h
    refine ⟨_, (pss_one (ps_ret (pe_op op_sub (pe_callB call_len_seq (by rfl) N.len boot_len (pa_cons (pe_prop (pv 0) PB.cl PB.hp PB.G hr PB.b .nil pass0 rfl) pa_nil)) pe_int))), ?_⟩
    obtain ⟨dt, ht⟩ := id TN
    refine ⟨_, rfl, t, dt, _, rfl, ht, t, r, c, bs, ms, pl, l, rows, n, rfl, TN, CR, fun p hp => ⟨p, _, rfl, .inr (SqT.of hp), _, _, rfl, rfl, ?_⟩⟩
    rw [List.length_map]
    exact k
abbrev N_sc_tst : List Str := ["self"]
theorem sc_tst : FnScope N_sc_tst ["self"] (defScope s_Train_standing) := ⟨rfl, rfl, rfl, by decide +kernel, rfl, by decide +kernel, by decide +kernel⟩
theorem ok_tst {f g1 p1 g2 p2 CT CC : Addr} {fd fd1 fd2 : FuncData} (F : Fun K "standing" "Train.standing" s_Train_standing f fd) (PH : PrU P w K mg base CT "head" 3 p1 g1 fd1 (spTHead CT CC fun l => iv (hd0 l))) (PT : PrU P w K mg base CT "tail" 3 p2 g2 fd2 (spTHead CT CC fun l => iv (lt0 l))) : FnOk P w K mg base CX0 5 f fd ["self"] (spTSt CT CC) := by
  refine F.ok sc_tst (fun vs H Q E h => ?_) (fun cdv A outer s H vs Q E hr h => ?_)
  · obtain ⟨t, r, c, bs, ms, pl, l, rows, n, rfl, _⟩ := h
    rfl
  · obtain ⟨t, r, c, bs, ms, pl, l, rows, n, rfl, TN, CR, l2, l3, k⟩ := h
    refine ⟨_, (pss_one (ps_ret (pe_tup (pa_cons (pe_prop (pv 0) PH.cl PH.hp PH.G hr PH.b .nil pass0 rfl) (pa_cons (pe_prop (pv 0) PT.cl PT.hp PT.G hr PT.b .nil pass0 rfl) pa_nil))))), ?_⟩
    obtain ⟨dt, ht⟩ := id TN
    exact ⟨_, rfl, t, dt, _, rfl, ht, t, r, c, bs, ms, pl, l, rows, n, rfl, TN, CR, l2, l3, _, rfl, t, dt, _, rfl, ht, t, r, c, bs, ms, pl, l, rows, n, rfl, TN, CR, l2, l3, by show 2 ≤ sizeLine; rw [sizeLine_eq]; decide, k⟩
abbrev N_sc_tsk : List Str := ["self"]
theorem sc_tsk : FnScope N_sc_tsk ["self"] (defScope s_Train_steps) := ⟨rfl, rfl, rfl, by decide +kernel, rfl, by decide +kernel, by decide +kernel⟩
theorem ok_tsk {f CT CC : Addr} {fd : FuncData} (F : Fun K "steps" "Train.steps" s_Train_steps f fd) (N : Nm mg) (X : TxtT K CT) (XC : TxtC K CC) : FnOk P w K mg base CX0 1 f fd ["self"] (spTSteps CT CC) := by
  refine F.ok sc_tsk (fun vs H Q E h => ?_) (fun cdv A outer s H vs Q E hr h => ?_)
  · obtain ⟨t, r, c, bs, ms, pl, l, rows, n, rfl, _⟩ := h
    rfl
  · obtain ⟨t, r, c, bs, ms, pl, l, rows, n, rfl, ⟨dt, ht⟩, ⟨⟨dx, ps, qs, bl, kvs, h1, h2, h3, h4, h5, h6, h7⟩, bm⟩, k⟩ := h
    refine ⟨_, (pss_one (ps_ret (pe_callTy call_tuple_of (by rfl) N.tuple boot_tuple (pa_cons (pe_fld (pe_fld (pv 0) rfl) rfl) pa_nil)))), ?_⟩
    exact ⟨_, rfl, t, CT, dt, _, _, rfl, ht, X.cl, X.nC, flT_c, c, CC, dx, _, _, rfl, h1, XC.cl, XC.nM, flC_m, ms, _, rfl, .inl ⟨SqL.of h5, fun p np => k p qs np h6⟩⟩
end
end TR
namespace L2.TT
open PySem PySem.Spec PyProof.Rows PySem.W StX
/-- a def that is called all by name, ks the names as they stand in the call -/
def FnRK (P : Program) (w : World) (K : Frag) (mg : Str → Option Value) (base : Heap) (CX : CXT) (k : Nat) (f : Addr) (ks : List Str) (sp : Sp) : Prop :=
  ∀ (A : Around) (outer : List Env) (s : Shared) (H : Hp) (us : List Value) (vs : List V) (Q : VK) (E : XK), Room k A → Env0 P w K mg base A outer s H → Vals vs us → us.length = ks.length → sp vs H Q E →
    codeAny (model P w) A (.call (.ref f) ⟨[], ks.zip us⟩) (CR CX outer P w H s Q E) s
theorem FnRK.imp {P : Program} {w : World} {K : Frag} {mg : Str → Option Value} {base : Heap} {CX : CXT} {k : Nat} {f : Addr} {ks : List Str} {sp sp' : Sp} (F : FnRK P w K mg base CX k f ks sp) (h : ∀ vs H Q E, sp' vs H Q E → sp vs H Q E) : FnRK P w K mg base CX k f ks sp' :=
  fun A outer s H us vs Q E hr e0 r l q => F A outer s H us vs Q E hr e0 r l (h _ _ _ _ q)
/-- a def that may raise, where it does not -/
theorem FnOk.plain {P : Program} {w : World} {K : Frag} {mg : Str → Option Value} {base : Heap} {k : Nat} {f : Addr} {fd : FuncData} {ps : List Str} {sp sp' : Sp} (F : FnOk P w K mg base (L2.CX P w) k f fd ps sp) (h : ∀ vs H Q E, sp' vs H Q E → sp vs H Q E0) : FnOk P w K mg base CX0 k f fd ps sp' :=
  ⟨fun vs H Q E q => F.len _ _ _ _ (h vs H Q E q), fun A outer s H args us vs Q E hr e0 hb r q => codeAny_mono (F.run A outer s H args us vs Q E0 hr e0 hb r (h vs H Q E q)) fun res s' hq => by
    cases res with
    | error e =>
      obtain ⟨_, _, _, _, _, _, _, _, _, _, _, _, z⟩ := hq
      exact z.elim
    | ok fl => cases fl <;> exact hq⟩
end L2.TT
namespace TR
open PySem PySem.Spec PyProof.Rows L2 L2.TT StX ClX
/-- what a run of a train leads to -/
def RunQ (CC : Addr) (c bs ms pl : Addr) (tr : List E2) (l : List Nat) (rows mv : List Mv) (n : Nat) (H : Hp) (Q : VK) : Prop :=
  ∀ p H', Kp3 bs ms pl H H' → H p = none → H' p = some (.tup [iv (hd0 (endB l mv)), iv (lt0 (endB l mv))]) → CrAt CC H' c bs ms pl (endB l mv) (rows ++ mv) (n + mv.length) → Q (.ref p) H'
theorem RunQ.later {CC c bs ms pl : Addr} {tr : List E2} {l : List Nat} {rows mv : List Mv} {n : Nat} {H H' : Hp} {Q : VK} (q : RunQ CC c bs ms pl tr l rows mv n H Q) (s : Same H H') : RunQ CC c bs ms pl tr l rows mv n H' Q := fun p H2 k np => q p H2 ((Kp3.sm s).trans k) (s.free np)
def spRAll (CT CC C : Addr) : Sp := fun vs H Q _ => ∃ (t r c bs ms pl a : Addr) (tr : List E2) (l : List Nat) (rows mv : List Mv) (n : Nat) (qs : List Addr), vs = [.ref t, .ref a] ∧ TnAt CT H t r c ∧ RailAt C H r tr ∧ CrAt CC H c bs ms pl l rows n ∧ Bd tr l ∧ tr.length ≤ 99 ∧
  H a = some (.tup (qs.map V.ref)) ∧ Lay MvR H qs mv ∧ okM tr l mv = true ∧ (∀ m ∈ mv, m.2 ≤ tr.length) ∧ n + mv.length ≤ 1000 ∧ RunQ CC c bs ms pl tr l rows mv n H Q
/-- .. the moves one by one -/
def spRun1 (CT CC C : Addr) : Sp := fun vs H Q _ => ∃ (t r c bs ms pl : Addr) (tr : List E2) (l : List Nat) (rows mv : List Mv) (n : Nat) (qs : List Addr), vs = .ref t :: qs.map V.ref ∧ TnAt CT H t r c ∧ RailAt C H r tr ∧ CrAt CC H c bs ms pl l rows n ∧ Bd tr l ∧ tr.length ≤ 99 ∧
  Lay MvR H qs mv ∧ okM tr l mv = true ∧ (∀ m ∈ mv, m.2 ≤ tr.length) ∧ n + mv.length ≤ 1000 ∧ RunQ CC c bs ms pl tr l rows mv n H Q
def spAhd (CT CC C : Addr) (e : Bool) : Sp := fun vs H Q _ => ∃ (t r c bs ms pl : Addr) (tr : List E2) (l : List Nat) (rows : List Mv) (x n : Nat), vs = [.ref t, iv x] ∧ TnAt CT H t r c ∧ RailAt C H r tr ∧ CrAt CC H c bs ms pl l rows n ∧ Bd tr l ∧ tr.length ≤ 99 ∧
  okM tr l [(e, x)] = true ∧ x ≤ tr.length ∧ n + 1 ≤ 1000 ∧ RunQ CC c bs ms pl tr l rows [(e, x)] n H Q
theorem CrAt.same {CC : Addr} {H H' : Hp} {c bs ms pl : Addr} {l : List Nat} {rows : List Mv} {n : Nat} (h : CrAt CC H c bs ms pl l rows n) (s : Same H H') : CrAt CC H' c bs ms pl l rows n := by
  obtain ⟨⟨dx, ps, qs, bl, kvs, h1, h2, h3, h4, h5, h6, h7, h8⟩, bm⟩ := h
  exact ⟨⟨dx, ps, qs, bl, kvs, s _ _ h1, s _ _ h2, h3.same firmB s, h4, s _ _ h5, h6.same firmM s, s _ _ h7, h8⟩, bm⟩
theorem TnAt.same {CT : Addr} {H H' : Hp} {t r c : Addr} (h : TnAt CT H t r c) (s : Same H H') : TnAt CT H' t r c := h.imp fun _ e => s _ _ e
theorem runM_bd {tr : List E2} (T : TreeL tr) : ∀ {ms : List Mv} {l : List Nat}, Bd tr l → okM tr l ms = true → ∀ m ∈ runM tr l ms, m ≠ []
  | [], l, b, _, m, hm => by
    rw [runM, List.mem_singleton] at hm
    rw [hm]; exact b.hne
  | x :: ms, l, b, h, m, hm => by
    have h : (canM tr l x && okM tr (aft l x) ms) = true := h
    rw [Bool.and_eq_true] at h
    rw [runM] at hm
    rcases List.mem_cons.mp hm with rfl | hm
    · exact b.hne
    · exact runM_bd T (b.aft T h.1).1 h.2 m hm
theorem runM_last {tr : List E2} : ∀ (ms : List Mv) (l : List Nat), (runM tr l ms).getLast? = some (endB l ms)
  | [], l => rfl
  | x :: ms, l => by
    have ne : runM tr (aft l x) ms ≠ [] := fun z => by
      have := runM_last ms (aft l x) (tr := tr)
      rw [z] at this
      cases this
    obtain ⟨a, r, e⟩ := List.exists_cons_of_ne_nil ne
    have ih := runM_last ms (aft l x) (tr := tr)
    show (l :: runM tr (aft l x) ms).getLast? = some (endB (aft l x) ms)
    rw [e] at ih ⊢
    rw [List.getLast?_cons_cons]
    exact ih
theorem runM_drop {tr : List E2} (ms : List Mv) (l : List Nat) : ((runM tr l ms).drop 1).getLast?.getD l = endB l ms := by
  cases ms with
  | nil => rfl
  | cons x ms =>
    show (runM tr (aft l x) ms).getLast?.getD l = endB (aft l x) ms
    rw [runM_last]
    rfl
theorem cut1 (xs : List V) (h : 1 ≤ xs.length) : cutV xs (some 1) none = xs.drop 1 := by
  unfold cutV
  rw [show (some (1 : Int)) = some (((1 : Nat) : Int)) from rfl, HT.sIx_nat, HT.sIx_none, Nat.min_eq_left h]
  exact List.take_of_length_le (by rw [List.length_drop]; exact Nat.le_refl _)
theorem kp3_free {b m p q : Addr} {H H' : Hp} {o1 o2 o3 : HO} (k : Kp3 b m p H H') (n : H' q = none) (h1 : H' b = some o1) (h2 : H' m = some o2) (h3 : H' p = some o3) : H q = none := by
  cases e : H q with
  | none => rfl
  | some o =>
    exfalso
    have := k q o e (fun z => by rw [z, h1] at n; cases n) (fun z => by rw [z, h2] at n; cases n) (fun z => by rw [z, h3] at n; cases n)
    rw [n] at this
    cases this
section
variable {P : Program} {w : World} {K : PySem.W.Frag} {mg : Str → Option Value} {base : Heap}
abbrev N_sc_rall : List Str := ["self", "moves", "bodies"]
theorem sc_rall : FnScope N_sc_rall ["self", "moves"] (defScope s_Train_run_all) := ⟨rfl, rfl, rfl, by decide +kernel, rfl, by decide +kernel, by decide +kernel⟩
theorem ok_rall {f fM fA fF fG g1 p1 g2 p2 CT CC C CM CB : Addr} {fd fdM fdA fdF fdG fd1 fd2 : FuncData} (F : Fun K "run_all" "Train.run_all" s_Train_run_all f fd) (N : Nm mg) (X : TxtT K CT) (XC : TxtC K CC)
    (PR : PrU P w K mg base CT "railway" 1 p1 g1 fd1 (spTRail CT)) (PS : PrU P w K mg base CT "standing" 5 p2 g2 fd2 (spTSt CT CC)) (UM : Use P w K mg base CX0 5 "check_moves" fM fdM ["railway", "moves"] (fun vs H Q _ => spChkMv C CM K vs H Q L2.E0)) (UA : Use P w K mg base CX0 7 "bodies_along" fA fdA ["railway", "standing", "moves"] (fun vs H Q _ => spAlong C CB vs H Q L2.E0))
    (MF : MU P w K mg base CC 1 "check_fuel" fF fdF ["self", "count"] (spBurn CC)) (MG : MU P w K mg base CC 2 "go_on" fG fdG ["self", "moves", "bodies"] (spGo CC K)) : FnOk P w K mg base CX0 8 f fd ["self", "moves"] (spRAll CT CC C) := by
  refine F.ok sc_rall (fun vs H Q E h => ?_) (fun cdv A outer s H vs Q E hr h => ?_)
  · obtain ⟨t, r, c, bs, ms, pl, a, tr, l, rows, mv, n, qs, rfl, _⟩ := h
    rfl
  · obtain ⟨t, r, c, bs, ms, pl, a, tr, l, rows, mv, n, qs, rfl, TN, R, CR, bd, lt, ha, LM, ok, hm, hn, k⟩ := h
    have hr1 : Room 1 (A.deeper (envOfC "Train.run_all" (defScope s_Train_run_all) s.heap.objs.size f cdv)) := hr.mono (by decide)
    have hr2 : Room 2 (A.deeper (envOfC "Train.run_all" (defScope s_Train_run_all) s.heap.objs.size f cdv)) := hr.mono (by decide)
    have hr5 : Room 5 (A.deeper (envOfC "Train.run_all" (defScope s_Train_run_all) s.heap.objs.size f cdv)) := hr.mono (by decide)
    have hr6 : Room 6 (A.deeper (envOfC "Train.run_all" (defScope s_Train_run_all) s.heap.objs.size f cdv)) := hr.mono (by decide)
    refine ⟨_, (pss_cons (ps_expr (pe_use UM hr5 (by rfl) (pa_cons (pe_prop (pv 0) PR.cl PR.hp PR.G hr2 PR.b .nil pass0 rfl) (pa_cons (pv 1) pa_nil))))
        (pss_cons (ps_expr (pe_meth (pe_fld (pv 0) rfl) XC.cl MF.m MF.G hr1 MF.b .nil pass0 (pa_cons (pe_callB call_len_seq (by rfl) N.len boot_len (pa_cons (pv 1) pa_nil)) pa_nil)))
        (pss_cons (ps_set (i := 2) sc_rall.nd rfl (.inl rfl) (pe_use UA hr (by rfl) (pa_cons (pe_prop (pv 0) PR.cl PR.hp PR.G hr2 PR.b .nil pass0 rfl) (pa_cons (pe_prop (pv 0) PS.cl PS.hp PS.G hr6 PS.b .nil pass0 rfl) (pa_cons (pv 1) pa_nil)))))
        (pss_cons (ps_expr (pe_meth (pe_fld (pv 0) rfl) XC.cl MG.m MG.G hr2 MG.b .nil pass0 (pa_cons (pv 1) (pa_cons (pe_slice sl_list (pv 2) (po_some pe_int) po_none) pa_nil))))
        (pss_one (ps_ret (pe_prop (pv 0) PS.cl PS.hp PS.G hr6 PS.b .nil pass0 rfl))))))), ?_⟩
    obtain ⟨dt, ht⟩ := id TN
    have lq := LM.len
    have pvm := pv_mvs (K := K) LM hm
    refine ⟨_, rfl, t, dt, _, rfl, ht, t, r, c, rfl, TN, _, rfl, r, tr, _, rfl, R, .inl ⟨a, _, _, rfl, ha, pvm.1, flat_mvs mv, fun _ H1 s1 => ?_, fun i hi => absurd hi (by rw [pvm.2]; intro z; cases z)⟩⟩
    have ht1 := s1 _ _ ht
    have TN1 := TN.same s1
    have CR1 := CR.same s1
    have R1 := R.same s1
    have ha1 := s1 _ _ ha
    have LM1 := LM.same firmM s1
    have k1 := k.later s1
    clear TN CR R ha LM k pvm ht s1
    have lle : l.length ≤ 1000 := by have := sw_len R1.T bd.sw bd.hle; omega
    obtain ⟨⟨dx, ps0, qs0, bl0, kvs0, g1, g2⟩, bm⟩ := id CR1
    refine ⟨_, rfl, t, CT, dt, _, _, rfl, ht1, X.cl, X.nC, flT_c, c, dx, _, rfl, g1, flC_no (by decide +kernel) (by decide +kernel) (by decide +kernel) (by decide +kernel) (by decide +kernel), _, rfl, a, _, rfl, .inr (SqT.of ha1), c, bs, ms, pl, l, rows, n, _, rfl, CR1, ?_⟩
    refine ⟨_, rfl, t, dt, _, rfl, ht1, t, r, c, rfl, TN1, _, rfl, t, dt, _, rfl, ht1, t, r, c, bs, ms, pl, l, rows, n, rfl, TN1, CR1, bd.two, lle, fun q nq => ?_⟩
    have sq := same_upd nq (.tup [iv (hd0 l), iv (lt0 l)])
    refine ⟨_, rfl, r, q, a, tr, l, qs, mv, rfl, R1.same sq, upd_same, bd, sq _ _ ha1, LM1.same firmM sq, hm, by omega, fun _ D bl H3 s3 hD LB => ?_, fun i hi => absurd hi (by rw [fstBad_ok ok]; intro z; cases z)⟩
    have s13 := sq.trans s3
    have lb := LB.len
    rw [runM_len] at lb
    refine ⟨_, rfl, t, CT, dt, _, _, rfl, s13 _ _ ht1, X.cl, X.nC, flT_c, c, dx, _, rfl, s13 _ _ g1, flC_no (by decide +kernel) (by decide +kernel) (by decide +kernel) (by decide +kernel) (by decide +kernel), _, rfl, ?_⟩
    refine ⟨_, rfl, _, rfl, ?_⟩
    unfold tNoPart
    refine ⟨D, _, rfl, SqL.of hD, fun b nb => ?_⟩
    have sb := same_upd nb (.lst (cutV (bl.map V.ref) (some 1) none))
    have hb := upd_same (H := H3) (a := b) (o := .lst (cutV (bl.map V.ref) (some 1) none))
    have e1 : cutV (bl.map V.ref) (some 1) none = (bl.drop 1).map V.ref := by rw [cut1 _ (by rw [List.length_map]; omega), List.map_drop]
    rw [e1] at sb hb ⊢
    generalize upd H3 b (.lst ((bl.drop 1).map V.ref)) = H4 at sb hb ⊢
    have s4 := s13.trans sb
    have LB4 := (LB.same firmB sb).drop 1
    refine ⟨c, bs, ms, pl, a, b, l, rows, mv, n, qs, bl.drop 1, (runM tr l mv).drop 1, rfl, CR1.same s4, SqT.of (s4 _ _ ha1), LM1.same firmM s4, hb, LB4, fun m hm => runM_bd R1.T bd ok m (List.mem_of_mem_drop hm), (ne_of_none (s13 _ _ g2.1) nb).symm, (ne_of_none (s13 _ _ g2.2.2.2.1) nb).symm, by omega, by rw [List.length_drop]; omega, fun H5 k5 CR5 => ?_⟩
    rw [runM_drop] at CR5
    have k15 : Kp3 bs ms pl _ H5 := (Kp3.sm s4).trans k5
    have be := bd.run R1.T mv ok
    have ht5 := k15 _ _ ht1 (ne_of ht1 g2.1 (by intro z; cases z)) (ne_of ht1 g2.2.2.2.1 (by intro z; cases z)) (ne_of ht1 g2.2.2.2.2.2.1 (by intro z; cases z))
    rw [lq] at CR5
    refine ⟨_, rfl, t, dt, _, rfl, ht5, t, r, c, bs, ms, pl, endB l mv, _, _, rfl, ⟨dt, ht5⟩, CR5, be.1.two, by rw [be.2]; exact lle, fun p np => ?_⟩
    have s5 := same_upd np (.tup [iv (hd0 (endB l mv)), iv (lt0 (endB l mv))])
    refine k1 p _ (k15.trans (Kp3.sm s5)) ?_ upd_same (CR5.same s5)
    obtain ⟨⟨d5, p5, q5, b5, kv5, z1, z2, z3, z4, z5, z6, z7, _⟩, _⟩ := id CR5
    exact kp3_free k15 np z2 z5 z7
end
end TR
namespace L2
open PySem PySem.Spec PyProof.Rows
/-- o.m() by a positional promise -/
theorem pe_methR0 {X : Cx} {CX : CXT} {k : Nat} {C f : Addr} {m : Str} {sp : Sp} {E : XK} {o : Expr} {ta : TE} {apos pos : Pos} {pl : Sem Bool} (he : PE X o ta) (c : Cls X.K C) (hm : Meth X.K C m f)
    (F : FnR X.prog X.w X.K X.mg X.base CX k f sp) (hr : Room k X.A) (hx : Passes CX X E)
    (ht : eval (.Call (.Attribute o m apos) [] [] pos) X.env = (do
      let ov ← eval o X.env
      standAt apos.atName
      let (f, first) ← holding [ov] (getMethod ov m pl)
      callWith pos f first (backTo pos (starEach [] X.env)) (backToKw pos (keywordEach [] X.env))) := by rfl) :
    PE X (.Call (.Attribute o m apos) [] [] pos) (tMethR C m sp E ta tNil) := by
  refine ⟨fun pins s σ H Q I h => ?_⟩
  refine PySem.W.methodCall_KW (pl := pl) (thn (he.run pins s σ H _ I h) fun u s1 ⟨x, H1, I1, rx, a, dx, fs, ex, ea, l, q⟩ => ?_) ht
  subst ex
  obtain rfl : u = Value.ref a := rx
  refine getmeth_ok I1 ea c hm l ?_
  exact PySem.W.callWith_K0 (first := [.ref a]) I1.kIn hm.kp (wpAny_call (run_fnR (us := [.ref a]) (vs := [.ref a]) F hr hx I1 (.cons rfl .nil) q))
end L2
namespace TR
open PySem PySem.Spec PyProof.Rows L2 L2.TT StX ClX
section
variable {P : Program} {w : World} {K : PySem.W.Frag} {mg : Str → Option Value} {base : Heap}
abbrev N_sc_ahd : List Str := ["self", "station"]
theorem sc_ahd : FnScope N_sc_ahd ["self", "station"] (defScope s_Train_ahead) := ⟨rfl, rfl, rfl, by decide +kernel, rfl, by decide +kernel, by decide +kernel⟩
theorem ok_ahd {f fR CT CC C : Addr} {fd fdR : FuncData} (F : Fun K "ahead" "Train.ahead" s_Train_ahead f fd) (X : TxtT K CT) (MR : MU P w K mg base CT 8 "run_all" fR fdR ["self", "moves"] (spRAll CT CC C)) : FnOk P w K mg base CX0 9 f fd ["self", "station"] (spAhd CT CC C true) := by
  refine F.ok sc_ahd (fun vs H Q E h => ?_) (fun cdv A outer s H vs Q E hr h => ?_)
  · obtain ⟨t, r, c, bs, ms, pl, tr, l, rows, x, n, rfl, _⟩ := h
    rfl
  · obtain ⟨t, r, c, bs, ms, pl, tr, l, rows, x, n, rfl, TN, R, CR, bd, lt, ok, hx, hn, k⟩ := h
    refine ⟨_, (pss_one (ps_ret (pe_meth (pv 0) X.cl MR.m MR.G hr MR.b .nil pass0 (pa_cons (pe_tup (pa_cons (pe_tup (pa_cons pe_str (pa_cons (pv 1) pa_nil))) pa_nil)) pa_nil)))), ?_⟩
    have one : (1 : Nat) ≤ sizeLine := by rw [sizeLine_eq]; decide
    have two : (2 : Nat) ≤ sizeLine := by rw [sizeLine_eq]; decide
    obtain ⟨dt, ht⟩ := id TN
    refine ⟨_, rfl, t, dt, _, rfl, ht, flT_no (by decide +kernel) (by decide +kernel), _, rfl, two, fun q nq => ⟨one, fun a na => ?_⟩⟩
    have s1 := same_upd nq (.tup [.str "head", iv x])
    have hq := upd_same (H := H) (a := q) (o := .tup [.str "head", iv x])
    generalize upd H q (.tup [.str "head", iv x]) = H1 at s1 hq na ⊢
    have s2 := s1.trans (same_upd na (.tup [V.ref q]))
    exact ⟨t, r, c, bs, ms, pl, a, tr, l, rows, [(true, x)], n, [q], rfl, TN.same s2, R.same s2, CR.same s2, bd, lt, upd_same, .one (same_upd na _ _ _ hq), ok, fun m hm => by rw [List.mem_singleton.mp hm]; exact hx, hn, k.later s2⟩
abbrev N_sc_rev : List Str := ["self", "station"]
theorem sc_rev : FnScope N_sc_rev ["self", "station"] (defScope s_Train_reverse) := ⟨rfl, rfl, rfl, by decide +kernel, rfl, by decide +kernel, by decide +kernel⟩
theorem ok_rev {f fR CT CC C : Addr} {fd fdR : FuncData} (F : Fun K "reverse" "Train.reverse" s_Train_reverse f fd) (X : TxtT K CT) (MR : MU P w K mg base CT 8 "run_all" fR fdR ["self", "moves"] (spRAll CT CC C)) : FnOk P w K mg base CX0 9 f fd ["self", "station"] (spAhd CT CC C false) := by
  refine F.ok sc_rev (fun vs H Q E h => ?_) (fun cdv A outer s H vs Q E hr h => ?_)
  · obtain ⟨t, r, c, bs, ms, pl, tr, l, rows, x, n, rfl, _⟩ := h
    rfl
  · obtain ⟨t, r, c, bs, ms, pl, tr, l, rows, x, n, rfl, TN, R, CR, bd, lt, ok, hx, hn, k⟩ := h
    refine ⟨_, (pss_one (ps_ret (pe_meth (pv 0) X.cl MR.m MR.G hr MR.b .nil pass0 (pa_cons (pe_tup (pa_cons (pe_tup (pa_cons pe_str (pa_cons (pv 1) pa_nil))) pa_nil)) pa_nil)))), ?_⟩
    have one : (1 : Nat) ≤ sizeLine := by rw [sizeLine_eq]; decide
    have two : (2 : Nat) ≤ sizeLine := by rw [sizeLine_eq]; decide
    obtain ⟨dt, ht⟩ := id TN
    refine ⟨_, rfl, t, dt, _, rfl, ht, flT_no (by decide +kernel) (by decide +kernel), _, rfl, two, fun q nq => ⟨one, fun a na => ?_⟩⟩
    have s1 := same_upd nq (.tup [.str "tail", iv x])
    have hq := upd_same (H := H) (a := q) (o := .tup [.str "tail", iv x])
    generalize upd H q (.tup [.str "tail", iv x]) = H1 at s1 hq na ⊢
    have s2 := s1.trans (same_upd na (.tup [V.ref q]))
    exact ⟨t, r, c, bs, ms, pl, a, tr, l, rows, [(false, x)], n, [q], rfl, TN.same s2, R.same s2, CR.same s2, bd, lt, upd_same, .one (same_upd na _ _ _ hq), ok, fun m hm => by rw [List.mem_singleton.mp hm]; exact hx, hn, k.later s2⟩
abbrev N_sc_run : List Str := ["self", "moves"]
theorem sc_run : FnScope N_sc_run ((["self"] : List Str) ++ (["moves"] : List Str)) (defScope s_Train_run) := ⟨rfl, rfl, rfl, by decide +kernel, rfl, by decide +kernel, by decide +kernel⟩
theorem body_run {f fR CT CC C : Addr} {fdR : FuncData} (X : TxtT K CT) (MR : MU P w K mg base CT 8 "run_all" fR fdR ["self", "moves"] (spRAll CT CC C)) (cdv : Value) (A : Around) (outer : List Env) (s : Shared) (H : Hp) (vs : List V) (Q : VK) (E : XK)
    (hr : Room 8 (A.deeper (envOfC "Train.run" (defScope s_Train_run) s.heap.objs.size f cdv))) (h : spRAll CT CC C vs H Q E) :
    ∃ t, PSs (cxOf CX0 P w K mg base N_sc_run "Train.run" (defScope s_Train_run) f cdv A outer s H E).nox (defBody s_Train_run) t ∧ t { nx := fun _ H' => Q .non H', rt := Q } (L2.start N_sc_run vs) H := by
  obtain ⟨t, r, c, bs, ms, pl, a, tr, l, rows, mv, n, qs, rfl, TN, h⟩ := h
  refine ⟨_, (pss_one (ps_ret (pe_meth (pv 0) X.cl MR.m MR.G hr MR.b .nil pass0 (pa_cons (pv 1) pa_nil)))), ?_⟩
  obtain ⟨dt, ht⟩ := id TN
  exact ⟨_, rfl, t, dt, _, rfl, ht, flT_no (by decide +kernel) (by decide +kernel), _, rfl, t, r, c, bs, ms, pl, a, tr, l, rows, mv, n, qs, rfl, TN, h⟩
theorem fn_run {f fR CT CC C : Addr} {fd fdR : FuncData} (F : Fun K "run" "Train.run" s_Train_run f fd) (X : TxtT K CT) (MR : MU P w K mg base CT 8 "run_all" fR fdR ["self", "moves"] (spRAll CT CC C)) : FnR P w K mg base CX0 9 f (spRun1 CT CC C) := by
  obtain ⟨oc, od, kV, doc, pm, an, cdv, ct, osl, rfl, lk, hcd⟩ := F.ex
  have G := fn_star (P := P) (w := w) (mg := mg) (base := base) (CX := CX0) (k := 8) (ps := ["self"]) (pv := "moves") (N := N_sc_run) (sp := spRAll CT CC C) lk hcd sc_run cxUp_none (bind_star1 (B := fun vs => bindArgs (PySem.W.fnOf "run" "Train.run" (defArgs s_Train_run) (defBody s_Train_run) (defScope s_Train_run) .none kV doc pm an cdv ct) ⟨vs, []⟩) (p1 := "self") (pv := "moves") (fun a => rfl) (fun a r rs => rfl))
    (fun A outer s H vs Q E hr h => by
      obtain ⟨t, h1, h2⟩ := body_run (f := f) X MR cdv A outer s H vs Q E hr h
      exact ⟨t, h1.nox, h2⟩)
  refine G.imp fun vs H Q E h => ?_
  obtain ⟨t, r, c, bs, ms, pl, tr, l, rows, mv, n, qs, rfl, TN, R, CR, bd, lt, LM, ok, hm, hn, k⟩ := h
  refine ⟨[.ref t], qs.map V.ref, rfl, rfl, by rw [List.length_map, LM.len, sizeLine_eq]; omega, fun p np => ?_⟩
  have s0 := same_upd np (.tup (qs.map V.ref))
  exact ⟨t, r, c, bs, ms, pl, p, tr, l, rows, mv, n, qs, rfl, TN.same s0, R.same s0, CR.same s0, bd, lt, upd_same, LM.same firmM s0, ok, hm, hn, k.later s0⟩
end
end TR
namespace TR
open PySem PySem.Spec PyProof.Rows L2 L2.TT StX ClX
/-- a train makes a list of moves -/
def RowAt (CT CC C : Addr) (t r c bs ms pl R : Addr) (tr : List E2) (l : List Nat) (rows mv : List Mv) (n : Nat) (qs : List Addr) (H : Hp) : Prop := TnAt CT H t r c ∧ RailAt C H r tr ∧ CrAt CC H c bs ms pl l rows n ∧ Bd tr l ∧ tr.length ≤ 99 ∧ H R = some (.lst (qs.map V.ref)) ∧ Lay MvR H qs mv ∧ okM tr l mv = true ∧ (∀ m ∈ mv, m.2 ≤ tr.length) ∧ n + mv.length ≤ 1000
theorem RowAt.same {CT CC C : Addr} {t r c bs ms pl R : Addr} {tr : List E2} {l : List Nat} {rows mv : List Mv} {n : Nat} {qs : List Addr} {H H' : Hp} (h : RowAt CT CC C t r c bs ms pl R tr l rows mv n qs H) (s : Same H H') : RowAt CT CC C t r c bs ms pl R tr l rows mv n qs H' := by
  obtain ⟨h1, h2, h3, h4, h5, h6, h7, h8⟩ := h
  exact ⟨h1.same s, h2.same s, h3.same s, h4, h5, s _ _ h6, h7.same firmM s, h8⟩
def spRan (CT CC C : Addr) : Sp := fun vs H Q _ => ∃ (t r c bs ms pl R : Addr) (tr : List E2) (l : List Nat) (rows mv : List Mv) (n : Nat) (qs : List Addr), vs = [.ref t, .ref R] ∧ RowAt CT CC C t r c bs ms pl R tr l rows mv n qs H ∧ RunQ CC c bs ms pl tr l rows mv n H Q
def spDone (CT CC C : Addr) : Sp := fun vs H Q _ => ∃ (t r c bs ms pl R : Addr) (tr : List E2) (l : List Nat) (rows mv : List Mv) (n k : Nat) (qs : List Addr), vs = [.ref t, .ref R, iv k] ∧ RowAt CT CC C t r c bs ms pl R tr l rows mv n qs H ∧ RunQ CC c bs ms pl tr l rows mv n H Q
theorem len_no {qs : List Addr} (i : Int) (h : ((qs.length : Nat) : Int) ≠ i) : decide (V.int (((qs.map V.ref).length : Nat) : Int) = V.int i) = false := decide_eq_false fun z => h (by have := V.int.inj z; rw [List.length_map] at this; exact this)
section
variable {P : Program} {w : World} {K : PySem.W.Frag} {mg : Str → Option Value} {base : Heap}
abbrev N_sc_ran : List Str := ["engine", "row"]
theorem sc_ran : FnScope N_sc_ran ["engine", "row"] (defScope s_law_ran) := ⟨rfl, rfl, rfl, by decide +kernel, rfl, by decide +kernel, by decide +kernel⟩
theorem ok_ran {f fR fA CT CC C : Addr} {fd fdA : FuncData} (F : Fun K "_law_ran" "_law_ran" s_law_ran f fd) (N : Nm mg) (X : TxtT K CT) (MRm : Meth K CT "run" fR) (FR : FnR P w K mg base CX0 9 fR (spRun1 CT CC C)) (MA : MU P w K mg base CT 8 "run_all" fA fdA ["self", "moves"] (spRAll CT CC C)) : FnOk P w K mg base CX0 10 f fd ["engine", "row"] (spRan CT CC C) := by
  refine F.ok sc_ran (fun vs H Q E h => ?_) (fun cdv A outer s H vs Q E hr h => ?_)
  · obtain ⟨t, r, c, bs, ms, pl, R, tr, l, rows, mv, n, qs, rfl, _⟩ := h
    rfl
  · obtain ⟨t, r, c, bs, ms, pl, R, tr, l, rows, mv, n, qs, rfl, ⟨TN, RA, CR, bd, lt, hR, LM, ok, hm, hn⟩, k⟩ := h
    have hr8 : Room 8 (A.deeper (envOfC "_law_ran" (defScope s_law_ran) s.heap.objs.size f cdv)) := hr.mono (by decide)
    refine ⟨_, (pss_cons (ps_if (pt_cmpR op_eq (pe_callB call_len_seq (by rfl) N.len boot_len (pa_cons (pv 1) pa_nil)) pe_int (nomark _)) (pss_one (ps_ret (pe_methR0 (pv 0) X.cl MRm FR hr pass0))) pss_nil)
        (pss_cons (ps_if (pt_cmpR op_eq (pe_callB call_len_seq (by rfl) N.len boot_len (pa_cons (pv 1) pa_nil)) pe_int (nomark _)) (pss_one (ps_ret (pe_methR (pv 0) X.cl MRm FR hr pass0 (pa_cons (pe_ix ix_list (pv 1) pe_int (fun _ _ => rfl)) pa_nil)))) pss_nil)
        (pss_cons (ps_if (pt_cmpR op_eq (pe_callB call_len_seq (by rfl) N.len boot_len (pa_cons (pv 1) pa_nil)) pe_int (nomark _)) (pss_one (ps_ret (pe_methR (pv 0) X.cl MRm FR hr pass0 (pa_cons (pe_ix ix_list (pv 1) pe_int (fun _ _ => rfl)) (pa_cons (pe_ix ix_list (pv 1) pe_int (fun _ _ => rfl)) pa_nil))))) pss_nil)
        (pss_one (ps_ret (pe_ifExp (pt_cmpR op_eq (pe_callB call_len_seq (by rfl) N.len boot_len (pa_cons (pv 1) pa_nil)) pe_int (nomark _)) (pe_methR (pv 0) X.cl MRm FR hr pass0 (pa_cons (pe_ix ix_list (pv 1) pe_int (fun _ _ => rfl)) (pa_cons (pe_ix ix_list (pv 1) pe_int (fun _ _ => rfl)) (pa_cons (pe_ix ix_list (pv 1) pe_int (fun _ _ => rfl)) pa_nil)))) (pe_meth (pv 0) X.cl MA.m MA.G hr8 MA.b .nil pass0 (pa_cons (pe_callTy call_tuple_of (by rfl) N.tuple boot_tuple (pa_cons (pv 1) pa_nil)) pa_nil)))))))), ?_⟩
    obtain ⟨dt, ht⟩ := id TN
    have lq := LM.len
    have noR : (flT r c).lookup ("run" : Str) = none := flT_no (by decide +kernel) (by decide +kernel)
    have noA : (flT r c).lookup ("run_all" : Str) = none := flT_no (by decide +kernel) (by decide +kernel)
    refine ⟨_, rfl, R, _, rfl, .inl (SqL.of hR), rfl, _, rfl, ?_⟩
    rcases qs with _ | ⟨q0, qs⟩
    · refine iteT' (decide_eq_true rfl) ?_
      exact ⟨_, rfl, t, dt, _, rfl, ht, noR, t, r, c, bs, ms, pl, tr, l, rows, mv, n, [], rfl, TN, RA, CR, bd, lt, LM, ok, hm, hn, k⟩
    refine iteF' (len_no 0 (by rw [List.length_cons]; omega)) ?_
    refine ⟨_, rfl, R, _, rfl, .inl (SqL.of hR), rfl, _, rfl, ?_⟩
    rcases qs with _ | ⟨q1, qs⟩
    · refine iteT' (decide_eq_true rfl) ?_
      exact ⟨_, rfl, t, dt, _, rfl, ht, noR, _, rfl, R, _, _, .ref q0, rfl, rfl, SqL.of hR, atN (n := 0) rfl, t, r, c, bs, ms, pl, tr, l, rows, mv, n, [q0], rfl, TN, RA, CR, bd, lt, LM, ok, hm, hn, k⟩
    refine iteF' (len_no 1 (by rw [List.length_cons, List.length_cons]; omega)) ?_
    refine ⟨_, rfl, R, _, rfl, .inl (SqL.of hR), rfl, _, rfl, ?_⟩
    rcases qs with _ | ⟨q2, qs⟩
    · refine iteT' (decide_eq_true rfl) ?_
      exact ⟨_, rfl, t, dt, _, rfl, ht, noR, _, rfl, R, _, _, .ref q0, rfl, rfl, SqL.of hR, atN (n := 0) rfl, _, rfl, R, _, _, .ref q1, rfl, rfl, SqL.of hR, atN (n := 1) rfl, t, r, c, bs, ms, pl, tr, l, rows, mv, n, [q0, q1], rfl, TN, RA, CR, bd, lt, LM, ok, hm, hn, k⟩
    refine iteF' (len_no 2 (by rw [List.length_cons, List.length_cons, List.length_cons]; omega)) ?_
    refine ⟨_, rfl, R, _, rfl, .inl (SqL.of hR), rfl, _, rfl, ?_⟩
    rcases qs with _ | ⟨q3, qs⟩
    · refine iteT' (decide_eq_true rfl) ?_
      exact ⟨_, rfl, t, dt, _, rfl, ht, noR, _, rfl, R, _, _, .ref q0, rfl, rfl, SqL.of hR, atN (n := 0) rfl, _, rfl, R, _, _, .ref q1, rfl, rfl, SqL.of hR, atN (n := 1) rfl, _, rfl, R, _, _, .ref q2, rfl, rfl, SqL.of hR, atN (n := 2) rfl, t, r, c, bs, ms, pl, tr, l, rows, mv, n, [q0, q1, q2], rfl, TN, RA, CR, bd, lt, LM, ok, hm, hn, k⟩
    refine iteF' (len_no 3 (by rw [List.length_cons, List.length_cons, List.length_cons, List.length_cons]; omega)) ?_
    refine ⟨_, rfl, t, dt, _, rfl, ht, noA, _, rfl, R, _, rfl, .inl ⟨SqL.of hR, fun a na => ?_⟩⟩
    have s1 := same_upd na (.tup ((q0 :: q1 :: q2 :: q3 :: qs).map V.ref))
    exact ⟨t, r, c, bs, ms, pl, a, tr, l, rows, mv, n, q0 :: q1 :: q2 :: q3 :: qs, rfl, TN.same s1, RA.same s1, CR.same s1, bd, lt, upd_same, LM.same firmM s1, ok, hm, hn, k.later s1⟩
abbrev N_sc_don : List Str := ["engine", "row", "kind", "end", "spot"]
theorem sc_don : FnScope N_sc_don ["engine", "row", "kind"] (defScope s_law_done) := ⟨rfl, rfl, rfl, by decide +kernel, rfl, by decide +kernel, by decide +kernel⟩
theorem ok_don {f fR fA fH fV CT CC C : Addr} {fd fdR fdA fdH fdV : FuncData} (F : Fun K "_law_done" "_law_done" s_law_done f fd) (N : Nm mg) (X : TxtT K CT) (UR : Use P w K mg base CX0 10 "_law_ran" fR fdR ["engine", "row"] (spRan CT CC C)) (MA : MU P w K mg base CT 8 "run_all" fA fdA ["self", "moves"] (spRAll CT CC C))
    (MH : MU P w K mg base CT 9 "ahead" fH fdH ["self", "station"] (spAhd CT CC C true)) (MV : MU P w K mg base CT 9 "reverse" fV fdV ["self", "station"] (spAhd CT CC C false))
    (MAk : ∀ (s : Shared) (a : Value) (ws : List Value), K.In s.heap → ws.length = (["moves"] : List Str).length → BindsTo s fdA ⟨[a], (["moves"] : List Str).zip ws⟩ ((["self", "moves"] : List Str).zip (a :: id ws)))
    (MHk : ∀ (s : Shared) (a : Value) (ws : List Value), K.In s.heap → ws.length = (["station"] : List Str).length → BindsTo s fdH ⟨[a], (["station"] : List Str).zip ws⟩ ((["self", "station"] : List Str).zip (a :: id ws))) : FnOk P w K mg base CX0 11 f fd ["engine", "row", "kind"] (spDone CT CC C) := by
  refine F.ok sc_don (fun vs H Q E h => ?_) (fun cdv A outer s H vs Q E hr h => ?_)
  · obtain ⟨t, r, c, bs, ms, pl, R, tr, l, rows, mv, n, kk, qs, rfl, _⟩ := h
    rfl
  · obtain ⟨t, r, c, bs, ms, pl, R, tr, l, rows, mv, n, kk, qs, rfl, RW, k⟩ := h
    obtain ⟨TN, RA, CR, bd, lt, hR, LM, ok, hm, hn⟩ := id RW
    have hr8 : Room 8 (A.deeper (envOfC "_law_done" (defScope s_law_done) s.heap.objs.size f cdv)) := hr.mono (by decide)
    have hr9 : Room 9 (A.deeper (envOfC "_law_done" (defScope s_law_done) s.heap.objs.size f cdv)) := hr.mono (by decide)
    refine ⟨_, (pss_cons (ps_if (PW.pt (pw_or (pt_cmpR op_gt (pv 2) pe_int (nomark _)) (pw_or1 (pt_cmpR op_ne (pe_callB call_len_seq (by rfl) N.len boot_len (pa_cons (pv 1) pa_nil)) pe_int (nomark _))))) (pss_one (ps_ret (pe_ifExp (pt_cmpR op_eq (pv 2) pe_int (nomark _)) (pe_methKW0 (hV := id) (pv 0) X.cl MA.m MA.G hr8 MAk (fun hl r => r) pass0 (pk_cons (pe_callTy call_tuple_of (by rfl) N.tuple boot_tuple (pa_cons (pv 1) pa_nil)) pk_nil)) (pe_use UR hr (by rfl) (pa_cons (pv 0) (pa_cons (pv 1) pa_nil)))))) pss_nil)
        (pss_cons (ps_asg (pe_ix ix_list (pv 1) pe_int (fun _ _ => rfl)) (pg_tup rfl (pgs_cons (pg_name (i := 3) sc_don.nd rfl (.inl rfl)) (pgs_cons (pg_name (i := 4) sc_don.nd rfl (.inl rfl)) pgs_nil))))
        (pss_cons (ps_if (pt_cmpR op_eq (pv 3) pe_str (nomark _)) (pss_one (ps_ret (pe_ifExp (pt_cmpR op_eq (pv 2) pe_int (nomark _)) (pe_methKW0 (hV := id) (pv 0) X.cl MH.m MH.G hr9 MHk (fun hl r => r) pass0 (pk_cons (pv 4) pk_nil)) (pe_meth (pv 0) X.cl MH.m MH.G hr9 MH.b .nil pass0 (pa_cons (pv 4) pa_nil))))) pss_nil)
        (pss_one (ps_ret (pe_meth (pv 0) X.cl MV.m MV.G hr9 MV.b .nil pass0 (pa_cons (pv 4) pa_nil))))))), ?_⟩
    obtain ⟨dt, ht⟩ := id TN
    have lq := LM.len
    have noA : (flT r c).lookup ("run_all" : Str) = none := flT_no (by decide +kernel) (by decide +kernel)
    have noH : (flT r c).lookup ("ahead" : Str) = none := flT_no (by decide +kernel) (by decide +kernel)
    have noV : (flT r c).lookup ("reverse" : Str) = none := flT_no (by decide +kernel) (by decide +kernel)
    refine ⟨_, rfl, _, _, rfl, rfl, _, rfl, ?_⟩
    by_cases c1 : (1 : Int) < ((kk : Nat) : Int)
    · refine iteT' (decide_eq_true c1) ?_
      refine ⟨_, rfl, rfl, _, rfl, ?_⟩
      by_cases k3 : kk = 3
      · refine iteT' (decide_eq_true (by rw [k3]; rfl)) ?_
        refine ⟨_, rfl, t, dt, _, rfl, ht, noA, _, rfl, R, _, rfl, .inl ⟨SqL.of hR, fun a na => ?_⟩⟩
        have s1 := same_upd na (.tup (qs.map V.ref))
        exact ⟨rfl, t, r, c, bs, ms, pl, a, tr, l, rows, mv, n, qs, rfl, TN.same s1, RA.same s1, CR.same s1, bd, lt, upd_same, LM.same firmM s1, ok, hm, hn, k.later s1⟩
      · refine iteF' (decide_eq_false (fun z => k3 (by have := V.int.inj z; omega))) ?_
        exact ⟨_, rfl, _, rfl, t, r, c, bs, ms, pl, R, tr, l, rows, mv, n, qs, rfl, RW, k⟩
    refine iteF' (decide_eq_false c1) ?_
    refine ⟨_, rfl, R, _, rfl, .inl (SqL.of hR), rfl, _, rfl, ?_⟩
    by_cases c2 : qs.length = 1
    · have e2 : (!decide (V.int (((qs.map V.ref).length : Nat) : Int) = V.int 1)) = false := by rw [List.length_map, c2]; rfl
      rw [e2]
      refine iteF ?_
      obtain ⟨q0, rfl⟩ := List.length_eq_one_iff.mp c2
      obtain ⟨m, rfl⟩ := List.length_eq_one_iff.mp (lq.symm.trans c2)
      have hq := LM.at_ 0 q0 m rfl rfl
      have hx := hm m List.mem_cons_self
      refine ⟨_, rfl, R, _, _, .ref q0, rfl, rfl, SqL.of hR, atN (n := 0) rfl, q0, _, rfl, SqT.of hq, rfl, _, _, rfl, _, _, rfl, rfl, ?_⟩
      obtain ⟨e, x⟩ := m
      refine ⟨_, rfl, rfl, _, rfl, ?_⟩
      rw [mvw_hdV]
      cases e with
      | true =>
        refine iteT ?_
        refine ⟨_, rfl, rfl, _, rfl, ?_⟩
        by_cases k0 : kk = 0
        · refine iteT' (decide_eq_true (by rw [k0]; rfl)) ?_
          exact ⟨_, rfl, t, dt, _, rfl, ht, noH, _, rfl, rfl, t, r, c, bs, ms, pl, tr, l, rows, x, n, rfl, TN, RA, CR, bd, lt, ok, hx, hn, k⟩
        · refine iteF' (decide_eq_false (fun z => k0 (by have := V.int.inj z; omega))) ?_
          exact ⟨_, rfl, t, dt, _, rfl, ht, noH, _, rfl, t, r, c, bs, ms, pl, tr, l, rows, x, n, rfl, TN, RA, CR, bd, lt, ok, hx, hn, k⟩
      | false =>
        refine iteF ?_
        exact ⟨_, rfl, t, dt, _, rfl, ht, noV, _, rfl, t, r, c, bs, ms, pl, tr, l, rows, x, n, rfl, TN, RA, CR, bd, lt, ok, hx, hn, k⟩
    · have e2 : (!decide (V.int (((qs.map V.ref).length : Nat) : Int) = V.int 1)) = true := by
        rw [decide_eq_false (fun z => c2 (by have := V.int.inj z; rw [List.length_map] at this; omega))]; rfl
      rw [e2]
      refine iteT ?_
      refine ⟨_, rfl, rfl, _, rfl, ?_⟩
      by_cases k3 : kk = 3
      · refine iteT' (decide_eq_true (by rw [k3]; rfl)) ?_
        refine ⟨_, rfl, t, dt, _, rfl, ht, noA, _, rfl, R, _, rfl, .inl ⟨SqL.of hR, fun a na => ?_⟩⟩
        have s1 := same_upd na (.tup (qs.map V.ref))
        exact ⟨rfl, t, r, c, bs, ms, pl, a, tr, l, rows, mv, n, qs, rfl, TN.same s1, RA.same s1, CR.same s1, bd, lt, upd_same, LM.same firmM s1, ok, hm, hn, k.later s1⟩
      · refine iteF' (decide_eq_false (fun z => k3 (by have := V.int.inj z; omega))) ?_
        exact ⟨_, rfl, _, rfl, t, r, c, bs, ms, pl, R, tr, l, rows, mv, n, qs, rfl, RW, k⟩
end
end TR
namespace L2.TT
open PySem PySem.Spec PyProof.Rows PySem.W
/-- repr(v), v plain data -/
def rReprV (K : Frag) : List V → Hp → VK → Prop := fun xs H Q => ∃ (v : V) (d : PyData), xs = [v] ∧ Dp K H v d ∧ d.canLay0 = true ∧ d.showable = true ∧ d.leavesShort 60 = true ∧ d.weight ≤ 900 ∧ d.depth ≤ 20 ∧ Q (.str d.shown) H
theorem shown_fit60 {d : PyData} (hb : d.leavesShort 60 = true) (hw : d.weight ≤ 1000) : d.shown.length ≤ sizeLine := by
  have h := PyData.shown_le 60 (by decide) d hb
  rw [sizeLine_eq]
  omega
theorem sk_all {K : Frag} {H : Hp} : ∀ {ds : List PyData} {vs : List V}, DpAll K H vs ds → PyData.canLayAll0 ds = true → PyData.showableAll ds = true → PyData.leavesShortAll 60 ds = true → PyData.weightAll ds ≤ 1000 → Paired (SK K H) vs ds
  | [], _, h, _, _, _, _ => by
    cases h
    exact .nil
  | d :: ds, _, h, c1, c2, c3, c4 => by
    cases h with
    | cons h1 h2 =>
      simp only [PyData.canLayAll0, Bool.and_eq_true] at c1
      simp only [PyData.showableAll, Bool.and_eq_true] at c2
      simp only [PyData.leavesShortAll, Bool.and_eq_true] at c3
      simp only [PyData.weightAll] at c4
      exact .cons (SK.dp h1 c1.1 c2.1 (shown_fit60 c3.1 (by omega))) (sk_all h2 c1.2 c2.2 c3.2 (by omega))
theorem call_reprV {X : Cx} (hg : X.A.guards = some []) (hu : X.A.units + 64 < cLine) : CallR X (.builtin "repr") (rReprV X.K) := by
  intro pins s σ H xs us Q I r h
  obtain ⟨v, d, rfl, hd, hc, hs, hb, hw, hp, q⟩ := h
  obtain ⟨u, rfl, ru⟩ := vals1 r
  have fit := shown_fit60 hb (by omega)
  cases hd with
  | non =>
    cases ru
    exact P.repr_of_none ⟨.str "None", H, I.tok _, ⟨_, rfl⟩, q⟩
  | bl b =>
    cases ru
    exact P.repr_of_bool ⟨.str (PyData.shown (.bool b)), H, I.tok _, ⟨_, rfl⟩, q⟩
  | int i =>
    obtain ⟨t, rfl⟩ := ru
    have hi : i.natAbs.log2 < 1920 := by simpa only [PyData.showable, decide_eq_true_eq] using hs
    exact P.repr_of_int hi ⟨.str (PyData.shown (.int i)), H, I.tok _, ⟨_, rfl⟩, q⟩
  | str x =>
    obtain ⟨t, rfl⟩ := ru
    exact P.repr_of_str ⟨.str (PyData.shown (.str x)), H, I.tok _, ⟨_, rfl⟩, q⟩ (hsz := fit)
  | @lst a vs ds hl hd =>
    refine call_repr60 hg hu pins s σ H _ _ Q I (.cons ru .nil) ⟨a, vs, ds, rfl, hl, .inl ⟨hd, hc⟩, hs, hb, ?_, ?_, q⟩
    · simp only [PyData.weight] at hw
      omega
    · simp only [PyData.depth] at hp
      omega
  | @tup a vs ds hl hd =>
    cases ru
    obtain ⟨its, rv, ⟨o, ho, hcl, n, hda⟩, hz⟩ := I.tuple hl
    obtain ⟨bs0, as0, f1, f2, f3⟩ := SK.all rfl I (vs := vs) (ds := ds) (by
      refine sk_all hd hc hs hb ?_
      simp only [PyData.weight] at hw
      omega) rv
    have hna : a ∉ bs0 := not_mem_of_deeper (.tuple ho hcl hda f1) (by simp only [PyData.depth]; omega) f2
    simp only [PyData.shown] at q fit
    refine call_repr_slot (by omega) ⟨o, ho, hcl⟩ F.slot_tuple_repr ?_
    refine call_tuple_reprK ho hcl hda hna (by simpa using f3) hg (fun b _ => Clear.nil b) (by show X.A.units + 1 + _ < cLine; simp only [PyData.depth] at hp; omega) (fun _ _ e => e) (fun h' u tk k => ?_) fit
    exact ⟨_, _, rfl, .str (tupleText (PyData.shownAll ds)), H, I.kept k, ⟨u, rfl⟩, q⟩
end L2.TT
namespace TR
open PySem PySem.Spec PyProof.Rows L2 L2.TT StX ClX
/-- the facts of one class, each read off the written part -/
structure ClsK (K : PySem.W.Frag) (C fI : Addr) (bm : List Value) (newId : String) (f : Str) : Prop where
  ini : PySem.W.excInitIn K C bm newId = true
  ovr : PySem.W.excOver K C bm = true
  sa : PySem.W.findIn K (.ref C) "__setattr__" = some (some (.builtin "object.__setattr__"))
  ga : PySem.W.findIn K (.ref C) "__getattribute__" = some (some (.builtin "BaseException.__getattribute__"))
  gg : PySem.W.findIn K (.ref C) "__getattr__" = some none
  sub : PySem.W.subIn K (.ref C) (.type "BaseException") = some true
  hd : PySem.W.hasDictIn K C = true
  kp : PySem.W.keepIn K (.ref C) = true
  ca : PySem.W.findIn K (.ref C) "__class__" = some (some (.builtin "object.__class__"))
  ob : PySem.W.mroIn K C (.type "object") = some true
  nF : PySem.W.findIn K (.ref C) f = some none
  tI : PySem.W.typeIn K (.ref fI) = some (.type "function")
  typ : PySem.W.typeIn K (.ref C) = some (.type "type")
theorem ClsK.xc {K : PySem.W.Frag} {C fI : Addr} {bm : List Value} {newId : String} {f : Str} (z : ClsK K C fI bm newId f) : XC K C bm newId := ⟨z.ini, z.ovr, z.sa, z.ga, z.gg, z.sub, z.hd, z.kp, z.ca, z.ob⟩
/-- a def of the module whose promise asks that no repr is under way -/
structure UseG (P : Program) (w : World) (K : PySem.W.Frag) (mg : Str → Option Value) (base : Heap) (k : Nat) (x : Str) (f : Addr) (fd : FuncData) (ps : List Str) (sp : Sp) : Prop where
  G : FnG P w K mg base CX0 k f fd ps sp
  m : mg x = some (.ref f)
  kp : PySem.W.keepIn K (.ref f) = true
  b : Binds K fd ps []
def spLaw (K : PySem.W.Frag) : Sp := fun vs H Q _ => ∃ (a : Addr) (ns : List Int), vs = [.ref a] ∧ SqL K H a (ns.map V.int) ∧ ns.length ≤ 63 ∧ ∀ H', Q (.bl true) H'
end TR
namespace TR
open PySem PySem.Spec PyProof.Rows L2 L2.TT StX ClX
def spSo (CT CC : Addr) (K : PySem.W.Frag) : Sp := fun vs H Q _ => ∃ (t r c bs ms pl a p R : Addr) (tr : List E2) (l : List Nat) (mv : List Mv) (n : Nat) (qs : List Addr), vs = [.ref t, .ref a, .ref p, .ref R] ∧ TnAt CT H t r c ∧ CrAt CC H c bs ms pl l mv n ∧ Bd tr l ∧ tr.length ≤ 11 ∧ Ard K H a tr ∧ TreeL tr ∧
  H p = some (.tup [iv (hd0 l), iv (lt0 l)]) ∧ H R = some (.lst (qs.map V.ref)) ∧ Lay MvR H qs mv ∧ (∀ m ∈ mv, m.2 ≤ tr.length) ∧ mv.length ≤ 48 ∧ ∀ H', Same H H' → Q (.bl true) H'
/-- what is told of a train -/
def soD (l : List Nat) (mv : List Mv) : PyData := .list [.tuple [di (hd0 l), di (lt0 l)], di (hd0 l), di (lt0 l), .int ((l.length : Int) - 1), .tuple (l.map di), .tuple (mv.map mvD)]
theorem leaf60 {i : Int} (h : i.natAbs < 10 ^ 41) : (PyData.int i).leavesShort 60 = true := by
  simp only [PyData.leavesShort, decide_eq_true_eq]
  have e : (toString i).length ≤ 42 := int_text_length_le10 (k := 41) (by decide) h
  show (Str.ofString (toString i)).length ≤ 60
  rw [PySem.ofString_length]
  omega
theorem int15 {n : Nat} (h : n ≤ 15) : (di n).canLay0 = true ∧ (di n).showable = true ∧ (di n).leavesShort 60 = true ∧ (di n).weight ≤ 4 ∧ (di n).depth = 0 := by
  obtain ⟨h1, h2, h3, h4⟩ := int_show (i := (n : Int)) (by omega) (by omega)
  refine ⟨rfl, h1, leaf60 (by omega), ?_, rfl⟩
  have : ∀ k : Fin 16, (PyData.int ((k : Nat) : Int)).weight ≤ 4 := by decide +kernel
  exact this ⟨n, by omega⟩
theorem ints15 : ∀ {xs : List Nat}, (∀ x ∈ xs, x ≤ 15) → PyData.canLayAll0 (xs.map di) = true ∧ PyData.showableAll (xs.map di) = true ∧ PyData.leavesShortAll 60 (xs.map di) = true ∧ PyData.weightAll (xs.map di) ≤ 5 * xs.length ∧ PyData.depthAll (xs.map di) = 0
  | [], _ => ⟨rfl, rfl, rfl, by simp [PyData.weightAll], rfl⟩
  | x :: xs, h => by
    obtain ⟨a1, a2, a3, a4, a5⟩ := ints15 (xs := xs) fun y hy => h y (List.mem_cons_of_mem _ hy)
    obtain ⟨b1, b2, b3, b4, b5⟩ := int15 (h x List.mem_cons_self)
    refine ⟨?_, ?_, ?_, ?_, ?_⟩
    · show ((di x).canLay0 && _) = true
      rw [b1, a1]; rfl
    · show ((di x).showable && _) = true
      rw [b2, a2]; rfl
    · show ((di x).leavesShort 60 && _) = true
      rw [b3, a3]; rfl
    · show (di x).weight + 1 + PyData.weightAll (xs.map di) ≤ _
      rw [List.length_cons]; omega
    · show max (di x).depth (PyData.depthAll (xs.map di)) = 0
      rw [b5, a5]; rfl
theorem mv15 {m : Mv} (h : m.2 ≤ 15) : (mvD m).canLay0 = true ∧ (mvD m).showable = true ∧ (mvD m).leavesShort 60 = true ∧ (mvD m).weight ≤ 10 ∧ (mvD m).depth ≤ 1 := by
  obtain ⟨e, x⟩ := m
  obtain ⟨b1, b2, b3, b4, b5⟩ := int15 (n := x) h
  have hs : (PyData.str (mvw e)).showable = true ∧ (PyData.str (mvw e)).leavesShort 60 = true ∧ (PyData.str (mvw e)).weight ≤ 4 := by cases e <;> exact ⟨by decide +kernel, by decide +kernel, by decide +kernel⟩
  refine ⟨mvD_lay _, ?_, ?_, ?_, ?_⟩
  · show ((PyData.str (mvw e)).showable && ((di x).showable && true)) = true
    rw [hs.1, b2]; rfl
  · show ((PyData.str (mvw e)).leavesShort 60 && ((di x).leavesShort 60 && true)) = true
    rw [hs.2.1, b3]; rfl
  · show (PyData.str (mvw e)).weight + 1 + ((di x).weight + 1 + 0) ≤ 10
    omega
  · show max (PyData.str (mvw e)).depth (max (di x).depth 0) + 1 ≤ 1
    rw [b5]
    exact Nat.le_refl _
theorem mvs15 : ∀ {ms : List Mv}, (∀ m ∈ ms, m.2 ≤ 15) → PyData.showableAll (ms.map mvD) = true ∧ PyData.leavesShortAll 60 (ms.map mvD) = true ∧ PyData.weightAll (ms.map mvD) ≤ 11 * ms.length
  | [], _ => ⟨rfl, rfl, by simp [PyData.weightAll]⟩
  | m :: ms, h => by
    obtain ⟨a2, a3, a4⟩ := mvs15 (ms := ms) fun y hy => h y (List.mem_cons_of_mem _ hy)
    obtain ⟨b1, b2, b3, b4, b5⟩ := mv15 (h m List.mem_cons_self)
    refine ⟨?_, ?_, ?_⟩
    · show ((mvD m).showable && _) = true
      rw [b2, a2]; rfl
    · show ((mvD m).leavesShort 60 && _) = true
      rw [b3, a3]; rfl
    · show (mvD m).weight + 1 + PyData.weightAll (ms.map mvD) ≤ _
      rw [List.length_cons]; omega
theorem so_show {l : List Nat} {mv : List Mv} (h1 : hd0 l ≤ 15) (h2 : lt0 l ≤ 15) (hl : ∀ x ∈ l, x ≤ 15) (hm : ∀ m ∈ mv, m.2 ≤ 15) (ll : l.length ≤ 12) (l2 : 2 ≤ l.length) (lm : mv.length ≤ 48) : (soD l mv).canLay0 = true ∧ (soD l mv).showable = true ∧ (soD l mv).leavesShort 60 = true ∧ (soD l mv).weight ≤ 900 ∧ (soD l mv).depth ≤ 20 := by
  obtain ⟨a1, a2, a3, a4, a5⟩ := ints15 hl
  obtain ⟨b2, b3, b4⟩ := mvs15 hm
  have b1 := mvs_lay mv
  have b5 := mvs_depth mv
  obtain ⟨c1, c2, c3, c4, c5⟩ := int15 h1
  obtain ⟨d1, d2, d3, d4, d5⟩ := int15 h2
  obtain ⟨e1, e2, e3, e4, e5⟩ := int15 (n := l.length - 1) (by omega)
  have eq : PyData.int ((l.length : Int) - 1) = di (l.length - 1) := by
    show PyData.int _ = PyData.int _
    congr 1
    omega
  unfold soD
  rw [eq]
  refine ⟨?_, ?_, ?_, ?_, ?_⟩
  · show (((di (hd0 l)).canLay0 && ((di (lt0 l)).canLay0 && true)) && ((di (hd0 l)).canLay0 && ((di (lt0 l)).canLay0 && ((di (l.length - 1)).canLay0 && (PyData.canLayAll0 (l.map di) && (PyData.canLayAll0 (mv.map mvD) && true)))))) = true
    rw [c1, d1, e1, a1, b1]; rfl
  · show (((di (hd0 l)).showable && ((di (lt0 l)).showable && true)) && ((di (hd0 l)).showable && ((di (lt0 l)).showable && ((di (l.length - 1)).showable && (PyData.showableAll (l.map di) && (PyData.showableAll (mv.map mvD) && true)))))) = true
    rw [c2, d2, e2, a2, b2]; rfl
  · show (((di (hd0 l)).leavesShort 60 && ((di (lt0 l)).leavesShort 60 && true)) && ((di (hd0 l)).leavesShort 60 && ((di (lt0 l)).leavesShort 60 && ((di (l.length - 1)).leavesShort 60 && (PyData.leavesShortAll 60 (l.map di) && (PyData.leavesShortAll 60 (mv.map mvD) && true)))))) = true
    rw [c3, d3, e3, a3, b3]; rfl
  · simp only [PyData.weight, PyData.weightAll] at a4 b4 c4 d4 e4 ⊢
    omega
  · simp only [PyData.depth, PyData.depthAll] at a5 b5 c5 d5 e5 ⊢
    omega
section
variable {P : Program} {w : World} {K : PySem.W.Frag} {mg : Str → Option Value} {base : Heap}
abbrev N_sc_so : List Str := ["engine", "links", "place", "row", "route", "told"]
theorem sc_so : FnScope N_sc_so ["engine", "links", "place", "row"] (defScope s_law_is_so) := ⟨rfl, rfl, rfl, by decide +kernel, rfl, by decide +kernel, by decide +kernel⟩
theorem ok_so {f fR g1 p1 g2 p2 g3 p3 g4 p4 g5 p5 g6 p6 CT CC : Addr} {fd fdR fd1 fd2 fd3 fd4 fd5 fd6 : FuncData} (F : Fun K "_law_is_so" "_law_is_so" s_law_is_so f fd) (N : Nm mg) (UR : Use P w K mg base CX0 1 "_law_route" fR fdR ["links", "one", "two"] (spBdy K))
    (PS : PrU P w K mg base CT "standing" 5 p1 g1 fd1 (spTSt CT CC)) (PH : PrU P w K mg base CT "head" 3 p2 g2 fd2 (spTHead CT CC fun l => iv (hd0 l))) (PT : PrU P w K mg base CT "tail" 3 p3 g3 fd3 (spTHead CT CC fun l => iv (lt0 l))) (PN : PrU P w K mg base CT "span" 3 p4 g4 fd4 (spTHead CT CC spanV)) (PB : PrU P w K mg base CT "body" 1 p5 g5 fd5 (spTBody CT CC)) (PK : PrU P w K mg base CT "steps" 1 p6 g6 fd6 (spTSteps CT CC)) :
    FnG P w K mg base CX0 7 f fd ["engine", "links", "place", "row"] (spSo CT CC K) := by
  refine L2.TT.Fun.okG F sc_so (fun vs H Q E h => ?_) (fun cdv A outer s H vs Q E hG hr h => ?_)
  · obtain ⟨t, r, c, bs, ms, pl, a, p, R, tr, l, mv, n, qs, rfl, _⟩ := h
    rfl
  · obtain ⟨t, r, c, bs, ms, pl, a, p, R, tr, l, mv, n, qs, rfl, TN, CR, bd, lt, hA, T, hp, hR, LM, hmm, lm, k⟩ := h
    have hr1 : Room 1 (A.deeper (envOfC "_law_is_so" (defScope s_law_is_so) s.heap.objs.size f cdv)) := hr.mono (by decide)
    have hr2 : Room 2 (A.deeper (envOfC "_law_is_so" (defScope s_law_is_so) s.heap.objs.size f cdv)) := hr.mono (by decide)
    have hr4 : Room 4 (A.deeper (envOfC "_law_is_so" (defScope s_law_is_so) s.heap.objs.size f cdv)) := hr.mono (by decide)
    have hr6 : Room 6 (A.deeper (envOfC "_law_is_so" (defScope s_law_is_so) s.heap.objs.size f cdv)) := hr.mono (by decide)
    have hu64 : (A.deeper (envOfC "_law_is_so" (defScope s_law_is_so) s.heap.objs.size f cdv)).units + 64 < cLine := hr.units
    refine ⟨_, (pss_cons (ps_set (i := 4) sc_so.nd rfl (.inl rfl) (pe_use UR hr1 (by rfl) (pa_cons (pv 1) (pa_cons (pe_ix ix_tup (pv 2) pe_int (fun _ _ => rfl)) (pa_cons (pe_ix ix_tup (pv 2) pe_int (fun _ _ => rfl)) pa_nil)))))
        (pss_cons (ps_set (i := 5) sc_so.nd rfl (.inl rfl) (pe_lst (pa_cons (pe_prop (pv 0) PS.cl PS.hp PS.G hr6 PS.b .nil pass0 rfl) (pa_cons (pe_prop (pv 0) PH.cl PH.hp PH.G hr4 PH.b .nil pass0 rfl) (pa_cons (pe_prop (pv 0) PT.cl PT.hp PT.G hr4 PT.b .nil pass0 rfl) (pa_cons (pe_prop (pv 0) PN.cl PN.hp PN.G hr4 PN.b .nil pass0 rfl) (pa_cons (pe_prop (pv 0) PB.cl PB.hp PB.G hr2 PB.b .nil pass0 rfl) (pa_cons (pe_prop (pv 0) PK.cl PK.hp PK.G hr2 PK.b .nil pass0 rfl) pa_nil))))))))
        (pss_one (ps_ret (pe_cmpR op_eq (pe_callB (call_reprV hG hu64) (by rfl) N.repr PyProof.Rows.boot_repr (pa_cons (pv 5) pa_nil)) (pe_callB (call_reprV hG hu64) (by rfl) N.repr PyProof.Rows.boot_repr (pa_cons (pe_lst (pa_cons (pv 2) (pa_cons (pe_ix ix_tup (pv 2) pe_int (fun _ _ => rfl)) (pa_cons (pe_ix ix_tup (pv 2) pe_int (fun _ _ => rfl)) (pa_cons (pe_op op_sub (pe_callB call_len_seq (by rfl) N.len boot_len (pa_cons (pv 4) pa_nil)) pe_int) (pa_cons (pe_callTy call_tuple_of (by rfl) N.tuple boot_tuple (pa_cons (pv 4) pa_nil)) (pa_cons (pe_callTy call_tuple_of (by rfl) N.tuple boot_tuple (pa_cons (pv 3) pa_nil)) pa_nil))))))) pa_nil)) (nomark _)))))), ?_⟩
    obtain ⟨dt, ht0⟩ := id TN
    have b2 := bd.two
    have ll : l.length ≤ 12 := by have := sw_len T bd.sw bd.hle; omega
    have i0 : atI [iv (hd0 l), iv (lt0 l)] 0 = some (iv (hd0 l)) := atN (n := 0) rfl
    have i1 : atI [iv (hd0 l), iv (lt0 l)] 1 = some (iv (lt0 l)) := atN (n := 1) rfl
    refine ⟨_, rfl, _, rfl, p, _, _, _, rfl, rfl, SqT.of hp, i0, _, rfl, p, _, _, _, rfl, rfl, SqT.of hp, i1, a, tr, hd0 l, lt0 l, rfl, hA, T, by omega, bd.hle, bd.lle, fun g l2 H1 s1 ng hg sw => ?_⟩
    cases SW.uniq T sw bd.sw
    have TN1 := TN.same s1
    have CR1 := CR.same s1
    refine ⟨_, rfl, t, dt, _, rfl, s1 _ _ ht0, t, r, c, bs, ms, pl, l, mv, n, rfl, TN1, CR1, b2, by omega, fun z1 n1 => ?_⟩
    have s2 := same_upd n1 (.tup [iv (hd0 l), iv (lt0 l)])
    have hz1 := upd_same (H := H1) (a := z1) (o := .tup [iv (hd0 l), iv (lt0 l)])
    generalize upd H1 z1 (.tup [iv (hd0 l), iv (lt0 l)]) = H2 at s2 hz1 ⊢
    have TN2 := TN1.same s2
    have CR2 := CR1.same s2
    have s12 := s1.trans s2
    have ht2 := s12 _ _ ht0
    refine ⟨_, rfl, t, dt, _, rfl, ht2, t, r, c, bs, ms, pl, l, mv, n, rfl, TN2, CR2, b2, by omega, _, rfl, t, dt, _, rfl, ht2, t, r, c, bs, ms, pl, l, mv, n, rfl, TN2, CR2, b2, by omega, _, rfl, t, dt, _, rfl, ht2, t, r, c, bs, ms, pl, l, mv, n, rfl, TN2, CR2, b2, by omega, ?_⟩
    refine ⟨_, rfl, t, dt, _, rfl, ht2, t, r, c, bs, ms, pl, l, mv, n, rfl, TN2, CR2, fun pb hpb => ?_⟩
    refine ⟨_, rfl, t, dt, _, rfl, ht2, t, r, c, bs, ms, pl, l, mv, n, rfl, TN2, CR2, fun pk qk nk LK => ?_⟩
    have six : (6 : Nat) ≤ sizeLine := by rw [sizeLine_eq]; decide
    have s3 := same_upd nk (.tup (qk.map V.ref))
    have hpk := upd_same (H := H2) (a := pk) (o := .tup (qk.map V.ref))
    have LK3 := LK.same firmM s3
    generalize upd H2 pk (.tup (qk.map V.ref)) = H3 at s3 hpk LK3 ⊢
    refine ⟨six, fun S nS => ?_⟩
    have s4 := same_upd nS (.lst [V.ref z1, iv (hd0 l), iv (lt0 l), spanV l, V.ref pb, V.ref pk])
    have hS := upd_same (H := H3) (a := S) (o := .lst [V.ref z1, iv (hd0 l), iv (lt0 l), spanV l, V.ref pb, V.ref pk])
    generalize upd H3 S (.lst [V.ref z1, iv (hd0 l), iv (lt0 l), spanV l, V.ref pb, V.ref pk]) = H4 at s4 hS ⊢
    have s34 := s3.trans s4
    have s14 := s12.trans s34
    have hle := bd.hle
    have lle := bd.lle
    obtain ⟨w1, w2, w3, w4, w5⟩ := so_show (l := l) (mv := mv) (by omega) (by omega) (fun x hx => by have := bd.le x hx; omega) (fun m hm => by have := hmm m hm; omega) ll b2 lm
    refine ⟨_, rfl, _, soD l mv, rfl, .lst (SqL.of hS) (.cons (.tup (SqT.of (s34 _ _ hz1)) (.cons (.int _) (.cons (.int _) .nil))) (.cons (.int _) (.cons (.int _) (.cons (.int _) (.cons (.tup (SqT.of (s34 _ _ hpb)) (dpAll_ints l)) (.cons (.tup (SqT.of (s4 _ _ hpk)) (mvs_dp (LK3.same firmM s4))) .nil)))))), w1, w2, w3, w4, w5, ?_⟩
    have hp4 := s14 _ _ hp
    have hg4 := (s2.trans s34) _ _ hg
    have hR4 := s14 _ _ hR
    refine ⟨_, rfl, _, rfl, p, _, _, _, rfl, rfl, SqT.of hp4, i0, _, rfl, p, _, _, _, rfl, rfl, SqT.of hp4, i1, _, rfl, g, _, rfl, .inl (SqL.of hg4), _, _, rfl, rfl, ?_⟩
    refine ⟨_, rfl, g, _, rfl, .inl ⟨SqL.of hg4, fun q1 nq1 => ?_⟩⟩
    have s5 := same_upd nq1 (.tup (l.map iv))
    have hq1 := upd_same (H := H4) (a := q1) (o := .tup (l.map iv))
    generalize upd H4 q1 (.tup (l.map iv)) = H5 at s5 hq1 ⊢
    refine ⟨_, rfl, R, _, rfl, .inl ⟨SqL.of (s5 _ _ hR4), fun q2 nq2 => ?_⟩⟩
    have s6 := same_upd nq2 (.tup (qs.map V.ref))
    have hq2 := upd_same (H := H5) (a := q2) (o := .tup (qs.map V.ref))
    generalize upd H5 q2 (.tup (qs.map V.ref)) = H6 at s6 hq2 ⊢
    have s56 := s5.trans s6
    refine ⟨six, fun S2 nS2 => ?_⟩
    have s7 := same_upd nS2 (.lst [V.ref p, iv (hd0 l), iv (lt0 l), V.int ((((l.map iv).length : Nat) : Int) - 1), V.ref q1, V.ref q2])
    have hS2 := upd_same (H := H6) (a := S2) (o := .lst [V.ref p, iv (hd0 l), iv (lt0 l), V.int ((((l.map iv).length : Nat) : Int) - 1), V.ref q1, V.ref q2])
    generalize upd H6 S2 (.lst [V.ref p, iv (hd0 l), iv (lt0 l), V.int ((((l.map iv).length : Nat) : Int) - 1), V.ref q1, V.ref q2]) = H7 at s7 hS2 ⊢
    rw [List.length_map] at hS2
    have s17 := s14.trans (s56.trans s7)
    refine ⟨_, soD l mv, rfl, .lst (SqL.of hS2) (.cons (.tup (SqT.of (s17 _ _ hp)) (.cons (.int _) (.cons (.int _) .nil))) (.cons (.int _) (.cons (.int _) (.cons (.int _) (.cons (.tup (SqT.of ((s6.trans s7) _ _ hq1)) (dpAll_ints l)) (.cons (.tup (SqT.of (s7 _ _ hq2)) (mvs_dp (LM.same firmM s17))) .nil)))))), w1, w2, w3, w4, w5, ?_⟩
    exact ⟨rfl, by rw [decide_eq_true rfl]; exact k H7 s17⟩
end
end TR
namespace TR
open PySem PySem.Spec PyProof.Rows L2 L2.TT StX ClX
def spStand : Sp := fun vs H Q _ => ∃ (dr cl : Addr) (c : Nat) (n : Nat), vs = [.ref dr, iv c] ∧ DrawAt H dr cl n ∧ n ≤ 800000000 ∧ 2 ≤ c ∧ c ≤ 1000 ∧
  ∀ (x y : Nat) (p : Addr) (H' : Hp), x < c → y < c → x ≠ y → DrawAt H' dr cl (n + 2) → Fr dr H H' → H p = none → H' p = some (.tup [iv x, iv y]) → Q (.ref p) H'
end TR
namespace TR
open PySem PySem.Spec PyProof.Rows L2 L2.TT StX ClX
section
variable {P : Program} {w : World} {K : PySem.W.Frag} {mg : Str → Option Value} {base : Heap}
theorem sc_plc : FnScope ["draw", "count", "one", "two"] ["draw", "count"] (defScope s_law_place) := ⟨rfl, rfl, rfl, by decide +kernel, rfl, by decide +kernel, by decide +kernel⟩
theorem ok_plc {f fn : Addr} {fd fdn : FuncData} (F : Fun K "_law_place" "_law_place" s_law_place f fd) (N : Nm mg) (U : Use P w K mg base CX0 2 "_law_next" fn fdn ["draw", "bound"] spNext) : FnOk P w K mg base CX0 3 f fd ["draw", "count"] spStand := by
  refine F.ok sc_plc (fun vs H Q E h => ?_) (fun cdv A outer s H vs Q E hr h => ?_)
  · obtain ⟨dr, cl, c, n, rfl, _⟩ := h
    rfl
  · obtain ⟨dr, cl, c, n, rfl, D, hn, hc0, hc1, k⟩ := h
    refine ⟨_, pss_cons (ps_set (i := 2) sc_plc.nd rfl (.inl rfl) (pe_use U hr rfl (pa_cons (pv 0) (pa_cons (pv 1) pa_nil))))
      (pss_cons (ps_set (i := 3) sc_plc.nd rfl (.inl rfl) (pe_use U hr rfl (pa_cons (pv 0) (pa_cons (pe_op op_sub (pv 1) pe_int) pa_nil))))
      (pss_one (ps_ret (pe_tup (pa_cons (pv 2) (pa_cons (pe_op op_add (pv 3) (pe_callTy call_int1 (by rfl) N.int boot_int (pa_cons (pe_cmpR op_ge (pv 3) (pv 2) (nomark _)) pa_nil))) pa_nil)))))), ?_⟩
    obtain ⟨kvs0, hd0⟩ := D.some1
    refine ⟨_, rfl, _, rfl, dr, cl, c, n, rfl, D, by omega, by omega, by omega, fun x Ha x0 x1 Da ka => ?_⟩
    refine ⟨_, rfl, _, rfl, _, _, rfl, rfl, dr, cl, _, _, rfl, Da, by omega, by omega, by omega, fun y Hb y0 y1 Db kb => ?_⟩
    have frb : Fr dr H Hb := (Fr.of ka).trans (Fr.of kb)
    obtain ⟨kvb, hdb⟩ := Db.some1
    refine ⟨_, rfl, _, rfl, _, rfl, _, rfl, _, _, rfl, rfl, .inr ⟨_, rfl, _, _, rfl, rfl, by show 2 ≤ sizeLine; rw [sizeLine_eq]; decide, fun p np => ?_⟩⟩
    have pd : p ≠ dr := fun z => by rw [z, hdb] at np; cases np
    obtain ⟨m, rfl⟩ := Int.eq_ofNat_of_zero_le x0
    obtain ⟨q, rfl⟩ := Int.eq_ofNat_of_zero_le y0
    by_cases hq : (m : Int) ≤ (q : Int)
    · refine k m (q + 1) p _ (by omega) (by omega) (by omega) (Db.same (same_upd np _)) (frb.trans (Fr.sm (same_upd np _))) (frb.free pd np) ?_
      rw [upd_same]
      simp [hq, iv]
    · refine k m q p _ (by omega) (by omega) (by omega) (Db.same (same_upd np _)) (frb.trans (Fr.sm (same_upd np _))) (frb.free pd np) ?_
      rw [upd_same]
      simp [hq, iv]
end
end TR
namespace TR
open PySem PySem.Spec PyProof.Rows L2 L2.TT StX ClX
section
variable {P : Program} {w : World} {K : PySem.W.Frag} {mg : Str → Option Value} {base : Heap}
abbrev N_sc_trkp : List Str := ["self"]
theorem sc_trkp : FnScope N_sc_trkp ["self"] (defScope s_Railway_tracks) := ⟨rfl, rfl, rfl, by decide +kernel, rfl, by decide +kernel, by decide +kernel⟩
theorem ok_trks {f C : Addr} {fd : FuncData} (F : Fun K "tracks" "Railway.tracks" s_Railway_tracks f fd) (X : TxtR K mg C) : FnOk P w K mg base CX0 1 f fd ["self"] (spTrk C) := by
  refine F.ok sc_trkp (fun vs H Q E h => ?_) (fun cdv A outer s H vs Q E hr h => ?_)
  · obtain ⟨r, tr, rfl, _⟩ := h
    rfl
  · obtain ⟨r, tr, rfl, R, k⟩ := h
    obtain ⟨T, few, dx, tt, na, Aa, L, ps, ts, h1, h2, h3, h4⟩ := id R
    refine ⟨_, pss_one (ps_ret (pe_fld (pv 0) rfl)), ?_⟩
    exact ⟨_, rfl, r, C, dx, _, _, rfl, h1, X.cl, X.nT, flR_t, k tt ps h2 h3⟩
end
end TR
namespace TR
open PySem PySem.Spec PyProof.Rows L2 L2.TT StX ClX
section
variable {P : Program} {w : World} {K : PySem.W.Frag} {mg : Str → Option Value} {base : Heap}
abbrev N_sc_same : List Str := ["self", "other"]
theorem sc_same : FnScope N_sc_same ["self", "other"] (defScope s_Railway_is_same) := ⟨rfl, rfl, rfl, by decide +kernel, rfl, by decide +kernel, by decide +kernel⟩
theorem ok_same {f C p g : Addr} {fd fdg : FuncData} (F : Fun K "is_same" "Railway.is_same" s_Railway_is_same f fd) (N : Nm mg) (X : TxtR K mg C) (J : InsK K C) (Z : PropU P w K mg base C p g fdg "tracks" 1 (spTrk C)) : FnOk P w K mg base CX0 3 f fd ["self", "other"] (spSame C) := by
  refine F.ok sc_same (fun vs H Q E h => ?_) (fun cdv A outer s H vs Q E hr h => ?_)
  · obtain ⟨r, r2, tr, tr2, rfl, _⟩ := h
    rfl
  · obtain ⟨r, r2, tr, tr2, rfl, R, R2, k⟩ := h
    have hu64 : (A.deeper (envOfC "Railway.is_same" (defScope s_Railway_is_same) s.heap.objs.size f cdv)).units + 64 < cLine := hr.units
    obtain ⟨_, _, dx, tt, na, Aa, L, ps, ts, h1, h2, h3, h4⟩ := id R
    obtain ⟨_, _, dx2, tt2, na2, Aa2, L2, ps2, ts2, h12, h22, h32, h42⟩ := id R2
    refine ⟨_, (pss_one (ps_ret (pe_and (pe_callB call_isi (by rfl) N.isi boot_isinstance (pa_cons (pv 1) (pa_cons (pe_glob (v := .ref C) (by rfl) X.mgC rfl) pa_nil))) (pe_one (pe_cmpR (op_eqD hu64) (pe_prop (pv 0) Z.cl Z.hp Z.G (hr.mono (by decide)) Z.b .nil pass0 rfl) (pe_prop (pv 1) Z.cl Z.hp Z.G (hr.mono (by decide)) Z.b .nil pass0 rfl) (nomark _)))))), ?_⟩
    refine ⟨_, rfl, _, _, _, _, true, rfl, .own C, .base (.ins h12 X.cl J.ca J.sg J.st J.ob), kit_self1 C, _, rfl, ?_⟩
    refine iteT ?_
    refine ⟨_, rfl, r, dx, _, rfl, h1, r, tr, rfl, R, fun tt ps ht hp => ?_⟩
    refine ⟨_, rfl, r2, dx2, _, rfl, h12, r2, tr2, rfl, R2, fun tt2 ps2 ht2 hp2 => ?_⟩
    refine ⟨.tuple (tr.map dpr), .tuple (tr2.map dpr), .tup (SqT.of ht) (dpAll_prs hp), .tup (SqT.of ht2) (dpAll_prs hp2), shaped_prs _, shaped_prs _, ?_⟩
    rw [show PyData.eqv (.tuple (tr.map dpr)) (.tuple (tr2.map dpr)) = decide (tr = tr2) from nE2]
    exact k
end
end TR
namespace TR
open PySem PySem.Spec PyProof.Rows L2 L2.TT StX ClX
theorem trainKB {K : PySem.W.Frag} {fd : FuncData} (h : ∀ (s : Shared) (a : Value) (ws : List Value), K.In s.heap → ws.length = (["tail", "head", "railway"] : List Str).length → BindsTo s fd ⟨[a], (["tail", "head", "railway"] : List Str).zip ws⟩ ((["self", "railway", "head", "tail"] : List Str).zip (a :: ws.reverse))) :
    KBn K fd ["self", "railway", "head", "tail"] 1 ["tail", "head", "railway"] (fun us ws => us ++ ws.reverse) (fun vs zs => vs ++ zs.reverse) :=
  ⟨fun s us ws hK l1 l2 => by
    obtain ⟨a, rfl⟩ := List.length_eq_one_iff.mp l1
    exact h s a ws hK l2, fun r1 r2 => r1.append r2.reverse⟩
theorem CrAt.keep {CC : Addr} {H H' : Hp} {c bs ms pl : Addr} {l : List Nat} {rows : List Mv} {n : Nat} (h : CrAt CC H c bs ms pl l rows n) (kc : ∀ o, H c = some o → H' c = some o) (kb : ∀ o, H bs = some o → H' bs = some o) (km : ∀ o, H ms = some o → H' ms = some o) (kp : ∀ o, H pl = some o → H' pl = some o) (kt : ∀ x xs, H x = some (.tup xs) → H' x = some (.tup xs)) : CrAt CC H' c bs ms pl l rows n := by
  obtain ⟨⟨dx, ps, qs, bl, kvs, h1, h2, h3, h4, h5, h6, h7, h8⟩, bm⟩ := h
  exact ⟨⟨dx, ps, qs, bl, kvs, kc _ h1, kb _ h2, ⟨h3.len, fun i p x a b => kt _ _ (h3.at_ i p x a b)⟩, h4, km _ h5, ⟨h6.len, fun i p x a b => kt _ _ (h6.at_ i p x a b)⟩, kp _ h7, h8⟩, bm⟩
/-- two trains on a railway, and what the law knows of them -/
structure TwoT (C CT CC : Addr) (K : PySem.W.Frag) (dr : Addr) (B H : Hp) (tr : List E2) (r a t c bs ms pl t2 c2 bs2 ms2 pl2 : Addr) (l l0 : List Nat) (mv : List Mv) : Prop where
  fr : Fr dr B H
  nb : B bs = none
  nm : B ms = none
  np : B pl = none
  tn : TnAt CT H t r c
  cr : CrAt CC H c bs ms pl l mv (1 + mv.length)
  tn2 : TnAt CT H t2 r c2
  cr2 : CrAt CC H c2 bs2 ms2 pl2 l0 [] 1
  d1 : bs2 ≠ bs
  d2 : bs2 ≠ ms
  d3 : ms2 ≠ bs
  d4 : ms2 ≠ ms
  d5 : pl2 ≠ pl
  d6 : pl ≠ dr
  d7 : pl2 ≠ dr
  bd : Bd tr l
  bd0 : Bd tr l0
theorem TwoT.tup_fr {dr : Addr} {H H' : Hp} {kvs : List (Key × V)} (F : Fr dr H H') (hd : H dr = some (.dK kvs)) : ∀ x xs, H x = some (.tup xs) → H' x = some (.tup xs) := fun x xs h => F _ _ h (ne_of h hd (by intro z; cases z))
theorem TwoT.frz {C CT CC : Addr} {K : PySem.W.Frag} {dr : Addr} {B H H' : Hp} {tr : List E2} {r a t c bs ms pl t2 c2 bs2 ms2 pl2 : Addr} {l l0 : List Nat} {mv : List Mv} {kvs : List (Key × V)} (w : TwoT C CT CC K dr B H tr r a t c bs ms pl t2 c2 bs2 ms2 pl2 l l0 mv) (F : Fr dr H H') (hd : H dr = some (.dK kvs)) : TwoT C CT CC K dr B H' tr r a t c bs ms pl t2 c2 bs2 ms2 pl2 l l0 mv := by
  have kt := TwoT.tup_fr F hd
  have ki : ∀ {x o}, H x = some o → x ≠ dr → H' x = some o := fun h n => F _ _ h n
  refine ⟨w.fr.trans F, w.nb, w.nm, w.np, ?_, ?_, ?_, ?_, w.d1, w.d2, w.d3, w.d4, w.d5, w.d6, w.d7, w.bd, w.bd0⟩
  · exact w.tn.imp fun _ e => ki e (ne_of e hd (by intro z; cases z))
  · obtain ⟨⟨dx, ps, qs, bl, kvs, h1, h2, h3, h4, h5, h6, h7, h8⟩, bm⟩ := id w.cr
    exact w.cr.keep (fun _ e => ki e (ne_of h1 hd (by intro z; cases z))) (fun _ e => ki e (ne_of h2 hd (by intro z; cases z))) (fun _ e => ki e (ne_of h5 hd (by intro z; cases z))) (fun _ e => ki e w.d6) kt
  · exact w.tn2.imp fun _ e => ki e (ne_of e hd (by intro z; cases z))
  · obtain ⟨⟨dx, ps, qs, bl, kvs, h1, h2, h3, h4, h5, h6, h7, h8⟩, bm⟩ := id w.cr2
    exact w.cr2.keep (fun _ e => ki e (ne_of h1 hd (by intro z; cases z))) (fun _ e => ki e (ne_of h2 hd (by intro z; cases z))) (fun _ e => ki e (ne_of h5 hd (by intro z; cases z))) (fun _ e => ki e w.d7) kt
theorem TwoT.step {C CT CC : Addr} {K : PySem.W.Frag} {dr : Addr} {B H H' : Hp} {tr : List E2} {r a t c bs ms pl t2 c2 bs2 ms2 pl2 : Addr} {l l0 l' : List Nat} {mv mv' : List Mv} (w : TwoT C CT CC K dr B H tr r a t c bs ms pl t2 c2 bs2 ms2 pl2 l l0 mv) (k : Kp3 bs ms pl H H') (cr : CrAt CC H' c bs ms pl l' mv' (1 + mv'.length)) (b : Bd tr l') : TwoT C CT CC K dr B H' tr r a t c bs ms pl t2 c2 bs2 ms2 pl2 l' l0 mv' := by
  obtain ⟨⟨dx, ps, qs, bl, kvs, h1, h2, h3, h4, h5, h6, h7, h8⟩, bm⟩ := id w.cr
  have kt : ∀ {x xs}, H x = some (.tup xs) → H' x = some (.tup xs) := fun h => k _ _ h (ne_of h h2 (by intro z; cases z)) (ne_of h h5 (by intro z; cases z)) (ne_of h h7 (by intro z; cases z))
  have ki : ∀ {x C dx fs}, H x = some (.ins C dx fs) → H' x = some (.ins C dx fs) := fun h => k _ _ h (ne_of h h2 (by intro z; cases z)) (ne_of h h5 (by intro z; cases z)) (ne_of h h7 (by intro z; cases z))
  refine ⟨fun x o e n => k x o (w.fr x o e n) (ne_of_none e w.nb) (ne_of_none e w.nm) (ne_of_none e w.np), w.nb, w.nm, w.np, w.tn.imp fun _ e => ki e, cr, w.tn2.imp fun _ e => ki e, ?_, w.d1, w.d2, w.d3, w.d4, w.d5, w.d6, w.d7, b, w.bd0⟩
  obtain ⟨⟨dx', ps', qs', bl', kvs', g1, g2, g3, g4, g5, g6, g7, g8⟩, _⟩ := id w.cr2
  exact w.cr2.keep (fun _ e => by have e' := e; rw [g1] at e'; cases e'; exact ki g1) (fun _ e => k _ _ e w.d1 w.d2 (ne_of g2 h7 (by intro z; cases z))) (fun _ e => k _ _ e w.d3 w.d4 (ne_of g5 h7 (by intro z; cases z))) (fun _ e => k _ _ e (ne_of g7 h2 (by intro z; cases z)) (ne_of g7 h5 (by intro z; cases z)) w.d5) (fun _ _ e => kt e)
theorem upd_none {H : Hp} {a b : Addr} {o : HO} (h : upd H a o b = none) : H b = none := by
  by_cases z : b = a
  · rw [z, upd_same] at h; cases h
  · rw [upd_ne z] at h; exact h
theorem okM_le {tr : List E2} (T : TreeL tr) : ∀ {ms : List Mv} {l : List Nat}, okM tr l ms = true → ∀ m ∈ ms, m.2 ≤ tr.length
  | [], _, _, m, hm => by cases hm
  | x :: ms, l, h, m, hm => by
    have h : (canM tr l x && okM tr (aft l x) ms) = true := h
    rw [Bool.and_eq_true] at h
    rcases List.mem_cons.mp hm with rfl | hm
    · have := of_decide_eq_true h.1
      exact nb_in T (List.mem_filter.mp this).1
    · exact okM_le T h.2 m hm
theorem pair15 {x y : Nat} (h1 : x ≤ 15) (h2 : y ≤ 15) : (PyData.tuple [di x, di y]).canLay0 = true ∧ (PyData.tuple [di x, di y]).showable = true ∧ (PyData.tuple [di x, di y]).leavesShort 60 = true ∧ (PyData.tuple [di x, di y]).weight ≤ 900 ∧ (PyData.tuple [di x, di y]).depth ≤ 20 := by
  obtain ⟨c1, c2, c3, c4, c5⟩ := int15 h1
  obtain ⟨d1, d2, d3, d4, d5⟩ := int15 h2
  refine ⟨?_, ?_, ?_, ?_, ?_⟩
  · show ((di x).canLay0 && ((di y).canLay0 && true)) = true
    rw [c1, d1]; rfl
  · show ((di x).showable && ((di y).showable && true)) = true
    rw [c2, d2]; rfl
  · show ((di x).leavesShort 60 && ((di y).leavesShort 60 && true)) = true
    rw [c3, d3]; rfl
  · show (di x).weight + 1 + ((di y).weight + 1 + 0) ≤ 900
    omega
  · show max (di x).depth (max (di y).depth 0) + 1 ≤ 20
    rw [c5, d5]; decide
section
variable {P : Program} {w : World} {K : PySem.W.Frag} {mg : Str → Option Value} {base : Heap}
abbrev N_sc_law : List Str := ["script", "draw", "turn", "rails", "road", "links", "place", "engine", "first", "row", "still", "k", "kind", "some"]
theorem sc_law : FnScope N_sc_law ["script"] (defScope s_law) := ⟨rfl, rfl, rfl, by decide +kernel, rfl, by decide +kernel, by decide +kernel⟩
theorem ok_law {f fB fT fL fP fS fN fTr fD fO fI fM pO C CT CC g1 p1 : Addr} {mc : Value} {fd fdB fdT fdL fdP fdS fdN fdTr fdD fdI fdM fd1 : FuncData} (F : Fun K "law" "law" s_law f fd) (N : Nm mg) (X : TxtR K mg C) (hcr : CRead K C mc) (cm : CMet K C mc "of" pO fO) (GO : FnR P w K mg base CX0 7 fO (spRof C))
    (UB : Use P w K mg base CX0 1 "_law_begin" fB fdB ["script"] (spBegin K)) (UT : Use P w K mg base CX0 3 "_law_tracks" fT fdT ["draw", "most"] spTracks) (UL : Use P w K mg base CX0 1 "_law_links" fL fdL ["tracks_here"] (spAround K)) (UP : Use P w K mg base CX0 3 "_law_place" fP fdP ["draw", "count"] spStand)
    (GSo : UseG P w K mg base 7 "_law_is_so" fS fdS ["engine", "links", "place", "row"] (spSo CT CC K)) (UN : Use P w K mg base CX0 2 "_law_next" fN fdN ["draw", "bound"] spNext) (UTr : Use P w K mg base CX0 4 "_law_trip" fTr fdTr ["draw", "links", "place", "many"] (spTrp K)) (UD : Use P w K mg base CX0 11 "_law_done" fD fdD ["engine", "row", "kind"] (spDone CT CC C))
    (MT : Mk K CT fI) (GT : FnOk P w K mg base CX0 7 fI fdI ["self", "railway", "head", "tail"] (spTIni CT CC C)) (bT : Binds K fdI ["self", "railway", "head", "tail"] []) (mT : mg "Train" = some (.ref CT)) (kT : ∀ (s : Shared) (a : Value) (ws : List Value), K.In s.heap → ws.length = (["tail", "head", "railway"] : List Str).length → BindsTo s fdI ⟨[a], (["tail", "head", "railway"] : List Str).zip ws⟩ ((["self", "railway", "head", "tail"] : List Str).zip (a :: ws.reverse)))
    (PR : PrU P w K mg base CT "railway" 1 p1 g1 fd1 (spTRail CT)) (MS : MU P w K mg base C 3 "is_same" fM fdM ["self", "other"] (spSame C)) :
    FnG P w K mg base CX0 12 f fd ["script"] (spLaw K) := by
  refine L2.TT.Fun.okG F sc_law (fun vs H Q E h => ?_) (fun cdv A outer s H vs Q E hG hr h => ?_)
  · obtain ⟨a, ns, rfl, _⟩ := h
    rfl
  · obtain ⟨a, ns, rfl, hS, hlen, k⟩ := h
    have hr1 : Room 1 (A.deeper (envOfC "law" (defScope s_law) s.heap.objs.size f cdv)) := hr.mono (by decide)
    have hr2 : Room 2 (A.deeper (envOfC "law" (defScope s_law) s.heap.objs.size f cdv)) := hr.mono (by decide)
    have hr3 : Room 3 (A.deeper (envOfC "law" (defScope s_law) s.heap.objs.size f cdv)) := hr.mono (by decide)
    have hr4 : Room 4 (A.deeper (envOfC "law" (defScope s_law) s.heap.objs.size f cdv)) := hr.mono (by decide)
    have hr7 : Room 7 (A.deeper (envOfC "law" (defScope s_law) s.heap.objs.size f cdv)) := hr.mono (by decide)
    have hr8 : Room 8 (A.deeper (envOfC "law" (defScope s_law) s.heap.objs.size f cdv)) := hr.mono (by decide)
    have hu64 : (A.deeper (envOfC "law" (defScope s_law) s.heap.objs.size f cdv)).units + 64 < cLine := hr.units
    refine ⟨_, (pss_cons (ps_set (i := 1) sc_law.nd rfl (.inl rfl) (pe_use UB hr1 (by rfl) (pa_cons (pv 0) pa_nil)))
        (pss_cons (ps_for PassesOwn.never rfl (pi_range1 (by rfl) N.range (pa_cons (pe_op op_add pe_int (pe_callB (call_min2 rfl) (by rfl) N.min boot_min (pa_cons pe_int (pa_cons (pe_callB call_len_seq (by rfl) N.len boot_len (pa_cons (pv 0) pa_nil)) pa_nil)))) pa_nil)) (pg_name (i := 2) sc_law.nd rfl (.inl rfl))
          (pss_cons (ps_set (i := 3) sc_law.nd rfl (.inl rfl) (pe_use UT hr3 (by rfl) (pa_cons (pv 1) (pa_cons pe_int pa_nil))))
          (pss_cons (ps_par (i := 4) (j := 5) (by rfl) sc_law.nd rfl rfl (by decide) rfl rfl (pa_cons (pe_cmeth (pe_glob (v := .ref C) (by rfl) X.mgC rfl) hcr cm GO hr7 pass0 (pa_cons (pv 3) pa_nil)) (pa_cons (pe_use UL hr1 (by rfl) (pa_cons (pv 3) pa_nil)) pa_nil)) (by rfl))
          (pss_cons (ps_set (i := 6) sc_law.nd rfl (.inl rfl) (pe_use UP hr3 (by rfl) (pa_cons (pv 1) (pa_cons (pe_op op_add (pe_callB call_len_seq (by rfl) N.len boot_len (pa_cons (pv 3) pa_nil)) pe_int) pa_nil))))
          (pss_cons (ps_par3 (i := 7) (j := 8) (l := 9) (by rfl) sc_law.nd rfl rfl rfl (by decide) (by decide) (by decide) rfl rfl rfl (pa_cons (pe_make MT GT hr8 (by rfl) mT bT .nil pass0 (pa_cons (pv 4) (pa_cons (pe_ix ix_tup (pv 6) pe_int (fun _ _ => rfl)) (pa_cons (pe_ix ix_tup (pv 6) pe_int (fun _ _ => rfl)) pa_nil)))) (pa_cons (pv 6) (pa_cons (pe_lst pa_nil) pa_nil))) (by rfl))
          (pss_cons (ps_set (i := 10) sc_law.nd rfl (.inl rfl) (pe_makeK0 MT GT hr8 (by rfl) mT (trainKB kT) pass0 (pk_cons (pe_ix ix_tup (pv 6) pe_int (fun _ _ => rfl)) (pk_cons (pe_ix ix_tup (pv 6) pe_int (fun _ _ => rfl)) (pk_cons (pv 4) pk_nil)))))
          (pss_cons (ps_for PassesOwn.never rfl (pi_range1 (by rfl) N.range (pa_cons pe_int pa_nil)) (pg_name (i := 11) sc_law.nd rfl (.inl rfl))
            (pss_cons (ps_if (PW.pt (pw_or (pt_not (pt_val (pe_callG GSo.G hG hr7 (by rfl) GSo.m GSo.kp GSo.b pass0 (pa_cons (pv 7) (pa_cons (pv 5) (pa_cons (pv 6) (pa_cons (pv 9) pa_nil))))))) (pw_or1 (pt_not (pt_val (pe_callG GSo.G hG hr7 (by rfl) GSo.m GSo.kp GSo.b pass0 (pa_cons (pv 10) (pa_cons (pv 5) (pa_cons (pv 8) (pa_cons (pe_lst pa_nil) pa_nil)))))))))) (pss_one (ps_ret pe_bl)) pss_nil)
            (pss_cons (ps_set (i := 12) sc_law.nd rfl (.inl rfl) (pe_use UN hr2 (by rfl) (pa_cons (pv 1) (pa_cons pe_int pa_nil))))
            (pss_cons (ps_asg (pe_use UTr hr4 (by rfl) (pa_cons (pv 1) (pa_cons (pv 5) (pa_cons (pv 6) (pa_cons (pe_ix ix_list (pe_lst (pa_cons pe_int (pa_cons pe_int (pa_cons (pe_use UN hr2 (by rfl) (pa_cons (pv 1) (pa_cons pe_int pa_nil))) (pa_cons pe_int pa_nil))))) (pv 12) (fun _ _ => rfl)) pa_nil))))) (pg_tup rfl (pgs_cons (pg_name (i := 13) sc_law.nd rfl (.inl rfl)) (pgs_cons (pg_name (i := 6) sc_law.nd rfl (.inl rfl)) pgs_nil))))
            (pss_cons (ps_if (pt_cmpR op_ne (pe_callB (call_reprV hG hu64) (by rfl) N.repr PyProof.Rows.boot_repr (pa_cons (pe_use UD hr (by rfl) (pa_cons (pv 7) (pa_cons (pv 13) (pa_cons (pv 12) pa_nil)))) pa_nil)) (pe_callB (call_reprV hG hu64) (by rfl) N.repr PyProof.Rows.boot_repr (pa_cons (pv 6) pa_nil)) (nomark _)) (pss_one (ps_ret pe_bl)) pss_nil)
            (pss_one (ps_set (i := 9) sc_law.nd rfl (.inl rfl) (pe_op op_cat (pv 9) (pv 13)))))))))
          (pss_one (ps_if (PW.pt (pw_or (pt_not (pt_val (pe_callG GSo.G hG hr7 (by rfl) GSo.m GSo.kp GSo.b pass0 (pa_cons (pv 7) (pa_cons (pv 5) (pa_cons (pv 6) (pa_cons (pv 9) pa_nil))))))) (pw_or1 (pt_not (pt_val (pe_meth (pe_prop (pv 7) PR.cl PR.hp PR.G hr2 PR.b .nil pass0 rfl) X.cl MS.m MS.G hr3 MS.b .nil pass0 (pa_cons (pv 4) pa_nil))))))) (pss_one (ps_ret pe_bl)) pss_nil)))))))))
        (pss_one (ps_ret pe_bl)))), ?_⟩
    have e62 : (2 : Int) ^ 62 = 4611686018427387904 := by decide
    refine ⟨_, rfl, a, ns, rfl, hS, hlen, fun dr cl H1 nd nc s1 D1 => ?_⟩
    refine ⟨_, rfl, a, _, rfl, .inl (s1.seq hS), _, _, rfl, _, _, rfl, rfl, ?_⟩
    obtain ⟨n, hn, n8⟩ : ∃ n : Nat, ((3 : Int) + (if ((ns.map V.int).length : Int) < 5 then ((ns.map V.int).length : Int) else 5)) = (n : Int) ∧ n ≤ 8 := by
      by_cases c : ((ns.map V.int).length : Int) < 5
      · exact ⟨(3 + ((ns.map V.int).length : Int)).toNat, by rw [if_pos c]; omega, by omega⟩
      · exact ⟨8, by rw [if_neg c]; rfl, Nat.le_refl _⟩
    refine ⟨(n : Int), congrArg (fun z => [V.int z]) hn, by rw [e62]; omega, by rw [e62]; omega, ?_⟩
    rw [show ((n : Nat) : Int).toNat = n from rfl]
    refine for_rg (n := n) (fun i σ H' => ∃ (y2 y3 y4 y5 y6 y7 y8 y9 y10 y11 y12 y13 : Option V), σ = [some (.ref a), some (.ref dr), y2, y3, y4, y5, y6, y7, y8, y9, y10, y11, y12, y13] ∧ DrawAt H' dr cl (500 * i)) ⟨_, _, _, _, _, _, _, _, _, _, _, _, rfl, D1⟩ ?_ ?_
    · rintro i σ H2 hi ⟨y2, y3, y4, y5, y6, y7, y8, y9, y10, y11, y12, y13, rfl, D2⟩
      refine ⟨_, rfl, dr, cl, 12, _, rfl, D2, by omega, by decide, by decide, fun a3 ps tr H3 D3 F3 ha hP T l1 hl => ?_⟩
      refine ⟨rfl, _, rfl, a3, ps, tr, rfl, ha, hP, T, by omega, fun r H4 nr s4 R4 => ?_⟩
      refine ⟨_, rfl, a3, ps, tr, rfl, SqT.of (s4 _ _ ha), hP.same s4, (fun e he => ⟨T.ne e he, T.lt1 he⟩), by omega, fun DL ts H5 s5 RW => ⟨_, _, rfl, ?_⟩⟩
      have R5 := R4.same s5
      have A5 : Ard K H5 DL (nrmS tr) := ⟨ts, SqL.of RW.own, by rw [RW.len, nrmS_len], fun v t h => by rw [nb_nrmS T]; exact (RW.at_ v t h).1⟩
      have D5 := D3.same (s4.trans s5)
      have ha5 := (s4.trans s5) _ _ ha
      have lp : (ps.map V.ref).length = (nrmS tr).length := by rw [List.length_map, hP.1, nrmS_len]
      have ln : (nrmS tr).length ≤ 11 := by rw [nrmS_len]; omega
      have ln1 : 1 ≤ (nrmS tr).length := by rw [nrmS_len]; exact l1
      have Tn := R5.T
      generalize nrmS tr = tn at R5 A5 lp ln ln1 Tn
      have ev : V.int (((ps.map V.ref).length : Int) + 1) = iv (tn.length + 1) := by rw [lp]; rfl
      have ev2 : [V.ref dr, V.int (((ps.map V.ref).length : Int) + 1)] = [V.ref dr, iv (tn.length + 1)] := by rw [ev]
      obtain ⟨kv5, hd5⟩ := D5.some1
      refine ⟨_, rfl, _, rfl, a3, _, rfl, .inr (SqT.of ha5), _, _, rfl, rfl, dr, cl, tn.length + 1, _, ev2, D5, by omega, by omega, by omega, fun x y p B hx hy ne DB F6 np hp => ?_⟩
      have RB := R5.fr F6 hd5
      have AB := A5.fr F6 hd5
      obtain ⟨kvb, hdb⟩ := DB.some1
      obtain ⟨xsb, hclB⟩ := DB.some2
      have i0 : atI [iv x, iv y] 0 = some (iv x) := atN (n := 0) rfl
      have i1 : atI [iv x, iv y] 1 = some (iv y) := atN (n := 1) rfl
      clear R5 A5 D5 hd5 ha5 RW s5 R4 s4 ha hP D3 F3
      -- the first train
      refine ⟨_, rfl, _, rfl, p, _, _, _, rfl, rfl, SqT.of hp, i0, _, rfl, p, _, _, _, rfl, rfl, SqT.of hp, i1, fun t dt nt ndt net => ?_⟩
      have st : Same B (upd (upd B dt (.own t)) t (.ins CT dt [])) := fun b o e => by rw [upd_ne (ne_of_none e nt), upd_ne (ne_of_none e ndt)]; exact e
      refine ⟨t, dt, r, tn, x, y, rfl, upd_same, RB.same st, by omega, by omega, ne, fun c bs ms pl l H7 k7 bd e1 e2 nc nb nm npl TN CR => ⟨rfl, ?_⟩⟩
      have s7 : Same B H7 := fun b o e => k7 _ _ (st _ _ e) (ne_of_none e nt)
      have nbB := upd_none (upd_none nb)
      have nmB := upd_none (upd_none nm)
      have npB := upd_none (upd_none npl)
      clear st k7 nb nm npl nc nt ndt net
      refine ⟨_, rfl, Nat.zero_le _, fun Rw nRw => ⟨_, _, _, rfl, ?_⟩⟩
      have s8 := same_upd nRw (.lst [])
      have hRw := upd_same (H := H7) (a := Rw) (o := .lst [])
      obtain ⟨⟨dx7, ps7, qs7, bl7, kvs7, b1, b2', b3, b4, b5, b6, b7, b8⟩, bm⟩ := id CR
      have rb : Rw ≠ bs := (ne_of_none b2' nRw).symm
      have rm : Rw ≠ ms := (ne_of_none b5 nRw).symm
      generalize upd H7 Rw (.lst []) = H8 at s8 hRw ⊢
      have TN8 := TN.same s8
      have CR8 := CR.same s8
      have hp8 := (s7.trans s8) _ _ hp
      have c2 := s8 _ _ b2'
      have c5 := s8 _ _ b5
      have c7 := s8 _ _ b7
      -- the second
      refine ⟨_, rfl, p, _, _, _, rfl, rfl, SqT.of hp8, i1, _, rfl, p, _, _, _, rfl, rfl, SqT.of hp8, i0, _, rfl, ⟨rfl, rfl, fun t2 dt2 nt2 ndt2 net2 => ?_⟩⟩
      have st : Same H8 (upd (upd H8 dt2 (.own t2)) t2 (.ins CT dt2 [])) := fun b o e => by rw [upd_ne (ne_of_none e nt2), upd_ne (ne_of_none e ndt2)]; exact e
      refine ⟨t2, dt2, r, tn, x, y, rfl, upd_same, (RB.same (s7.trans s8)).same st, by omega, by omega, ne, fun c2' bs2 ms2 pl2 l2 H9 k9 bd2 e12 e22 nc2 nb2 nm2 npl2 TN2 CR2 => ⟨rfl, ?_⟩⟩
      cases bd2.eq Tn bd (e12.trans e1.symm) (e22.trans e2.symm)
      have s9 : Same H8 H9 := fun b o e => k9 _ _ (st _ _ e) (ne_of_none e nt2)
      have s89 := (s7.trans s8).trans s9
      have W9 : TwoT C CT CC K dr B H9 tn r DL t c bs ms pl t2 c2' bs2 ms2 pl2 l l [] := ⟨Fr.sm s89, nbB, nmB, npB, TN8.same s9, CR8.same s9, TN2, CR2, (ne_of_none (st _ _ c2) nb2).symm, (ne_of_none (st _ _ c5) nb2).symm, (ne_of_none (st _ _ c2) nm2).symm, (ne_of_none (st _ _ c5) nm2).symm, (ne_of_none (st _ _ c7) npl2).symm, (ne_of_none hdb npB).symm, (ne_of_none (st _ _ ((s7.trans s8) _ _ hdb)) npl2).symm, bd, bd⟩
      have hpe : H9 p = some (.tup [iv (hd0 l), iv (lt0 l)]) := by rw [e1, e2]; exact s89 _ _ hp
      have hR9 := s9 _ _ hRw
      have D9 := DB.same s89
      clear TN CR TN8 CR8 TN2 CR2 k9 st nb2 nm2 npl2 nc2 nt2 ndt2 net2 c2 c5 c7 b1 b2' b3 b4 b5 b6 b7 b8 bm hp8 s7 s8 s9 s89 hRw nRw bd bd2 e12 e22 e1 e2 hp i0 i1 nbB nmB npB
      refine ⟨_, rfl, by rw [e62]; decide, by rw [e62]; decide, ?_⟩
      refine for_rg (n := 8) (fun j σ H' => ∃ (p' Rw : Addr) (qs : List Addr) (l' : List Nat) (mv : List Mv) (y11 y12 y13 : Option V), σ = [some (.ref a), some (.ref dr), some (iv i), some (.ref a3), some (.ref r), some (.ref DL), some (.ref p'), some (.ref t), some (.ref p), some (.ref Rw), some (.ref t2), y11, y12, y13] ∧ DrawAt H' dr cl (500 * i + 402 + 8 * j) ∧ TwoT C CT CC K dr B H' tn r DL t c bs ms pl t2 c2' bs2 ms2 pl2 l' l mv ∧ H' p' = some (.tup [iv (hd0 l'), iv (lt0 l')]) ∧ H' p = some (.tup [iv (hd0 l), iv (lt0 l)]) ∧ H' Rw = some (.lst (qs.map V.ref)) ∧ Lay MvR H' qs mv ∧ (∀ m ∈ mv, m.2 ≤ tn.length) ∧ mv.length ≤ 6 * j ∧ Rw ≠ bs ∧ Rw ≠ ms)
        ⟨p, Rw, [], l, [], _, _, _, rfl, D9, W9, hpe, hpe, hR9, .nil, (fun _ h => nomatch h), Nat.le_refl _, rb, rm⟩ ?_ ?_
      · clear D9 W9 hpe hR9 rb rm Rw H7 H8 H9
        rintro j σ Ha hj ⟨p', Rw, qs, l', mv, y11, y12, y13, rfl, Da, Wa, hp', hp, hR, LM, hmm, lm, rb, rm⟩
        obtain ⟨kva, hda⟩ := Da.some1
        have RA := RB.fr Wa.fr hdb
        have AA := AB.fr Wa.fr hdb
        have bd := Wa.bd
        -- what is told of the two
        refine ⟨_, rfl, _, rfl, _, rfl, _, rfl, t, r, c, bs, ms, pl, DL, p', Rw, tn, l', mv, 1 + mv.length, qs, rfl, Wa.tn, Wa.cr, bd, ln, AA, Tn, hp', hR, LM, hmm, by omega, fun Hb sb => ⟨_, rfl, ?_⟩⟩
        refine iteF ?_
        refine ⟨_, rfl, _, rfl, _, rfl, Nat.zero_le _, fun e ne' => ?_⟩
        have se := sb.trans (same_upd ne' (.lst []))
        have he := upd_same (H := Hb) (a := e) (o := .lst [])
        generalize upd Hb e (.lst []) = Hc at se he ⊢
        refine ⟨t2, r, c2', bs2, ms2, pl2, DL, p, e, tn, l, [], 1, [], rfl, Wa.tn2.same se, Wa.cr2.same se, Wa.bd0, ln, AA.same se, Tn, se _ _ hp, he, .nil, (fun _ h => nomatch h), Nat.zero_le _, fun Hd sd => ⟨_, rfl, ?_⟩⟩
        refine iteF ?_
        have s1 := se.trans sd
        have hRd := s1 _ _ hR
        have hpd := s1 _ _ hp
        have hpd' := s1 _ _ hp'
        have LMd := LM.same firmM s1
        have Wd := Wa.frz (Fr.sm s1) hda
        have Dd := Da.same s1
        obtain ⟨kvd, hdd⟩ := Dd.some1
        clear AA RA Wa Da hR hp hp' LM s1 se sd sb he hda
        -- the deed
        refine ⟨_, rfl, dr, cl, 4, _, rfl, Dd, by omega, by decide, by decide, fun kk Hf k0 k1 Df kf => ?_⟩
        have Ff := Fr.of kf
        have Wf := Wd.frz Ff hdd
        have tf := TwoT.tup_fr Ff hdd
        have hRf := Ff _ _ hRd (ne_of hRd hdd (by intro z; cases z))
        have LMf := lay_fr LMd Ff hdd
        obtain ⟨kvf, hdf⟩ := Df.some1
        obtain ⟨kn, rfl⟩ := Int.eq_ofNat_of_zero_le k0
        refine ⟨_, rfl, _, rfl, _, rfl, _, rfl, dr, cl, 4, _, rfl, Df, by omega, by decide, by decide, fun mm Hg m0 m1 Dg kg => ?_⟩
        have Fg := Ff.trans (Fr.of kg)
        have Wg := Wf.frz (Fr.of kg) hdf
        have hRg := Fr.of kg _ _ hRf (ne_of hRf hdf (by intro z; cases z))
        have LMg := lay_fr LMf (Fr.of kg) hdf
        have tg := TwoT.tup_fr (Fr.of kg) hdf
        have hpg := tg _ _ (tf _ _ hpd)
        have hpg' := tg _ _ (tf _ _ hpd')
        obtain ⟨mn, rfl⟩ := Int.eq_ofNat_of_zero_le m0
        refine ⟨by show 4 ≤ sizeLine; rw [sizeLine_eq]; decide, fun Lq nLq => ?_⟩
        have sL := same_upd nLq (.lst [V.int 1, V.int 1, V.int (mn : Int), V.int 6])
        have hL := upd_same (H := Hg) (a := Lq) (o := .lst [V.int 1, V.int 1, V.int (mn : Int), V.int 6])
        generalize upd Hg Lq (.lst [V.int 1, V.int 1, V.int (mn : Int), V.int 6]) = Hh at sL hL ⊢
        obtain ⟨kvg, hdg⟩ := Dg.some1
        have Wh := Wg.frz (Fr.sm sL) hdg
        have Dh := Dg.same sL
        have hRh := sL _ _ hRg
        have LMh := LMg.same firmM sL
        have hph := sL _ _ hpg
        have hph' := sL _ _ hpg'
        have hdh := sL _ _ hdg
        clear Wd Dd hdd Wf Df hdf Wg Dg hdg hRd hRf hRg LMd LMf LMg hpd hpd' hpg hpg' tf tg kf kg Ff Fg
        obtain ⟨mv0, hat, many, rfl, m6⟩ := pickAll (P := fun v => ∃ m : Nat, v = iv m ∧ m ≤ 6) (xs := [V.int 1, V.int 1, V.int (mn : Int), V.int 6]) (r := (kn : Int)) (by omega) (by show (kn : Int) < 4; omega) (fun v hv => by
          simp only [List.mem_cons, List.not_mem_nil, or_false] at hv
          rcases hv with rfl | rfl | rfl | rfl
          · exact ⟨1, rfl, by decide⟩
          · exact ⟨1, rfl, by decide⟩
          · exact ⟨mn, rfl, by omega⟩
          · exact ⟨6, rfl, by decide⟩)
        refine ⟨_, rfl, Lq, _, _, _, rfl, rfl, SqL.of hL, hat, ?_⟩
        have Rh := RB.fr Wh.fr hdb
        have Ah := AB.fr Wh.fr hdb
        refine ⟨dr, cl, DL, p', tn, l', many, _, rfl, Dh, by omega, by omega, Ah, Tn, by omega, hph', bd, fun q D t3 qs3 mv3 Hi hq hD nD LM3 ok3 lm3 ht3 Di Fi => ?_⟩
        refine ⟨q, _, rfl, SqT.of hq, rfl, _, _, rfl, _, _, rfl, rfl, ?_⟩
        have Wi := Wh.frz Fi hdh
        have hRi := Fi _ _ hRh (ne_of hRh hdh (by intro z; cases z))
        have LMi := lay_fr LMh Fi hdh
        have hpi := TwoT.tup_fr Fi hdh _ _ hph
        have Ri := RB.fr Wi.fr hdb
        have le3 := okM_le Tn ok3
        obtain ⟨⟨dxh, psh, qsh, blh, kvsh, g1, g2, g3, g4, g5, g6, g7, g8⟩, _⟩ := id Wh.cr
        have Db : D ≠ bs := (ne_of_none g2 nD).symm
        have Dm : D ≠ ms := (ne_of_none g5 nD).symm
        clear g1 g2 g3 g4 g5 g6 g7 g8 nD Wh Dh hRh LMh hph hph' hL sL Rh Ah nLq
        obtain ⟨kvi, hdi⟩ := Di.some1
        refine ⟨_, rfl, _, rfl, _, rfl, t, r, c, bs, ms, pl, D, tn, l', mv, mv3, 1 + mv.length, kn, qs3, rfl, ⟨Wi.tn, Ri, Wi.cr, bd, by omega, hD, LM3, ok3, le3, by omega⟩, fun z Hj kj nz hz CRj => ?_⟩
        have bdj := bd.run Tn mv3 ok3
        have CRj' : CrAt CC Hj c bs ms pl (endB l' mv3) (mv ++ mv3) (1 + (mv ++ mv3).length) := by rw [List.length_append, ← Nat.add_assoc]; exact CRj
        have Wj := Wi.step kj CRj' bdj.1
        obtain ⟨⟨dxi, psi, qsi, bli, kvsi, f1, f2, f3, f4, f5, f6, f7, f8⟩, _⟩ := id Wi.cr
        have kt : ∀ {x xs}, Hi x = some (.tup xs) → Hj x = some (.tup xs) := fun h => kj _ _ h (ne_of h f2 (by intro z; cases z)) (ne_of h f5 (by intro z; cases z)) (ne_of h f7 (by intro z; cases z))
        have ht3j := kt ht3
        have hpj := kt hpi
        have hRj := kj _ _ hRi rb rm (ne_of hRi f7 (by intro z; cases z))
        have hDj := kj _ _ hD Db Dm (ne_of hD f7 (by intro z; cases z))
        have LMj : Lay MvR Hj qs mv := ⟨LMi.len, fun i p x a b => kt (LMi.at_ i p x a b)⟩
        have LM3j : Lay MvR Hj qs3 mv3 := ⟨LM3.len, fun i p x a b => kt (LM3.at_ i p x a b)⟩
        have Dj : DrawAt Hj dr cl (500 * i + 402 + 8 * j + 1 + 1 + many) := by
          obtain ⟨cs, w1, w2, w3, w4, w5, w6⟩ := Di
          exact ⟨cs, w1, w2, w3, kj _ _ w4 (ne_of w4 f2 (by intro z; cases z)) (ne_of w4 f5 (by intro z; cases z)) Wi.d6.symm, kj _ _ w5 (ne_of_none hclB Wi.nb) (ne_of_none hclB Wi.nm) (ne_of_none hclB Wi.np), w6⟩
        obtain ⟨v1, v2, v3, v4, v5⟩ := pair15 (x := hd0 (endB l' mv3)) (y := lt0 (endB l' mv3)) (by have := bdj.1.hle; omega) (by have := bdj.1.lle; omega)
        refine ⟨_, _, rfl, .tup (SqT.of hz) (.cons (.int _) (.cons (.int _) .nil)), v1, v2, v3, v4, v5, ?_⟩
        refine ⟨_, rfl, _, _, rfl, .tup (SqT.of ht3j) (.cons (.int _) (.cons (.int _) .nil)), v1, v2, v3, v4, v5, rfl, _, rfl, ?_⟩
        rw [decide_eq_true rfl]
        refine iteF ?_
        have lq := LMj.len
        have lq3 := LM3j.len
        refine ⟨_, rfl, _, rfl, Rw, D, _, _, rfl, rfl, hRj, hDj, by rw [List.length_map, List.length_map, sizeLine_eq]; omega, fun R2 nR2 => ?_⟩
        have s9 := same_upd nR2 (.lst (qs.map V.ref ++ qs3.map V.ref))
        have hR2 := upd_same (H := Hj) (a := R2) (o := .lst (qs.map V.ref ++ qs3.map V.ref))
        rw [← List.map_append] at s9 hR2 ⊢
        obtain ⟨kvj, hdj⟩ := Dj.some1
        obtain ⟨⟨dxj, psj, qsj, blj, kvsj, x1, x2, x3, x4, x5, x6⟩, _⟩ := id CRj
        refine ⟨t3, R2, qs ++ qs3, endB l' mv3, mv ++ mv3, _, _, _, rfl, (Dj.same s9).mono (by omega), Wj.frz (Fr.sm s9) hdj, s9 _ _ ht3j, s9 _ _ hpj, hR2, (LMj.app LM3j).same firmM s9, fun m hm => ?_, by rw [List.length_append]; omega, (ne_of_none x2 nR2).symm, (ne_of_none x5 nR2).symm⟩
        rcases List.mem_append.mp hm with h | h
        · exact hmm m h
        · exact le3 m h
      · rintro σ Ha ⟨p', Rw, qs, l', mv, y11, y12, y13, rfl, Da, Wa, hp', hp, hR, LM, hmm, lm, rb, rm⟩
        obtain ⟨kva, hda⟩ := Da.some1
        have RA := RB.fr Wa.fr hdb
        have AA := AB.fr Wa.fr hdb
        have bd := Wa.bd
        refine ⟨_, rfl, _, rfl, _, rfl, _, rfl, t, r, c, bs, ms, pl, DL, p', Rw, tn, l', mv, 1 + mv.length, qs, rfl, Wa.tn, Wa.cr, bd, ln, AA, Tn, hp', hR, LM, hmm, by omega, fun Hb sb => ⟨_, rfl, ?_⟩⟩
        refine iteF ?_
        have Rb := RA.same sb
        obtain ⟨dt, ht⟩ := Wa.tn.same sb
        obtain ⟨_, _, dx, tt, na, Aa, L, ps', ts', h1, h2⟩ := id Rb
        refine ⟨_, rfl, t, dt, _, rfl, ht, t, r, c, rfl, ⟨dt, ht⟩, r, dx, _, rfl, h1, flR_no (by decide +kernel) (by decide +kernel) (by decide +kernel) (by decide +kernel), _, rfl, r, r, tn, tn, rfl, Rb, Rb, _, rfl, ?_⟩
        rw [decide_eq_true rfl]
        refine iteF ?_
        exact ⟨_, _, _, _, _, _, _, _, _, _, _, _, rfl, (Da.same sb).mono (by omega)⟩
    · rintro σ H2 ⟨y2, y3, y4, y5, y6, y7, y8, y9, y10, y11, y12, y13, rfl, D2⟩
      exact k _
end
end TR
namespace TR
open PySem PySem.Spec PyProof.Rows L2 L2.TT StX ClX
theorem lenV1 {us : List Value} (h : us.length = 1) : ∃ x0, us = [x0] := by
  obtain ⟨x0, us, rfl⟩ : ∃ x r, us = x :: r := by
    cases us with
    | nil => cases h
    | cons x r => exact ⟨_, _, rfl⟩
  have h : us.length = 0 := Nat.succ.inj h
  cases us with
  | nil => exact ⟨x0, rfl⟩
  | cons x r => cases h
theorem lenV2 {us : List Value} (h : us.length = 2) : ∃ x0 x1, us = [x0, x1] := by
  obtain ⟨x0, us, rfl⟩ : ∃ x r, us = x :: r := by
    cases us with
    | nil => cases h
    | cons x r => exact ⟨_, _, rfl⟩
  have h : us.length = 1 := Nat.succ.inj h
  obtain ⟨x1, us, rfl⟩ : ∃ x r, us = x :: r := by
    cases us with
    | nil => cases h
    | cons x r => exact ⟨_, _, rfl⟩
  have h : us.length = 0 := Nat.succ.inj h
  cases us with
  | nil => exact ⟨x0, x1, rfl⟩
  | cons x r => cases h
theorem lenV3 {us : List Value} (h : us.length = 3) : ∃ x0 x1 x2, us = [x0, x1, x2] := by
  obtain ⟨x0, us, rfl⟩ : ∃ x r, us = x :: r := by
    cases us with
    | nil => cases h
    | cons x r => exact ⟨_, _, rfl⟩
  have h : us.length = 2 := Nat.succ.inj h
  obtain ⟨x1, us, rfl⟩ : ∃ x r, us = x :: r := by
    cases us with
    | nil => cases h
    | cons x r => exact ⟨_, _, rfl⟩
  have h : us.length = 1 := Nat.succ.inj h
  obtain ⟨x2, us, rfl⟩ : ∃ x r, us = x :: r := by
    cases us with
    | nil => cases h
    | cons x r => exact ⟨_, _, rfl⟩
  have h : us.length = 0 := Nat.succ.inj h
  cases us with
  | nil => exact ⟨x0, x1, x2, rfl⟩
  | cons x r => cases h
theorem lenV4 {us : List Value} (h : us.length = 4) : ∃ x0 x1 x2 x3, us = [x0, x1, x2, x3] := by
  obtain ⟨x0, us, rfl⟩ : ∃ x r, us = x :: r := by
    cases us with
    | nil => cases h
    | cons x r => exact ⟨_, _, rfl⟩
  have h : us.length = 3 := Nat.succ.inj h
  obtain ⟨x1, us, rfl⟩ : ∃ x r, us = x :: r := by
    cases us with
    | nil => cases h
    | cons x r => exact ⟨_, _, rfl⟩
  have h : us.length = 2 := Nat.succ.inj h
  obtain ⟨x2, us, rfl⟩ : ∃ x r, us = x :: r := by
    cases us with
    | nil => cases h
    | cons x r => exact ⟨_, _, rfl⟩
  have h : us.length = 1 := Nat.succ.inj h
  obtain ⟨x3, us, rfl⟩ : ∃ x r, us = x :: r := by
    cases us with
    | nil => cases h
    | cons x r => exact ⟨_, _, rfl⟩
  have h : us.length = 0 := Nat.succ.inj h
  cases us with
  | nil => exact ⟨x0, x1, x2, x3, rfl⟩
  | cons x r => cases h
theorem sc_xInvalidMove : FnScope ["self", "position"] ["self", "position"] (defScope s_InvalidMove_init) := ⟨rfl, rfl, rfl, by decide +kernel, rfl, by decide +kernel, by decide +kernel⟩
theorem sc_xBlocked : FnScope ["self", "position"] ["self", "position"] (defScope s_Blocked_init) := ⟨rfl, rfl, rfl, by decide +kernel, rfl, by decide +kernel, by decide +kernel⟩
theorem all_mk {P : Program} {w : World} {K : PySem.W.Frag} {h : Heap} {mg : Str → Option Value} {fa : Addr} (X : K.In h) (G : h.Ns mainGlobals mg) (hfa : mg "law" = some (.ref fa))
  {fis_integer : Addr} {ocis_integer kVis_integer dcis_integer pmis_integer cdis_integer ctis_integer : Value} {odis_integer anis_integer : Option Addr} {slis_integer : Array (Option Value)}
  {fis_number_from : Addr} {ocis_number_from kVis_number_from dcis_number_from pmis_number_from cdis_number_from ctis_number_from : Value} {odis_number_from anis_number_from : Option Addr} {slis_number_from : Array (Option Value)}
  {fis_pair_of_stations : Addr} {ocis_pair_of_stations kVis_pair_of_stations dcis_pair_of_stations pmis_pair_of_stations cdis_pair_of_stations ctis_pair_of_stations : Value} {odis_pair_of_stations anis_pair_of_stations : Option Addr} {slis_pair_of_stations : Array (Option Value)}
  {fis_station : Addr} {ocis_station kVis_station dcis_station pmis_station cdis_station ctis_station : Value} {odis_station anis_station : Option Addr} {slis_station : Array (Option Value)}
  {fcheck_station : Addr} {occheck_station kVcheck_station dccheck_station pmcheck_station cdcheck_station ctcheck_station : Value} {odcheck_station ancheck_station : Option Addr} {slcheck_station : Array (Option Value)}
  {fjoined : Addr} {ocjoined kVjoined dcjoined pmjoined cdjoined ctjoined : Value} {odjoined anjoined : Option Addr} {sljoined : Array (Option Value)}
  {ffirst_wrong_track : Addr} {ocfirst_wrong_track kVfirst_wrong_track dcfirst_wrong_track pmfirst_wrong_track cdfirst_wrong_track ctfirst_wrong_track : Value} {odfirst_wrong_track anfirst_wrong_track : Option Addr} {slfirst_wrong_track : Array (Option Value)}
  {fneighbours_of : Addr} {ocneighbours_of kVneighbours_of dcneighbours_of pmneighbours_of cdneighbours_of ctneighbours_of : Value} {odneighbours_of anneighbours_of : Option Addr} {slneighbours_of : Array (Option Value)}
  {fplaces_below_first : Addr} {ocplaces_below_first kVplaces_below_first dcplaces_below_first pmplaces_below_first cdplaces_below_first ctplaces_below_first : Value} {odplaces_below_first anplaces_below_first : Option Addr} {slplaces_below_first : Array (Option Value)}
  {flaw_begin : Addr} {oclaw_begin kVlaw_begin dclaw_begin pmlaw_begin cdlaw_begin ctlaw_begin : Value} {odlaw_begin anlaw_begin : Option Addr} {sllaw_begin : Array (Option Value)}
  {flaw_mixed : Addr} {oclaw_mixed kVlaw_mixed dclaw_mixed pmlaw_mixed cdlaw_mixed ctlaw_mixed : Value} {odlaw_mixed anlaw_mixed : Option Addr} {sllaw_mixed : Array (Option Value)}
  {flaw_next : Addr} {oclaw_next kVlaw_next dclaw_next pmlaw_next cdlaw_next ctlaw_next : Value} {odlaw_next anlaw_next : Option Addr} {sllaw_next : Array (Option Value)}
  {flaw_tracks : Addr} {oclaw_tracks kVlaw_tracks dclaw_tracks pmlaw_tracks cdlaw_tracks ctlaw_tracks : Value} {odlaw_tracks anlaw_tracks : Option Addr} {sllaw_tracks : Array (Option Value)}
  {fis_standing : Addr} {ocis_standing kVis_standing dcis_standing pmis_standing cdis_standing ctis_standing : Value} {odis_standing anis_standing : Option Addr} {slis_standing : Array (Option Value)}
  {fcheck_standing : Addr} {occheck_standing kVcheck_standing dccheck_standing pmcheck_standing cdcheck_standing ctcheck_standing : Value} {odcheck_standing ancheck_standing : Option Addr} {slcheck_standing : Array (Option Value)}
  {fis_move : Addr} {ocis_move kVis_move dcis_move pmis_move cdis_move ctis_move : Value} {odis_move anis_move : Option Addr} {slis_move : Array (Option Value)}
  {fcheck_moves : Addr} {occheck_moves kVcheck_moves dccheck_moves pmcheck_moves cdcheck_moves ctcheck_moves : Value} {odcheck_moves ancheck_moves : Option Addr} {slcheck_moves : Array (Option Value)}
  {fbody_of : Addr} {ocbody_of kVbody_of dcbody_of pmbody_of cdbody_of ctbody_of : Value} {odbody_of anbody_of : Option Addr} {slbody_of : Array (Option Value)}
  {fbodies_along : Addr} {ocbodies_along kVbodies_along dcbodies_along pmbodies_along cdbodies_along ctbodies_along : Value} {odbodies_along anbodies_along : Option Addr} {slbodies_along : Array (Option Value)}
  {fbody_after : Addr} {ocbody_after kVbody_after dcbody_after pmbody_after cdbody_after ctbody_after : Value} {odbody_after anbody_after : Option Addr} {slbody_after : Array (Option Value)}
  {flaw_place : Addr} {oclaw_place kVlaw_place dclaw_place pmlaw_place cdlaw_place ctlaw_place : Value} {odlaw_place anlaw_place : Option Addr} {sllaw_place : Array (Option Value)}
  {flaw_links : Addr} {oclaw_links kVlaw_links dclaw_links pmlaw_links cdlaw_links ctlaw_links : Value} {odlaw_links anlaw_links : Option Addr} {sllaw_links : Array (Option Value)}
  {flaw_route : Addr} {oclaw_route kVlaw_route dclaw_route pmlaw_route cdlaw_route ctlaw_route : Value} {odlaw_route anlaw_route : Option Addr} {sllaw_route : Array (Option Value)}
  {flaw_fits : Addr} {oclaw_fits kVlaw_fits dclaw_fits pmlaw_fits cdlaw_fits ctlaw_fits : Value} {odlaw_fits anlaw_fits : Option Addr} {sllaw_fits : Array (Option Value)}
  {flaw_gone : Addr} {oclaw_gone kVlaw_gone dclaw_gone pmlaw_gone cdlaw_gone ctlaw_gone : Value} {odlaw_gone anlaw_gone : Option Addr} {sllaw_gone : Array (Option Value)}
  {flaw_chances : Addr} {oclaw_chances kVlaw_chances dclaw_chances pmlaw_chances cdlaw_chances ctlaw_chances : Value} {odlaw_chances anlaw_chances : Option Addr} {sllaw_chances : Array (Option Value)}
  {flaw_trip : Addr} {oclaw_trip kVlaw_trip dclaw_trip pmlaw_trip cdlaw_trip ctlaw_trip : Value} {odlaw_trip anlaw_trip : Option Addr} {sllaw_trip : Array (Option Value)}
  {flaw_ran : Addr} {oclaw_ran kVlaw_ran dclaw_ran pmlaw_ran cdlaw_ran ctlaw_ran : Value} {odlaw_ran anlaw_ran : Option Addr} {sllaw_ran : Array (Option Value)}
  {flaw_is_so : Addr} {oclaw_is_so kVlaw_is_so dclaw_is_so pmlaw_is_so cdlaw_is_so ctlaw_is_so : Value} {odlaw_is_so anlaw_is_so : Option Addr} {sllaw_is_so : Array (Option Value)}
  {flaw_done : Addr} {oclaw_done kVlaw_done dclaw_done pmlaw_done cdlaw_done ctlaw_done : Value} {odlaw_done anlaw_done : Option Addr} {sllaw_done : Array (Option Value)}
  {flaw : Addr} {oclaw kVlaw dclaw pmlaw cdlaw ctlaw : Value} {odlaw anlaw : Option Addr} {sllaw : Array (Option Value)}
  {C : Addr} {tM : Tok}
  {fMinit : Addr} {ocMinit kVMinit dcMinit pmMinit cdMinit ctMinit : Value} {odMinit anMinit : Option Addr} {slMinit : Array (Option Value)}
  {fMpath : Addr} {ocMpath kVMpath dcMpath pmMpath cdMpath ctMpath : Value} {odMpath anMpath : Option Addr} {slMpath : Array (Option Value)}
  {fMsize : Addr} {ocMsize kVMsize dcMsize pmMsize cdMsize ctMsize : Value} {odMsize anMsize : Option Addr} {slMsize : Array (Option Value)}
  {pMsize : Addr} {rMsize : List Value}
  {fMof : Addr} {ocMof kVMof dcMof pmMof cdMof ctMof : Value} {odMof anMof : Option Addr} {slMof : Array (Option Value)}
  {pMof : Addr} {rMof : List Value}
  {fMneighbours : Addr} {ocMneighbours kVMneighbours dcMneighbours pmMneighbours cdMneighbours ctMneighbours : Value} {odMneighbours anMneighbours : Option Addr} {slMneighbours : Array (Option Value)}
  {fMtracks : Addr} {ocMtracks kVMtracks dcMtracks pmMtracks cdMtracks ctMtracks : Value} {odMtracks anMtracks : Option Addr} {slMtracks : Array (Option Value)}
  {pMtracks : Addr} {rMtracks : List Value}
  {fMis_same : Addr} {ocMis_same kVMis_same dcMis_same pmMis_same cdMis_same ctMis_same : Value} {odMis_same anMis_same : Option Addr} {slMis_same : Array (Option Value)}
  {fMCourseinit : Addr} {ocMCourseinit kVMCourseinit dcMCourseinit pmMCourseinit cdMCourseinit ctMCourseinit : Value} {odMCourseinit anMCourseinit : Option Addr} {slMCourseinit : Array (Option Value)}
  {fMCoursecheck_fuel : Addr} {ocMCoursecheck_fuel kVMCoursecheck_fuel dcMCoursecheck_fuel pmMCoursecheck_fuel cdMCoursecheck_fuel ctMCoursecheck_fuel : Value} {odMCoursecheck_fuel anMCoursecheck_fuel : Option Addr} {slMCoursecheck_fuel : Array (Option Value)}
  {fMCoursego_on : Addr} {ocMCoursego_on kVMCoursego_on dcMCoursego_on pmMCoursego_on cdMCoursego_on ctMCoursego_on : Value} {odMCoursego_on anMCoursego_on : Option Addr} {slMCoursego_on : Array (Option Value)}
  {fMCourseburn : Addr} {ocMCourseburn kVMCourseburn dcMCourseburn pmMCourseburn cdMCourseburn ctMCourseburn : Value} {odMCourseburn anMCourseburn : Option Addr} {slMCourseburn : Array (Option Value)}
  {fMTraininit : Addr} {ocMTraininit kVMTraininit dcMTraininit pmMTraininit cdMTraininit ctMTraininit : Value} {odMTraininit anMTraininit : Option Addr} {slMTraininit : Array (Option Value)}
  {fMTrainrailway : Addr} {ocMTrainrailway kVMTrainrailway dcMTrainrailway pmMTrainrailway cdMTrainrailway ctMTrainrailway : Value} {odMTrainrailway anMTrainrailway : Option Addr} {slMTrainrailway : Array (Option Value)}
  {pMTrainrailway : Addr} {rMTrainrailway : List Value}
  {fMTrainhead : Addr} {ocMTrainhead kVMTrainhead dcMTrainhead pmMTrainhead cdMTrainhead ctMTrainhead : Value} {odMTrainhead anMTrainhead : Option Addr} {slMTrainhead : Array (Option Value)}
  {pMTrainhead : Addr} {rMTrainhead : List Value}
  {fMTraintail : Addr} {ocMTraintail kVMTraintail dcMTraintail pmMTraintail cdMTraintail ctMTraintail : Value} {odMTraintail anMTraintail : Option Addr} {slMTraintail : Array (Option Value)}
  {pMTraintail : Addr} {rMTraintail : List Value}
  {fMTrainstanding : Addr} {ocMTrainstanding kVMTrainstanding dcMTrainstanding pmMTrainstanding cdMTrainstanding ctMTrainstanding : Value} {odMTrainstanding anMTrainstanding : Option Addr} {slMTrainstanding : Array (Option Value)}
  {pMTrainstanding : Addr} {rMTrainstanding : List Value}
  {fMTrainspan : Addr} {ocMTrainspan kVMTrainspan dcMTrainspan pmMTrainspan cdMTrainspan ctMTrainspan : Value} {odMTrainspan anMTrainspan : Option Addr} {slMTrainspan : Array (Option Value)}
  {pMTrainspan : Addr} {rMTrainspan : List Value}
  {fMTrainbody : Addr} {ocMTrainbody kVMTrainbody dcMTrainbody pmMTrainbody cdMTrainbody ctMTrainbody : Value} {odMTrainbody anMTrainbody : Option Addr} {slMTrainbody : Array (Option Value)}
  {pMTrainbody : Addr} {rMTrainbody : List Value}
  {fMTrainsteps : Addr} {ocMTrainsteps kVMTrainsteps dcMTrainsteps pmMTrainsteps cdMTrainsteps ctMTrainsteps : Value} {odMTrainsteps anMTrainsteps : Option Addr} {slMTrainsteps : Array (Option Value)}
  {pMTrainsteps : Addr} {rMTrainsteps : List Value}
  {fMTrainahead : Addr} {ocMTrainahead kVMTrainahead dcMTrainahead pmMTrainahead cdMTrainahead ctMTrainahead : Value} {odMTrainahead anMTrainahead : Option Addr} {slMTrainahead : Array (Option Value)}
  {fMTrainreverse : Addr} {ocMTrainreverse kVMTrainreverse dcMTrainreverse pmMTrainreverse cdMTrainreverse ctMTrainreverse : Value} {odMTrainreverse anMTrainreverse : Option Addr} {slMTrainreverse : Array (Option Value)}
  {fMTrainrun : Addr} {ocMTrainrun kVMTrainrun dcMTrainrun pmMTrainrun cdMTrainrun ctMTrainrun : Value} {odMTrainrun anMTrainrun : Option Addr} {slMTrainrun : Array (Option Value)}
  {fMTrainrun_all : Addr} {ocMTrainrun_all kVMTrainrun_all dcMTrainrun_all pmMTrainrun_all cdMTrainrun_all ctMTrainrun_all : Value} {odMTrainrun_all anMTrainrun_all : Option Addr} {slMTrainrun_all : Array (Option Value)}
  {CInvalidMove gInvalidMove : Addr} {ocxInvalidMove kVxInvalidMove dcxInvalidMove pmxInvalidMove cdxInvalidMove ctxInvalidMove : Value} {odxInvalidMove anxInvalidMove : Option Addr} {slxInvalidMove : Array (Option Value)}
  {TxInvalidMove : Addr} {tcxInvalidMove : Value} {tdxInvalidMove : Option Addr} {tlxInvalidMove : Array (Option Value)} {tnxInvalidMove : Nat}
  {CBlocked gBlocked : Addr} {ocxBlocked kVxBlocked dcxBlocked pmxBlocked cdxBlocked ctxBlocked : Value} {odxBlocked anxBlocked : Option Addr} {slxBlocked : Array (Option Value)}
  {aEN : Addr} {odE : Option Addr} {tE1 tE2 : Tok} {nE : Nat} {slE : Array (Option Value)} {CT CC : Addr}
  (ais_integer : PySem.W.nsIn K mainGlobals "is_integer" = some (some (.ref fis_integer)))
  (lis_integer : K.lookup fis_integer = some ⟨ocis_integer, odis_integer, .func (PySem.W.fnOf "is_integer" "is_integer" (defArgs s_is_integer) (defBody s_is_integer) (defScope s_is_integer) .none kVis_integer dcis_integer pmis_integer anis_integer cdis_integer ctis_integer), slis_integer⟩)
  (cis_integer : PySem.W.codeIn K cdis_integer "is_integer" = true)
  (kis_integer : PySem.W.keepIn K (.ref fis_integer) = true)
  (ais_number_from : PySem.W.nsIn K mainGlobals "is_number_from" = some (some (.ref fis_number_from)))
  (lis_number_from : K.lookup fis_number_from = some ⟨ocis_number_from, odis_number_from, .func (PySem.W.fnOf "is_number_from" "is_number_from" (defArgs s_is_number_from) (defBody s_is_number_from) (defScope s_is_number_from) .none kVis_number_from dcis_number_from pmis_number_from anis_number_from cdis_number_from ctis_number_from), slis_number_from⟩)
  (cis_number_from : PySem.W.codeIn K cdis_number_from "is_number_from" = true)
  (kis_number_from : PySem.W.keepIn K (.ref fis_number_from) = true)
  (ais_pair_of_stations : PySem.W.nsIn K mainGlobals "is_pair_of_stations" = some (some (.ref fis_pair_of_stations)))
  (lis_pair_of_stations : K.lookup fis_pair_of_stations = some ⟨ocis_pair_of_stations, odis_pair_of_stations, .func (PySem.W.fnOf "is_pair_of_stations" "is_pair_of_stations" (defArgs s_is_pair_of_stations) (defBody s_is_pair_of_stations) (defScope s_is_pair_of_stations) .none kVis_pair_of_stations dcis_pair_of_stations pmis_pair_of_stations anis_pair_of_stations cdis_pair_of_stations ctis_pair_of_stations), slis_pair_of_stations⟩)
  (cis_pair_of_stations : PySem.W.codeIn K cdis_pair_of_stations "is_pair_of_stations" = true)
  (kis_pair_of_stations : PySem.W.keepIn K (.ref fis_pair_of_stations) = true)
  (ais_station : PySem.W.nsIn K mainGlobals "is_station" = some (some (.ref fis_station)))
  (lis_station : K.lookup fis_station = some ⟨ocis_station, odis_station, .func (PySem.W.fnOf "is_station" "is_station" (defArgs s_is_station) (defBody s_is_station) (defScope s_is_station) .none kVis_station dcis_station pmis_station anis_station cdis_station ctis_station), slis_station⟩)
  (cis_station : PySem.W.codeIn K cdis_station "is_station" = true)
  (kis_station : PySem.W.keepIn K (.ref fis_station) = true)
  (acheck_station : PySem.W.nsIn K mainGlobals "check_station" = some (some (.ref fcheck_station)))
  (lcheck_station : K.lookup fcheck_station = some ⟨occheck_station, odcheck_station, .func (PySem.W.fnOf "check_station" "check_station" (defArgs s_check_station) (defBody s_check_station) (defScope s_check_station) .none kVcheck_station dccheck_station pmcheck_station ancheck_station cdcheck_station ctcheck_station), slcheck_station⟩)
  (ccheck_station : PySem.W.codeIn K cdcheck_station "check_station" = true)
  (kcheck_station : PySem.W.keepIn K (.ref fcheck_station) = true)
  (ajoined : PySem.W.nsIn K mainGlobals "joined" = some (some (.ref fjoined)))
  (ljoined : K.lookup fjoined = some ⟨ocjoined, odjoined, .func (PySem.W.fnOf "joined" "joined" (defArgs s_joined) (defBody s_joined) (defScope s_joined) .none kVjoined dcjoined pmjoined anjoined cdjoined ctjoined), sljoined⟩)
  (cjoined : PySem.W.codeIn K cdjoined "joined" = true)
  (kjoined : PySem.W.keepIn K (.ref fjoined) = true)
  (afirst_wrong_track : PySem.W.nsIn K mainGlobals "first_wrong_track" = some (some (.ref ffirst_wrong_track)))
  (lfirst_wrong_track : K.lookup ffirst_wrong_track = some ⟨ocfirst_wrong_track, odfirst_wrong_track, .func (PySem.W.fnOf "first_wrong_track" "first_wrong_track" (defArgs s_first_wrong_track) (defBody s_first_wrong_track) (defScope s_first_wrong_track) .none kVfirst_wrong_track dcfirst_wrong_track pmfirst_wrong_track anfirst_wrong_track cdfirst_wrong_track ctfirst_wrong_track), slfirst_wrong_track⟩)
  (cfirst_wrong_track : PySem.W.codeIn K cdfirst_wrong_track "first_wrong_track" = true)
  (kfirst_wrong_track : PySem.W.keepIn K (.ref ffirst_wrong_track) = true)
  (aneighbours_of : PySem.W.nsIn K mainGlobals "_neighbours_of" = some (some (.ref fneighbours_of)))
  (lneighbours_of : K.lookup fneighbours_of = some ⟨ocneighbours_of, odneighbours_of, .func (PySem.W.fnOf "_neighbours_of" "_neighbours_of" (defArgs s_neighbours_of) (defBody s_neighbours_of) (defScope s_neighbours_of) .none kVneighbours_of dcneighbours_of pmneighbours_of anneighbours_of cdneighbours_of ctneighbours_of), slneighbours_of⟩)
  (cneighbours_of : PySem.W.codeIn K cdneighbours_of "_neighbours_of" = true)
  (kneighbours_of : PySem.W.keepIn K (.ref fneighbours_of) = true)
  (aplaces_below_first : PySem.W.nsIn K mainGlobals "_places_below_first" = some (some (.ref fplaces_below_first)))
  (lplaces_below_first : K.lookup fplaces_below_first = some ⟨ocplaces_below_first, odplaces_below_first, .func (PySem.W.fnOf "_places_below_first" "_places_below_first" (defArgs s_places_below_first) (defBody s_places_below_first) (defScope s_places_below_first) .none kVplaces_below_first dcplaces_below_first pmplaces_below_first anplaces_below_first cdplaces_below_first ctplaces_below_first), slplaces_below_first⟩)
  (cplaces_below_first : PySem.W.codeIn K cdplaces_below_first "_places_below_first" = true)
  (kplaces_below_first : PySem.W.keepIn K (.ref fplaces_below_first) = true)
  (alaw_begin : PySem.W.nsIn K mainGlobals "_law_begin" = some (some (.ref flaw_begin)))
  (llaw_begin : K.lookup flaw_begin = some ⟨oclaw_begin, odlaw_begin, .func (PySem.W.fnOf "_law_begin" "_law_begin" (defArgs s_law_begin) (defBody s_law_begin) (defScope s_law_begin) .none kVlaw_begin dclaw_begin pmlaw_begin anlaw_begin cdlaw_begin ctlaw_begin), sllaw_begin⟩)
  (claw_begin : PySem.W.codeIn K cdlaw_begin "_law_begin" = true)
  (klaw_begin : PySem.W.keepIn K (.ref flaw_begin) = true)
  (alaw_mixed : PySem.W.nsIn K mainGlobals "_law_mixed" = some (some (.ref flaw_mixed)))
  (llaw_mixed : K.lookup flaw_mixed = some ⟨oclaw_mixed, odlaw_mixed, .func (PySem.W.fnOf "_law_mixed" "_law_mixed" (defArgs s_law_mixed) (defBody s_law_mixed) (defScope s_law_mixed) .none kVlaw_mixed dclaw_mixed pmlaw_mixed anlaw_mixed cdlaw_mixed ctlaw_mixed), sllaw_mixed⟩)
  (claw_mixed : PySem.W.codeIn K cdlaw_mixed "_law_mixed" = true)
  (klaw_mixed : PySem.W.keepIn K (.ref flaw_mixed) = true)
  (alaw_next : PySem.W.nsIn K mainGlobals "_law_next" = some (some (.ref flaw_next)))
  (llaw_next : K.lookup flaw_next = some ⟨oclaw_next, odlaw_next, .func (PySem.W.fnOf "_law_next" "_law_next" (defArgs s_law_next) (defBody s_law_next) (defScope s_law_next) .none kVlaw_next dclaw_next pmlaw_next anlaw_next cdlaw_next ctlaw_next), sllaw_next⟩)
  (claw_next : PySem.W.codeIn K cdlaw_next "_law_next" = true)
  (klaw_next : PySem.W.keepIn K (.ref flaw_next) = true)
  (alaw_tracks : PySem.W.nsIn K mainGlobals "_law_tracks" = some (some (.ref flaw_tracks)))
  (llaw_tracks : K.lookup flaw_tracks = some ⟨oclaw_tracks, odlaw_tracks, .func (PySem.W.fnOf "_law_tracks" "_law_tracks" (defArgs s_law_tracks) (defBody s_law_tracks) (defScope s_law_tracks) .none kVlaw_tracks dclaw_tracks pmlaw_tracks anlaw_tracks cdlaw_tracks ctlaw_tracks), sllaw_tracks⟩)
  (claw_tracks : PySem.W.codeIn K cdlaw_tracks "_law_tracks" = true)
  (klaw_tracks : PySem.W.keepIn K (.ref flaw_tracks) = true)
  (ais_standing : PySem.W.nsIn K mainGlobals "is_standing" = some (some (.ref fis_standing)))
  (lis_standing : K.lookup fis_standing = some ⟨ocis_standing, odis_standing, .func (PySem.W.fnOf "is_standing" "is_standing" (defArgs s_is_standing) (defBody s_is_standing) (defScope s_is_standing) .none kVis_standing dcis_standing pmis_standing anis_standing cdis_standing ctis_standing), slis_standing⟩)
  (cis_standing : PySem.W.codeIn K cdis_standing "is_standing" = true)
  (kis_standing : PySem.W.keepIn K (.ref fis_standing) = true)
  (acheck_standing : PySem.W.nsIn K mainGlobals "check_standing" = some (some (.ref fcheck_standing)))
  (lcheck_standing : K.lookup fcheck_standing = some ⟨occheck_standing, odcheck_standing, .func (PySem.W.fnOf "check_standing" "check_standing" (defArgs s_check_standing) (defBody s_check_standing) (defScope s_check_standing) .none kVcheck_standing dccheck_standing pmcheck_standing ancheck_standing cdcheck_standing ctcheck_standing), slcheck_standing⟩)
  (ccheck_standing : PySem.W.codeIn K cdcheck_standing "check_standing" = true)
  (kcheck_standing : PySem.W.keepIn K (.ref fcheck_standing) = true)
  (ais_move : PySem.W.nsIn K mainGlobals "is_move" = some (some (.ref fis_move)))
  (lis_move : K.lookup fis_move = some ⟨ocis_move, odis_move, .func (PySem.W.fnOf "is_move" "is_move" (defArgs s_is_move) (defBody s_is_move) (defScope s_is_move) .none kVis_move dcis_move pmis_move anis_move cdis_move ctis_move), slis_move⟩)
  (cis_move : PySem.W.codeIn K cdis_move "is_move" = true)
  (kis_move : PySem.W.keepIn K (.ref fis_move) = true)
  (acheck_moves : PySem.W.nsIn K mainGlobals "check_moves" = some (some (.ref fcheck_moves)))
  (lcheck_moves : K.lookup fcheck_moves = some ⟨occheck_moves, odcheck_moves, .func (PySem.W.fnOf "check_moves" "check_moves" (defArgs s_check_moves) (defBody s_check_moves) (defScope s_check_moves) .none kVcheck_moves dccheck_moves pmcheck_moves ancheck_moves cdcheck_moves ctcheck_moves), slcheck_moves⟩)
  (ccheck_moves : PySem.W.codeIn K cdcheck_moves "check_moves" = true)
  (kcheck_moves : PySem.W.keepIn K (.ref fcheck_moves) = true)
  (abody_of : PySem.W.nsIn K mainGlobals "body_of" = some (some (.ref fbody_of)))
  (lbody_of : K.lookup fbody_of = some ⟨ocbody_of, odbody_of, .func (PySem.W.fnOf "body_of" "body_of" (defArgs s_body_of) (defBody s_body_of) (defScope s_body_of) .none kVbody_of dcbody_of pmbody_of anbody_of cdbody_of ctbody_of), slbody_of⟩)
  (cbody_of : PySem.W.codeIn K cdbody_of "body_of" = true)
  (kbody_of : PySem.W.keepIn K (.ref fbody_of) = true)
  (abodies_along : PySem.W.nsIn K mainGlobals "bodies_along" = some (some (.ref fbodies_along)))
  (lbodies_along : K.lookup fbodies_along = some ⟨ocbodies_along, odbodies_along, .func (PySem.W.fnOf "bodies_along" "bodies_along" (defArgs s_bodies_along) (defBody s_bodies_along) (defScope s_bodies_along) .none kVbodies_along dcbodies_along pmbodies_along anbodies_along cdbodies_along ctbodies_along), slbodies_along⟩)
  (cbodies_along : PySem.W.codeIn K cdbodies_along "bodies_along" = true)
  (kbodies_along : PySem.W.keepIn K (.ref fbodies_along) = true)
  (abody_after : PySem.W.nsIn K mainGlobals "_body_after" = some (some (.ref fbody_after)))
  (lbody_after : K.lookup fbody_after = some ⟨ocbody_after, odbody_after, .func (PySem.W.fnOf "_body_after" "_body_after" (defArgs s_body_after) (defBody s_body_after) (defScope s_body_after) .none kVbody_after dcbody_after pmbody_after anbody_after cdbody_after ctbody_after), slbody_after⟩)
  (cbody_after : PySem.W.codeIn K cdbody_after "_body_after" = true)
  (kbody_after : PySem.W.keepIn K (.ref fbody_after) = true)
  (alaw_place : PySem.W.nsIn K mainGlobals "_law_place" = some (some (.ref flaw_place)))
  (llaw_place : K.lookup flaw_place = some ⟨oclaw_place, odlaw_place, .func (PySem.W.fnOf "_law_place" "_law_place" (defArgs s_law_place) (defBody s_law_place) (defScope s_law_place) .none kVlaw_place dclaw_place pmlaw_place anlaw_place cdlaw_place ctlaw_place), sllaw_place⟩)
  (claw_place : PySem.W.codeIn K cdlaw_place "_law_place" = true)
  (klaw_place : PySem.W.keepIn K (.ref flaw_place) = true)
  (alaw_links : PySem.W.nsIn K mainGlobals "_law_links" = some (some (.ref flaw_links)))
  (llaw_links : K.lookup flaw_links = some ⟨oclaw_links, odlaw_links, .func (PySem.W.fnOf "_law_links" "_law_links" (defArgs s_law_links) (defBody s_law_links) (defScope s_law_links) .none kVlaw_links dclaw_links pmlaw_links anlaw_links cdlaw_links ctlaw_links), sllaw_links⟩)
  (claw_links : PySem.W.codeIn K cdlaw_links "_law_links" = true)
  (klaw_links : PySem.W.keepIn K (.ref flaw_links) = true)
  (alaw_route : PySem.W.nsIn K mainGlobals "_law_route" = some (some (.ref flaw_route)))
  (llaw_route : K.lookup flaw_route = some ⟨oclaw_route, odlaw_route, .func (PySem.W.fnOf "_law_route" "_law_route" (defArgs s_law_route) (defBody s_law_route) (defScope s_law_route) .none kVlaw_route dclaw_route pmlaw_route anlaw_route cdlaw_route ctlaw_route), sllaw_route⟩)
  (claw_route : PySem.W.codeIn K cdlaw_route "_law_route" = true)
  (klaw_route : PySem.W.keepIn K (.ref flaw_route) = true)
  (alaw_fits : PySem.W.nsIn K mainGlobals "_law_fits" = some (some (.ref flaw_fits)))
  (llaw_fits : K.lookup flaw_fits = some ⟨oclaw_fits, odlaw_fits, .func (PySem.W.fnOf "_law_fits" "_law_fits" (defArgs s_law_fits) (defBody s_law_fits) (defScope s_law_fits) .none kVlaw_fits dclaw_fits pmlaw_fits anlaw_fits cdlaw_fits ctlaw_fits), sllaw_fits⟩)
  (claw_fits : PySem.W.codeIn K cdlaw_fits "_law_fits" = true)
  (klaw_fits : PySem.W.keepIn K (.ref flaw_fits) = true)
  (alaw_gone : PySem.W.nsIn K mainGlobals "_law_gone" = some (some (.ref flaw_gone)))
  (llaw_gone : K.lookup flaw_gone = some ⟨oclaw_gone, odlaw_gone, .func (PySem.W.fnOf "_law_gone" "_law_gone" (defArgs s_law_gone) (defBody s_law_gone) (defScope s_law_gone) .none kVlaw_gone dclaw_gone pmlaw_gone anlaw_gone cdlaw_gone ctlaw_gone), sllaw_gone⟩)
  (claw_gone : PySem.W.codeIn K cdlaw_gone "_law_gone" = true)
  (klaw_gone : PySem.W.keepIn K (.ref flaw_gone) = true)
  (alaw_chances : PySem.W.nsIn K mainGlobals "_law_chances" = some (some (.ref flaw_chances)))
  (llaw_chances : K.lookup flaw_chances = some ⟨oclaw_chances, odlaw_chances, .func (PySem.W.fnOf "_law_chances" "_law_chances" (defArgs s_law_chances) (defBody s_law_chances) (defScope s_law_chances) .none kVlaw_chances dclaw_chances pmlaw_chances anlaw_chances cdlaw_chances ctlaw_chances), sllaw_chances⟩)
  (claw_chances : PySem.W.codeIn K cdlaw_chances "_law_chances" = true)
  (klaw_chances : PySem.W.keepIn K (.ref flaw_chances) = true)
  (alaw_trip : PySem.W.nsIn K mainGlobals "_law_trip" = some (some (.ref flaw_trip)))
  (llaw_trip : K.lookup flaw_trip = some ⟨oclaw_trip, odlaw_trip, .func (PySem.W.fnOf "_law_trip" "_law_trip" (defArgs s_law_trip) (defBody s_law_trip) (defScope s_law_trip) .none kVlaw_trip dclaw_trip pmlaw_trip anlaw_trip cdlaw_trip ctlaw_trip), sllaw_trip⟩)
  (claw_trip : PySem.W.codeIn K cdlaw_trip "_law_trip" = true)
  (klaw_trip : PySem.W.keepIn K (.ref flaw_trip) = true)
  (alaw_ran : PySem.W.nsIn K mainGlobals "_law_ran" = some (some (.ref flaw_ran)))
  (llaw_ran : K.lookup flaw_ran = some ⟨oclaw_ran, odlaw_ran, .func (PySem.W.fnOf "_law_ran" "_law_ran" (defArgs s_law_ran) (defBody s_law_ran) (defScope s_law_ran) .none kVlaw_ran dclaw_ran pmlaw_ran anlaw_ran cdlaw_ran ctlaw_ran), sllaw_ran⟩)
  (claw_ran : PySem.W.codeIn K cdlaw_ran "_law_ran" = true)
  (klaw_ran : PySem.W.keepIn K (.ref flaw_ran) = true)
  (alaw_is_so : PySem.W.nsIn K mainGlobals "_law_is_so" = some (some (.ref flaw_is_so)))
  (llaw_is_so : K.lookup flaw_is_so = some ⟨oclaw_is_so, odlaw_is_so, .func (PySem.W.fnOf "_law_is_so" "_law_is_so" (defArgs s_law_is_so) (defBody s_law_is_so) (defScope s_law_is_so) .none kVlaw_is_so dclaw_is_so pmlaw_is_so anlaw_is_so cdlaw_is_so ctlaw_is_so), sllaw_is_so⟩)
  (claw_is_so : PySem.W.codeIn K cdlaw_is_so "_law_is_so" = true)
  (klaw_is_so : PySem.W.keepIn K (.ref flaw_is_so) = true)
  (alaw_done : PySem.W.nsIn K mainGlobals "_law_done" = some (some (.ref flaw_done)))
  (llaw_done : K.lookup flaw_done = some ⟨oclaw_done, odlaw_done, .func (PySem.W.fnOf "_law_done" "_law_done" (defArgs s_law_done) (defBody s_law_done) (defScope s_law_done) .none kVlaw_done dclaw_done pmlaw_done anlaw_done cdlaw_done ctlaw_done), sllaw_done⟩)
  (claw_done : PySem.W.codeIn K cdlaw_done "_law_done" = true)
  (klaw_done : PySem.W.keepIn K (.ref flaw_done) = true)
  (alaw : PySem.W.nsIn K mainGlobals "law" = some (some (.ref flaw)))
  (llaw : K.lookup flaw = some ⟨oclaw, odlaw, .func (PySem.W.fnOf "law" "law" (defArgs s_law) (defBody s_law) (defScope s_law) .none kVlaw dclaw pmlaw anlaw cdlaw ctlaw), sllaw⟩)
  (claw : PySem.W.codeIn K cdlaw "law" = true)
  (klaw : PySem.W.keepIn K (.ref flaw) = true)
  (aC : PySem.W.nsIn K mainGlobals "Railway" = some (some (.ref C)))
  (cR : PySem.W.readsIn K C (.type "type") = true)
  (cG : PySem.W.specialIn K (.ref C) "__getattribute__" = some (some (.builtin "type.__getattribute__")))
  (cM : PySem.W.findCls K (.ref C) (.type "type") "MOST_STATIONS" = some (.val (.int 100 tM)))
  (pg : PySem.W.plainGet K C Str.empty = true)
  (hd : PySem.W.hasDictIn K C = true)
  (po : PySem.W.plainOver K C = true)
  (sa : PySem.W.findIn K (.ref C) "__setattr__" = some (some (.builtin "object.__setattr__")))
  (mk : PySem.W.makesIn K C = true)
  (kc : PySem.W.keepIn K (.ref C) = true)
  (n0 : PySem.W.findIn K (.ref C) "_tracks" = some none)
  (n1 : PySem.W.findIn K (.ref C) "_neighbours" = some none)
  (n2 : PySem.W.findIn K (.ref C) "_above" = some none)
  (n3 : PySem.W.findIn K (.ref C) "_levels" = some none)
  (kca : PySem.W.findIn K (.ref C) "__class__" = some (some (.builtin "object.__class__")))
  (kob : PySem.W.mroIn K C (.type "object") = some true)
  (sg : PySem.W.specialIn K (.builtin "object.__class__") "__get__" = some (some (.builtin "getset_descriptor.__get__")))
  (st : PySem.W.takesIn K (.builtin "object.__class__") = some true)
  (aCT : PySem.W.nsIn K mainGlobals "Train" = some (some (.ref CT)))
  (pgCT : PySem.W.plainGet K CT Str.empty = true)
  (hdCT : PySem.W.hasDictIn K CT = true)
  (poCT : PySem.W.plainOver K CT = true)
  (saCT : PySem.W.findIn K (.ref CT) "__setattr__" = some (some (.builtin "object.__setattr__")))
  (mkCT : PySem.W.makesIn K CT = true)
  (kcCT : PySem.W.keepIn K (.ref CT) = true)
  (nCTrailway : PySem.W.findIn K (.ref CT) "_railway" = some none)
  (nCTcourse : PySem.W.findIn K (.ref CT) "course" = some none)
  (aCC : PySem.W.nsIn K mainGlobals "Course" = some (some (.ref CC)))
  (pgCC : PySem.W.plainGet K CC Str.empty = true)
  (hdCC : PySem.W.hasDictIn K CC = true)
  (poCC : PySem.W.plainOver K CC = true)
  (saCC : PySem.W.findIn K (.ref CC) "__setattr__" = some (some (.builtin "object.__setattr__")))
  (mkCC : PySem.W.makesIn K CC = true)
  (kcCC : PySem.W.keepIn K (.ref CC) = true)
  (nCCbodies : PySem.W.findIn K (.ref CC) "bodies" = some none)
  (nCCmoves : PySem.W.findIn K (.ref CC) "moves" = some none)
  (nCCplaces : PySem.W.findIn K (.ref CC) "places" = some none)
  (nCCleft : PySem.W.findIn K (.ref CC) "left" = some none)
  (nCCused : PySem.W.findIn K (.ref CC) "used" = some none)
  (aMinit : PySem.W.findIn K (.ref C) "__init__" = some (some (.ref fMinit)))
  (iMinit : PySem.W.isFn K (.ref fMinit) = true)
  (lMinit : K.lookup fMinit = some ⟨ocMinit, odMinit, .func (PySem.W.fnOf "__init__" "Railway.__init__" (defArgs s_Railway_init) (defBody s_Railway_init) (defScope s_Railway_init) .none kVMinit dcMinit pmMinit anMinit cdMinit ctMinit), slMinit⟩)
  (cMinit : PySem.W.codeIn K cdMinit "Railway.__init__" = true)
  (kMinit : PySem.W.keepIn K (.ref fMinit) = true)
  (aMpath : PySem.W.findIn K (.ref C) "path" = some (some (.ref fMpath)))
  (iMpath : PySem.W.isFn K (.ref fMpath) = true)
  (lMpath : K.lookup fMpath = some ⟨ocMpath, odMpath, .func (PySem.W.fnOf "path" "Railway.path" (defArgs s_Railway_path) (defBody s_Railway_path) (defScope s_Railway_path) .none kVMpath dcMpath pmMpath anMpath cdMpath ctMpath), slMpath⟩)
  (cMpath : PySem.W.codeIn K cdMpath "Railway.path" = true)
  (kMpath : PySem.W.keepIn K (.ref fMpath) = true)
  (aMsize : PySem.W.findIn K (.ref C) "size" = some (some (.ref pMsize)))
  (gMsize : PySem.W.specialIn K (.ref pMsize) "__get__" = some (some (.builtin "property.__get__")))
  (tMsize : PySem.W.takesIn K (.ref pMsize) = some true)
  (rMsizeh : PySem.W.recIn K pMsize "property" = some (.ref fMsize :: rMsize))
  (lMsize : K.lookup fMsize = some ⟨ocMsize, odMsize, .func (PySem.W.fnOf "size" "Railway.size" (defArgs s_Railway_size) (defBody s_Railway_size) (defScope s_Railway_size) .none kVMsize dcMsize pmMsize anMsize cdMsize ctMsize), slMsize⟩)
  (cMsize : PySem.W.codeIn K cdMsize "Railway.size" = true)
  (kMsize : PySem.W.keepIn K (.ref fMsize) = true)
  (aMof : PySem.W.findCls K (.ref C) (.type "type") "of" = some (.get (.builtin "classmethod.__get__") (.ref pMof) .none (.ref C)))
  (rMofh : PySem.W.recIn K pMof "classmethod" = some (.ref fMof :: rMof))
  (iMof : PySem.W.fnIn K fMof = true)
  (lMof : K.lookup fMof = some ⟨ocMof, odMof, .func (PySem.W.fnOf "of" "Railway.of" (defArgs s_Railway_of) (defBody s_Railway_of) (defScope s_Railway_of) .none kVMof dcMof pmMof anMof cdMof ctMof), slMof⟩)
  (cMof : PySem.W.codeIn K cdMof "Railway.of" = true)
  (kMof : PySem.W.keepIn K (.ref fMof) = true)
  (aMneighbours : PySem.W.findIn K (.ref C) "neighbours" = some (some (.ref fMneighbours)))
  (iMneighbours : PySem.W.isFn K (.ref fMneighbours) = true)
  (lMneighbours : K.lookup fMneighbours = some ⟨ocMneighbours, odMneighbours, .func (PySem.W.fnOf "neighbours" "Railway.neighbours" (defArgs s_Railway_neighbours) (defBody s_Railway_neighbours) (defScope s_Railway_neighbours) .none kVMneighbours dcMneighbours pmMneighbours anMneighbours cdMneighbours ctMneighbours), slMneighbours⟩)
  (cMneighbours : PySem.W.codeIn K cdMneighbours "Railway.neighbours" = true)
  (kMneighbours : PySem.W.keepIn K (.ref fMneighbours) = true)
  (aMtracks : PySem.W.findIn K (.ref C) "tracks" = some (some (.ref pMtracks)))
  (gMtracks : PySem.W.specialIn K (.ref pMtracks) "__get__" = some (some (.builtin "property.__get__")))
  (tMtracks : PySem.W.takesIn K (.ref pMtracks) = some true)
  (rMtracksh : PySem.W.recIn K pMtracks "property" = some (.ref fMtracks :: rMtracks))
  (lMtracks : K.lookup fMtracks = some ⟨ocMtracks, odMtracks, .func (PySem.W.fnOf "tracks" "Railway.tracks" (defArgs s_Railway_tracks) (defBody s_Railway_tracks) (defScope s_Railway_tracks) .none kVMtracks dcMtracks pmMtracks anMtracks cdMtracks ctMtracks), slMtracks⟩)
  (cMtracks : PySem.W.codeIn K cdMtracks "Railway.tracks" = true)
  (kMtracks : PySem.W.keepIn K (.ref fMtracks) = true)
  (aMis_same : PySem.W.findIn K (.ref C) "is_same" = some (some (.ref fMis_same)))
  (iMis_same : PySem.W.isFn K (.ref fMis_same) = true)
  (lMis_same : K.lookup fMis_same = some ⟨ocMis_same, odMis_same, .func (PySem.W.fnOf "is_same" "Railway.is_same" (defArgs s_Railway_is_same) (defBody s_Railway_is_same) (defScope s_Railway_is_same) .none kVMis_same dcMis_same pmMis_same anMis_same cdMis_same ctMis_same), slMis_same⟩)
  (cMis_same : PySem.W.codeIn K cdMis_same "Railway.is_same" = true)
  (kMis_same : PySem.W.keepIn K (.ref fMis_same) = true)
  (aMCourseinit : PySem.W.findIn K (.ref CC) "__init__" = some (some (.ref fMCourseinit)))
  (iMCourseinit : PySem.W.isFn K (.ref fMCourseinit) = true)
  (lMCourseinit : K.lookup fMCourseinit = some ⟨ocMCourseinit, odMCourseinit, .func (PySem.W.fnOf "__init__" "Course.__init__" (defArgs s_Course_init) (defBody s_Course_init) (defScope s_Course_init) .none kVMCourseinit dcMCourseinit pmMCourseinit anMCourseinit cdMCourseinit ctMCourseinit), slMCourseinit⟩)
  (cMCourseinit : PySem.W.codeIn K cdMCourseinit "Course.__init__" = true)
  (kMCourseinit : PySem.W.keepIn K (.ref fMCourseinit) = true)
  (aMCoursecheck_fuel : PySem.W.findIn K (.ref CC) "check_fuel" = some (some (.ref fMCoursecheck_fuel)))
  (iMCoursecheck_fuel : PySem.W.isFn K (.ref fMCoursecheck_fuel) = true)
  (lMCoursecheck_fuel : K.lookup fMCoursecheck_fuel = some ⟨ocMCoursecheck_fuel, odMCoursecheck_fuel, .func (PySem.W.fnOf "check_fuel" "Course.check_fuel" (defArgs s_Course_check_fuel) (defBody s_Course_check_fuel) (defScope s_Course_check_fuel) .none kVMCoursecheck_fuel dcMCoursecheck_fuel pmMCoursecheck_fuel anMCoursecheck_fuel cdMCoursecheck_fuel ctMCoursecheck_fuel), slMCoursecheck_fuel⟩)
  (cMCoursecheck_fuel : PySem.W.codeIn K cdMCoursecheck_fuel "Course.check_fuel" = true)
  (kMCoursecheck_fuel : PySem.W.keepIn K (.ref fMCoursecheck_fuel) = true)
  (aMCoursego_on : PySem.W.findIn K (.ref CC) "go_on" = some (some (.ref fMCoursego_on)))
  (iMCoursego_on : PySem.W.isFn K (.ref fMCoursego_on) = true)
  (lMCoursego_on : K.lookup fMCoursego_on = some ⟨ocMCoursego_on, odMCoursego_on, .func (PySem.W.fnOf "go_on" "Course.go_on" (defArgs s_Course_go_on) (defBody s_Course_go_on) (defScope s_Course_go_on) .none kVMCoursego_on dcMCoursego_on pmMCoursego_on anMCoursego_on cdMCoursego_on ctMCoursego_on), slMCoursego_on⟩)
  (cMCoursego_on : PySem.W.codeIn K cdMCoursego_on "Course.go_on" = true)
  (kMCoursego_on : PySem.W.keepIn K (.ref fMCoursego_on) = true)
  (aMCourseburn : PySem.W.findIn K (.ref CC) "_burn" = some (some (.ref fMCourseburn)))
  (iMCourseburn : PySem.W.isFn K (.ref fMCourseburn) = true)
  (lMCourseburn : K.lookup fMCourseburn = some ⟨ocMCourseburn, odMCourseburn, .func (PySem.W.fnOf "_burn" "Course._burn" (defArgs s_Course_burn) (defBody s_Course_burn) (defScope s_Course_burn) .none kVMCourseburn dcMCourseburn pmMCourseburn anMCourseburn cdMCourseburn ctMCourseburn), slMCourseburn⟩)
  (cMCourseburn : PySem.W.codeIn K cdMCourseburn "Course._burn" = true)
  (kMCourseburn : PySem.W.keepIn K (.ref fMCourseburn) = true)
  (aMTraininit : PySem.W.findIn K (.ref CT) "__init__" = some (some (.ref fMTraininit)))
  (iMTraininit : PySem.W.isFn K (.ref fMTraininit) = true)
  (lMTraininit : K.lookup fMTraininit = some ⟨ocMTraininit, odMTraininit, .func (PySem.W.fnOf "__init__" "Train.__init__" (defArgs s_Train_init) (defBody s_Train_init) (defScope s_Train_init) .none kVMTraininit dcMTraininit pmMTraininit anMTraininit cdMTraininit ctMTraininit), slMTraininit⟩)
  (cMTraininit : PySem.W.codeIn K cdMTraininit "Train.__init__" = true)
  (kMTraininit : PySem.W.keepIn K (.ref fMTraininit) = true)
  (aMTrainrailway : PySem.W.findIn K (.ref CT) "railway" = some (some (.ref pMTrainrailway)))
  (gMTrainrailway : PySem.W.specialIn K (.ref pMTrainrailway) "__get__" = some (some (.builtin "property.__get__")))
  (tMTrainrailway : PySem.W.takesIn K (.ref pMTrainrailway) = some true)
  (rMTrainrailwayh : PySem.W.recIn K pMTrainrailway "property" = some (.ref fMTrainrailway :: rMTrainrailway))
  (lMTrainrailway : K.lookup fMTrainrailway = some ⟨ocMTrainrailway, odMTrainrailway, .func (PySem.W.fnOf "railway" "Train.railway" (defArgs s_Train_railway) (defBody s_Train_railway) (defScope s_Train_railway) .none kVMTrainrailway dcMTrainrailway pmMTrainrailway anMTrainrailway cdMTrainrailway ctMTrainrailway), slMTrainrailway⟩)
  (cMTrainrailway : PySem.W.codeIn K cdMTrainrailway "Train.railway" = true)
  (kMTrainrailway : PySem.W.keepIn K (.ref fMTrainrailway) = true)
  (aMTrainhead : PySem.W.findIn K (.ref CT) "head" = some (some (.ref pMTrainhead)))
  (gMTrainhead : PySem.W.specialIn K (.ref pMTrainhead) "__get__" = some (some (.builtin "property.__get__")))
  (tMTrainhead : PySem.W.takesIn K (.ref pMTrainhead) = some true)
  (rMTrainheadh : PySem.W.recIn K pMTrainhead "property" = some (.ref fMTrainhead :: rMTrainhead))
  (lMTrainhead : K.lookup fMTrainhead = some ⟨ocMTrainhead, odMTrainhead, .func (PySem.W.fnOf "head" "Train.head" (defArgs s_Train_head) (defBody s_Train_head) (defScope s_Train_head) .none kVMTrainhead dcMTrainhead pmMTrainhead anMTrainhead cdMTrainhead ctMTrainhead), slMTrainhead⟩)
  (cMTrainhead : PySem.W.codeIn K cdMTrainhead "Train.head" = true)
  (kMTrainhead : PySem.W.keepIn K (.ref fMTrainhead) = true)
  (aMTraintail : PySem.W.findIn K (.ref CT) "tail" = some (some (.ref pMTraintail)))
  (gMTraintail : PySem.W.specialIn K (.ref pMTraintail) "__get__" = some (some (.builtin "property.__get__")))
  (tMTraintail : PySem.W.takesIn K (.ref pMTraintail) = some true)
  (rMTraintailh : PySem.W.recIn K pMTraintail "property" = some (.ref fMTraintail :: rMTraintail))
  (lMTraintail : K.lookup fMTraintail = some ⟨ocMTraintail, odMTraintail, .func (PySem.W.fnOf "tail" "Train.tail" (defArgs s_Train_tail) (defBody s_Train_tail) (defScope s_Train_tail) .none kVMTraintail dcMTraintail pmMTraintail anMTraintail cdMTraintail ctMTraintail), slMTraintail⟩)
  (cMTraintail : PySem.W.codeIn K cdMTraintail "Train.tail" = true)
  (kMTraintail : PySem.W.keepIn K (.ref fMTraintail) = true)
  (aMTrainstanding : PySem.W.findIn K (.ref CT) "standing" = some (some (.ref pMTrainstanding)))
  (gMTrainstanding : PySem.W.specialIn K (.ref pMTrainstanding) "__get__" = some (some (.builtin "property.__get__")))
  (tMTrainstanding : PySem.W.takesIn K (.ref pMTrainstanding) = some true)
  (rMTrainstandingh : PySem.W.recIn K pMTrainstanding "property" = some (.ref fMTrainstanding :: rMTrainstanding))
  (lMTrainstanding : K.lookup fMTrainstanding = some ⟨ocMTrainstanding, odMTrainstanding, .func (PySem.W.fnOf "standing" "Train.standing" (defArgs s_Train_standing) (defBody s_Train_standing) (defScope s_Train_standing) .none kVMTrainstanding dcMTrainstanding pmMTrainstanding anMTrainstanding cdMTrainstanding ctMTrainstanding), slMTrainstanding⟩)
  (cMTrainstanding : PySem.W.codeIn K cdMTrainstanding "Train.standing" = true)
  (kMTrainstanding : PySem.W.keepIn K (.ref fMTrainstanding) = true)
  (aMTrainspan : PySem.W.findIn K (.ref CT) "span" = some (some (.ref pMTrainspan)))
  (gMTrainspan : PySem.W.specialIn K (.ref pMTrainspan) "__get__" = some (some (.builtin "property.__get__")))
  (tMTrainspan : PySem.W.takesIn K (.ref pMTrainspan) = some true)
  (rMTrainspanh : PySem.W.recIn K pMTrainspan "property" = some (.ref fMTrainspan :: rMTrainspan))
  (lMTrainspan : K.lookup fMTrainspan = some ⟨ocMTrainspan, odMTrainspan, .func (PySem.W.fnOf "span" "Train.span" (defArgs s_Train_span) (defBody s_Train_span) (defScope s_Train_span) .none kVMTrainspan dcMTrainspan pmMTrainspan anMTrainspan cdMTrainspan ctMTrainspan), slMTrainspan⟩)
  (cMTrainspan : PySem.W.codeIn K cdMTrainspan "Train.span" = true)
  (kMTrainspan : PySem.W.keepIn K (.ref fMTrainspan) = true)
  (aMTrainbody : PySem.W.findIn K (.ref CT) "body" = some (some (.ref pMTrainbody)))
  (gMTrainbody : PySem.W.specialIn K (.ref pMTrainbody) "__get__" = some (some (.builtin "property.__get__")))
  (tMTrainbody : PySem.W.takesIn K (.ref pMTrainbody) = some true)
  (rMTrainbodyh : PySem.W.recIn K pMTrainbody "property" = some (.ref fMTrainbody :: rMTrainbody))
  (lMTrainbody : K.lookup fMTrainbody = some ⟨ocMTrainbody, odMTrainbody, .func (PySem.W.fnOf "body" "Train.body" (defArgs s_Train_body) (defBody s_Train_body) (defScope s_Train_body) .none kVMTrainbody dcMTrainbody pmMTrainbody anMTrainbody cdMTrainbody ctMTrainbody), slMTrainbody⟩)
  (cMTrainbody : PySem.W.codeIn K cdMTrainbody "Train.body" = true)
  (kMTrainbody : PySem.W.keepIn K (.ref fMTrainbody) = true)
  (aMTrainsteps : PySem.W.findIn K (.ref CT) "steps" = some (some (.ref pMTrainsteps)))
  (gMTrainsteps : PySem.W.specialIn K (.ref pMTrainsteps) "__get__" = some (some (.builtin "property.__get__")))
  (tMTrainsteps : PySem.W.takesIn K (.ref pMTrainsteps) = some true)
  (rMTrainstepsh : PySem.W.recIn K pMTrainsteps "property" = some (.ref fMTrainsteps :: rMTrainsteps))
  (lMTrainsteps : K.lookup fMTrainsteps = some ⟨ocMTrainsteps, odMTrainsteps, .func (PySem.W.fnOf "steps" "Train.steps" (defArgs s_Train_steps) (defBody s_Train_steps) (defScope s_Train_steps) .none kVMTrainsteps dcMTrainsteps pmMTrainsteps anMTrainsteps cdMTrainsteps ctMTrainsteps), slMTrainsteps⟩)
  (cMTrainsteps : PySem.W.codeIn K cdMTrainsteps "Train.steps" = true)
  (kMTrainsteps : PySem.W.keepIn K (.ref fMTrainsteps) = true)
  (aMTrainahead : PySem.W.findIn K (.ref CT) "ahead" = some (some (.ref fMTrainahead)))
  (iMTrainahead : PySem.W.isFn K (.ref fMTrainahead) = true)
  (lMTrainahead : K.lookup fMTrainahead = some ⟨ocMTrainahead, odMTrainahead, .func (PySem.W.fnOf "ahead" "Train.ahead" (defArgs s_Train_ahead) (defBody s_Train_ahead) (defScope s_Train_ahead) .none kVMTrainahead dcMTrainahead pmMTrainahead anMTrainahead cdMTrainahead ctMTrainahead), slMTrainahead⟩)
  (cMTrainahead : PySem.W.codeIn K cdMTrainahead "Train.ahead" = true)
  (kMTrainahead : PySem.W.keepIn K (.ref fMTrainahead) = true)
  (aMTrainreverse : PySem.W.findIn K (.ref CT) "reverse" = some (some (.ref fMTrainreverse)))
  (iMTrainreverse : PySem.W.isFn K (.ref fMTrainreverse) = true)
  (lMTrainreverse : K.lookup fMTrainreverse = some ⟨ocMTrainreverse, odMTrainreverse, .func (PySem.W.fnOf "reverse" "Train.reverse" (defArgs s_Train_reverse) (defBody s_Train_reverse) (defScope s_Train_reverse) .none kVMTrainreverse dcMTrainreverse pmMTrainreverse anMTrainreverse cdMTrainreverse ctMTrainreverse), slMTrainreverse⟩)
  (cMTrainreverse : PySem.W.codeIn K cdMTrainreverse "Train.reverse" = true)
  (kMTrainreverse : PySem.W.keepIn K (.ref fMTrainreverse) = true)
  (aMTrainrun : PySem.W.findIn K (.ref CT) "run" = some (some (.ref fMTrainrun)))
  (iMTrainrun : PySem.W.isFn K (.ref fMTrainrun) = true)
  (lMTrainrun : K.lookup fMTrainrun = some ⟨ocMTrainrun, odMTrainrun, .func (PySem.W.fnOf "run" "Train.run" (defArgs s_Train_run) (defBody s_Train_run) (defScope s_Train_run) .none kVMTrainrun dcMTrainrun pmMTrainrun anMTrainrun cdMTrainrun ctMTrainrun), slMTrainrun⟩)
  (cMTrainrun : PySem.W.codeIn K cdMTrainrun "Train.run" = true)
  (kMTrainrun : PySem.W.keepIn K (.ref fMTrainrun) = true)
  (aMTrainrun_all : PySem.W.findIn K (.ref CT) "run_all" = some (some (.ref fMTrainrun_all)))
  (iMTrainrun_all : PySem.W.isFn K (.ref fMTrainrun_all) = true)
  (lMTrainrun_all : K.lookup fMTrainrun_all = some ⟨ocMTrainrun_all, odMTrainrun_all, .func (PySem.W.fnOf "run_all" "Train.run_all" (defArgs s_Train_run_all) (defBody s_Train_run_all) (defScope s_Train_run_all) .none kVMTrainrun_all dcMTrainrun_all pmMTrainrun_all anMTrainrun_all cdMTrainrun_all ctMTrainrun_all), slMTrainrun_all⟩)
  (cMTrainrun_all : PySem.W.codeIn K cdMTrainrun_all "Train.run_all" = true)
  (kMTrainrun_all : PySem.W.keepIn K (.ref fMTrainrun_all) = true)
  (z_RuntimeError : PySem.W.nsIn K mainGlobals "RuntimeError" = some none)
  (z_ValueError : PySem.W.nsIn K mainGlobals "ValueError" = some none)
  (z_len : PySem.W.nsIn K mainGlobals "len" = some none)
  (z_isinstance : PySem.W.nsIn K mainGlobals "isinstance" = some none)
  (z_int : PySem.W.nsIn K mainGlobals "int" = some none)
  (z_bool : PySem.W.nsIn K mainGlobals "bool" = some none)
  (z_tuple : PySem.W.nsIn K mainGlobals "tuple" = some none)
  (z_list : PySem.W.nsIn K mainGlobals "list" = some none)
  (z_sorted : PySem.W.nsIn K mainGlobals "sorted" = some none)
  (z_min : PySem.W.nsIn K mainGlobals "min" = some none)
  (z_max : PySem.W.nsIn K mainGlobals "max" = some none)
  (z_range : PySem.W.nsIn K mainGlobals "range" = some none)
  (z_enumerate : PySem.W.nsIn K mainGlobals "enumerate" = some none)
  (z_repr : PySem.W.nsIn K mainGlobals "repr" = some none)
  (z_set : PySem.W.nsIn K mainGlobals "set" = some none)
  (z_all : PySem.W.nsIn K mainGlobals "all" = some none)
  (z_any : PySem.W.nsIn K mainGlobals "any" = some none)
  (z_zip : PySem.W.nsIn K mainGlobals "zip" = some none)
  (z_str : PySem.W.nsIn K mainGlobals "str" = some none)
  (xaInvalidMove : PySem.W.nsIn K mainGlobals "InvalidMove" = some (some (.ref CInvalidMove)))
  (xiInvalidMove : PySem.W.findIn K (.ref CInvalidMove) "__init__" = some (some (.ref gInvalidMove)))
  (xlInvalidMove : K.lookup gInvalidMove = some ⟨ocxInvalidMove, odxInvalidMove, .func (PySem.W.fnOf "__init__" "InvalidMove.__init__" (defArgs s_InvalidMove_init) (defBody s_InvalidMove_init) (defScope s_InvalidMove_init) (.ref TxInvalidMove) kVxInvalidMove dcxInvalidMove pmxInvalidMove anxInvalidMove cdxInvalidMove ctxInvalidMove), slxInvalidMove⟩)
  (xtInvalidMove : K.lookup TxInvalidMove = some ⟨tcxInvalidMove, tdxInvalidMove, .seq #[.none] tnxInvalidMove, tlxInvalidMove⟩)
  (xcInvalidMove : PySem.W.codeIn K cdxInvalidMove "InvalidMove.__init__" = true)
  (xkInvalidMove : PySem.W.keepIn K (.ref gInvalidMove) = true)
  (xzInvalidMove : ClsK K CInvalidMove gInvalidMove bmV "ValueError.__new__" "position")
  (xaBlocked : PySem.W.nsIn K mainGlobals "Blocked" = some (some (.ref CBlocked)))
  (xiBlocked : PySem.W.findIn K (.ref CBlocked) "__init__" = some (some (.ref gBlocked)))
  (xlBlocked : K.lookup gBlocked = some ⟨ocxBlocked, odxBlocked, .func (PySem.W.fnOf "__init__" "Blocked.__init__" (defArgs s_Blocked_init) (defBody s_Blocked_init) (defScope s_Blocked_init) .none kVxBlocked dcxBlocked pmxBlocked anxBlocked cdxBlocked ctxBlocked), slxBlocked⟩)
  (xcBlocked : PySem.W.codeIn K cdxBlocked "Blocked.__init__" = true)
  (xkBlocked : PySem.W.keepIn K (.ref gBlocked) = true)
  (xzBlocked : ClsK K CBlocked gBlocked bmR "RuntimeError.__new__" "position")
  (aENDS : PySem.W.nsIn K mainGlobals "ENDS" = some (some (.ref aEN)))
  (lENDS : K.lookup aEN = some ⟨.type "tuple", odE, .seq #[.str "head" tE1, .str "tail" tE2] nE, slE⟩) :
  ∃ fd : FuncData, (∀ (s : Shared) (u : Value), BindsTo s fd ⟨[u], []⟩ [("script", u)]) ∧ ∀ base : Heap, K.In base → base.Ns mainGlobals mg → FnG P w K mg base CX0 12 fa fd ["script"] (spLaw K) := by
  have e := hfa.symm.trans (PySem.W.mg_of X G alaw)
  cases e
  have N : Nm mg := ⟨PySem.W.mg_none_of X G z_len, PySem.W.mg_none_of X G z_isinstance, PySem.W.mg_none_of X G z_int, PySem.W.mg_none_of X G z_bool, PySem.W.mg_none_of X G z_tuple, PySem.W.mg_none_of X G z_list, PySem.W.mg_none_of X G z_sorted, PySem.W.mg_none_of X G z_min, PySem.W.mg_none_of X G z_max, PySem.W.mg_none_of X G z_range, PySem.W.mg_none_of X G z_enumerate, PySem.W.mg_none_of X G z_repr, PySem.W.mg_none_of X G z_set, PySem.W.mg_none_of X G z_all, PySem.W.mg_none_of X G z_any, PySem.W.mg_none_of X G z_zip, PySem.W.mg_none_of X G z_str⟩
  have Fis_integer := fun_mk (st := s_is_integer) lis_integer cis_integer kis_integer
  have bis_integer := Fis_integer.binds (ps := ["value"]) fun _ _ _ _ _ _ us hl => by obtain ⟨_, rfl⟩ := lenV1 hl; exact rfl
  have Fis_number_from := fun_mk (st := s_is_number_from) lis_number_from cis_number_from kis_number_from
  have bis_number_from := Fis_number_from.binds (ps := ["value", "least", "greatest"]) fun _ _ _ _ _ _ us hl => by obtain ⟨_, _, _, rfl⟩ := lenV3 hl; exact rfl
  have Fis_pair_of_stations := fun_mk (st := s_is_pair_of_stations) lis_pair_of_stations cis_pair_of_stations kis_pair_of_stations
  have bis_pair_of_stations := Fis_pair_of_stations.binds (ps := ["value", "size"]) fun _ _ _ _ _ _ us hl => by obtain ⟨_, _, rfl⟩ := lenV2 hl; exact rfl
  have Fis_station := fun_mk (st := s_is_station) lis_station cis_station kis_station
  have bis_station := Fis_station.binds (ps := ["railway", "value"]) fun _ _ _ _ _ _ us hl => by obtain ⟨_, _, rfl⟩ := lenV2 hl; exact rfl
  have Fcheck_station := fun_mk (st := s_check_station) lcheck_station ccheck_station kcheck_station
  have bcheck_station := Fcheck_station.binds (ps := ["railway", "station"]) fun _ _ _ _ _ _ us hl => by obtain ⟨_, _, rfl⟩ := lenV2 hl; exact rfl
  have Fjoined := fun_mk (st := s_joined) ljoined cjoined kjoined
  have bjoined := Fjoined.binds (ps := ["groups", "one", "other"]) fun _ _ _ _ _ _ us hl => by obtain ⟨_, _, _, rfl⟩ := lenV3 hl; exact rfl
  have Ffirst_wrong_track := fun_mk (st := s_first_wrong_track) lfirst_wrong_track cfirst_wrong_track kfirst_wrong_track
  have bfirst_wrong_track := Ffirst_wrong_track.binds (ps := ["tracks"]) fun _ _ _ _ _ _ us hl => by obtain ⟨_, rfl⟩ := lenV1 hl; exact rfl
  have Fneighbours_of := fun_mk (st := s_neighbours_of) lneighbours_of cneighbours_of kneighbours_of
  have bneighbours_of := Fneighbours_of.binds (ps := ["tracks"]) fun _ _ _ _ _ _ us hl => by obtain ⟨_, rfl⟩ := lenV1 hl; exact rfl
  have Fplaces_below_first := fun_mk (st := s_places_below_first) lplaces_below_first cplaces_below_first kplaces_below_first
  have bplaces_below_first := Fplaces_below_first.binds (ps := ["neighbours"]) fun _ _ _ _ _ _ us hl => by obtain ⟨_, rfl⟩ := lenV1 hl; exact rfl
  have Flaw_begin := fun_mk (st := s_law_begin) llaw_begin claw_begin klaw_begin
  have blaw_begin := Flaw_begin.binds (ps := ["script"]) fun _ _ _ _ _ _ us hl => by obtain ⟨_, rfl⟩ := lenV1 hl; exact rfl
  have Flaw_mixed := fun_mk (st := s_law_mixed) llaw_mixed claw_mixed klaw_mixed
  have blaw_mixed := Flaw_mixed.binds (ps := ["cell", "k"]) fun _ _ _ _ _ _ us hl => by obtain ⟨_, _, rfl⟩ := lenV2 hl; exact rfl
  have Flaw_next := fun_mk (st := s_law_next) llaw_next claw_next klaw_next
  have blaw_next := Flaw_next.binds (ps := ["draw", "bound"]) fun _ _ _ _ _ _ us hl => by obtain ⟨_, _, rfl⟩ := lenV2 hl; exact rfl
  have Flaw_tracks := fun_mk (st := s_law_tracks) llaw_tracks claw_tracks klaw_tracks
  have blaw_tracks := Flaw_tracks.binds (ps := ["draw", "most"]) fun _ _ _ _ _ _ us hl => by obtain ⟨_, _, rfl⟩ := lenV2 hl; exact rfl
  have Fis_standing := fun_mk (st := s_is_standing) lis_standing cis_standing kis_standing
  have bis_standing := Fis_standing.binds (ps := ["railway", "value"]) fun _ _ _ _ _ _ us hl => by obtain ⟨_, _, rfl⟩ := lenV2 hl; exact rfl
  have Fcheck_standing := fun_mk (st := s_check_standing) lcheck_standing ccheck_standing kcheck_standing
  have bcheck_standing := Fcheck_standing.binds (ps := ["railway", "standing"]) fun _ _ _ _ _ _ us hl => by obtain ⟨_, _, rfl⟩ := lenV2 hl; exact rfl
  have Fis_move := fun_mk (st := s_is_move) lis_move cis_move kis_move
  have bis_move := Fis_move.binds (ps := ["railway", "value"]) fun _ _ _ _ _ _ us hl => by obtain ⟨_, _, rfl⟩ := lenV2 hl; exact rfl
  have Fcheck_moves := fun_mk (st := s_check_moves) lcheck_moves ccheck_moves kcheck_moves
  have bcheck_moves := Fcheck_moves.binds (ps := ["railway", "moves"]) fun _ _ _ _ _ _ us hl => by obtain ⟨_, _, rfl⟩ := lenV2 hl; exact rfl
  have Fbody_of := fun_mk (st := s_body_of) lbody_of cbody_of kbody_of
  have bbody_of := Fbody_of.binds (ps := ["railway", "standing"]) fun _ _ _ _ _ _ us hl => by obtain ⟨_, _, rfl⟩ := lenV2 hl; exact rfl
  have Fbodies_along := fun_mk (st := s_bodies_along) lbodies_along cbodies_along kbodies_along
  have bbodies_along := Fbodies_along.binds (ps := ["railway", "standing", "moves"]) fun _ _ _ _ _ _ us hl => by obtain ⟨_, _, _, rfl⟩ := lenV3 hl; exact rfl
  have Fbody_after := fun_mk (st := s_body_after) lbody_after cbody_after kbody_after
  have bbody_after := Fbody_after.binds (ps := ["body", "end", "station"]) fun _ _ _ _ _ _ us hl => by obtain ⟨_, _, _, rfl⟩ := lenV3 hl; exact rfl
  have Flaw_place := fun_mk (st := s_law_place) llaw_place claw_place klaw_place
  have blaw_place := Flaw_place.binds (ps := ["draw", "count"]) fun _ _ _ _ _ _ us hl => by obtain ⟨_, _, rfl⟩ := lenV2 hl; exact rfl
  have Flaw_links := fun_mk (st := s_law_links) llaw_links claw_links klaw_links
  have blaw_links := Flaw_links.binds (ps := ["tracks_here"]) fun _ _ _ _ _ _ us hl => by obtain ⟨_, rfl⟩ := lenV1 hl; exact rfl
  have Flaw_route := fun_mk (st := s_law_route) llaw_route claw_route klaw_route
  have blaw_route := Flaw_route.binds (ps := ["links", "one", "two"]) fun _ _ _ _ _ _ us hl => by obtain ⟨_, _, _, rfl⟩ := lenV3 hl; exact rfl
  have Flaw_fits := fun_mk (st := s_law_fits) llaw_fits claw_fits klaw_fits
  have blaw_fits := Flaw_fits.binds (ps := ["links", "place", "move"]) fun _ _ _ _ _ _ us hl => by obtain ⟨_, _, _, rfl⟩ := lenV3 hl; exact rfl
  have Flaw_gone := fun_mk (st := s_law_gone) llaw_gone claw_gone klaw_gone
  have blaw_gone := Flaw_gone.binds (ps := ["links", "place", "move"]) fun _ _ _ _ _ _ us hl => by obtain ⟨_, _, _, rfl⟩ := lenV3 hl; exact rfl
  have Flaw_chances := fun_mk (st := s_law_chances) llaw_chances claw_chances klaw_chances
  have blaw_chances := Flaw_chances.binds (ps := ["links", "place"]) fun _ _ _ _ _ _ us hl => by obtain ⟨_, _, rfl⟩ := lenV2 hl; exact rfl
  have Flaw_trip := fun_mk (st := s_law_trip) llaw_trip claw_trip klaw_trip
  have blaw_trip := Flaw_trip.binds (ps := ["draw", "links", "place", "many"]) fun _ _ _ _ _ _ us hl => by obtain ⟨_, _, _, _, rfl⟩ := lenV4 hl; exact rfl
  have Flaw_ran := fun_mk (st := s_law_ran) llaw_ran claw_ran klaw_ran
  have blaw_ran := Flaw_ran.binds (ps := ["engine", "row"]) fun _ _ _ _ _ _ us hl => by obtain ⟨_, _, rfl⟩ := lenV2 hl; exact rfl
  have Flaw_is_so := fun_mk (st := s_law_is_so) llaw_is_so claw_is_so klaw_is_so
  have blaw_is_so := Flaw_is_so.binds (ps := ["engine", "links", "place", "row"]) fun _ _ _ _ _ _ us hl => by obtain ⟨_, _, _, _, rfl⟩ := lenV4 hl; exact rfl
  have Flaw_done := fun_mk (st := s_law_done) llaw_done claw_done klaw_done
  have blaw_done := Flaw_done.binds (ps := ["engine", "row", "kind"]) fun _ _ _ _ _ _ us hl => by obtain ⟨_, _, _, rfl⟩ := lenV3 hl; exact rfl
  have Flaw := fun_mk (st := s_law) llaw claw klaw
  have blaw := Flaw.binds (ps := ["script"]) fun _ _ _ _ _ _ us hl => by obtain ⟨_, rfl⟩ := lenV1 hl; exact rfl
  have cl : Cls K C := ⟨pg, hd, po, sa⟩
  have cr : CRead K C (.type "type") := ⟨cR, cG⟩
  have TX : TxtR K mg C := ⟨cl, n0, n1, n2, n3, PySem.W.mg_of X G aC, .type "type", tM, cr, ⟨cM, ⟨tM, rfl⟩⟩⟩
  have JK : InsK K C := ⟨kca, sg, st, kob⟩
  have KC : KCls K := ⟨sg, st⟩
  have FMinit := fun_mk (st := s_Railway_init) lMinit cMinit kMinit
  have FMpath := fun_mk (st := s_Railway_path) lMpath cMpath kMpath
  have bMpath := FMpath.binds (ps := ["self", "one", "other"]) fun _ _ _ _ _ _ us hl => by obtain ⟨_, _, _, rfl⟩ := lenV3 hl; exact rfl
  have mMpath : Meth K C "path" fMpath := ⟨aMpath, iMpath, kMpath⟩
  have PMsize : PropOf K C "size" pMsize fMsize := ⟨aMsize, gMsize, tMsize, ⟨rMsize, rMsizeh⟩⟩
  have FMsize := fun_mk (st := s_Railway_size) lMsize cMsize kMsize
  have bMsize := FMsize.binds (ps := ["self"]) fun _ _ _ _ _ _ us hl => by obtain ⟨_, rfl⟩ := lenV1 hl; exact rfl
  have FMof := fun_mk (st := s_Railway_of) lMof cMof kMof
  have bMof := FMof.binds (ps := ["cls", "tracks"]) fun _ _ _ _ _ _ us hl => by obtain ⟨_, _, rfl⟩ := lenV2 hl; exact rfl
  have cmMof : CMet K C (.type "type") "of" pMof fMof := ⟨aMof, ⟨rMof, rMofh⟩, iMof⟩
  have FMneighbours := fun_mk (st := s_Railway_neighbours) lMneighbours cMneighbours kMneighbours
  have bMneighbours := FMneighbours.binds (ps := ["self", "station"]) fun _ _ _ _ _ _ us hl => by obtain ⟨_, _, rfl⟩ := lenV2 hl; exact rfl
  have mMneighbours : Meth K C "neighbours" fMneighbours := ⟨aMneighbours, iMneighbours, kMneighbours⟩
  have PMtracks : PropOf K C "tracks" pMtracks fMtracks := ⟨aMtracks, gMtracks, tMtracks, ⟨rMtracks, rMtracksh⟩⟩
  have FMtracks := fun_mk (st := s_Railway_tracks) lMtracks cMtracks kMtracks
  have bMtracks := FMtracks.binds (ps := ["self"]) fun _ _ _ _ _ _ us hl => by obtain ⟨_, rfl⟩ := lenV1 hl; exact rfl
  have FMis_same := fun_mk (st := s_Railway_is_same) lMis_same cMis_same kMis_same
  have bMis_same := FMis_same.binds (ps := ["self", "other"]) fun _ _ _ _ _ _ us hl => by obtain ⟨_, _, rfl⟩ := lenV2 hl; exact rfl
  have mMis_same : Meth K C "is_same" fMis_same := ⟨aMis_same, iMis_same, kMis_same⟩
  have FMCourseinit := fun_mk (st := s_Course_init) lMCourseinit cMCourseinit kMCourseinit
  have FMCoursecheck_fuel := fun_mk (st := s_Course_check_fuel) lMCoursecheck_fuel cMCoursecheck_fuel kMCoursecheck_fuel
  have bMCoursecheck_fuel := FMCoursecheck_fuel.binds (ps := ["self", "count"]) fun _ _ _ _ _ _ us hl => by obtain ⟨_, _, rfl⟩ := lenV2 hl; exact rfl
  have mMCoursecheck_fuel : Meth K CC "check_fuel" fMCoursecheck_fuel := ⟨aMCoursecheck_fuel, iMCoursecheck_fuel, kMCoursecheck_fuel⟩
  have FMCoursego_on := fun_mk (st := s_Course_go_on) lMCoursego_on cMCoursego_on kMCoursego_on
  have bMCoursego_on := FMCoursego_on.binds (ps := ["self", "moves", "bodies"]) fun _ _ _ _ _ _ us hl => by obtain ⟨_, _, _, rfl⟩ := lenV3 hl; exact rfl
  have mMCoursego_on : Meth K CC "go_on" fMCoursego_on := ⟨aMCoursego_on, iMCoursego_on, kMCoursego_on⟩
  have FMCourseburn := fun_mk (st := s_Course_burn) lMCourseburn cMCourseburn kMCourseburn
  have bMCourseburn := FMCourseburn.binds (ps := ["self", "count"]) fun _ _ _ _ _ _ us hl => by obtain ⟨_, _, rfl⟩ := lenV2 hl; exact rfl
  have mMCourseburn : Meth K CC "_burn" fMCourseburn := ⟨aMCourseburn, iMCourseburn, kMCourseburn⟩
  have FMTraininit := fun_mk (st := s_Train_init) lMTraininit cMTraininit kMTraininit
  have PMTrainrailway : PropOf K CT "railway" pMTrainrailway fMTrainrailway := ⟨aMTrainrailway, gMTrainrailway, tMTrainrailway, ⟨rMTrainrailway, rMTrainrailwayh⟩⟩
  have FMTrainrailway := fun_mk (st := s_Train_railway) lMTrainrailway cMTrainrailway kMTrainrailway
  have bMTrainrailway := FMTrainrailway.binds (ps := ["self"]) fun _ _ _ _ _ _ us hl => by obtain ⟨_, rfl⟩ := lenV1 hl; exact rfl
  have PMTrainhead : PropOf K CT "head" pMTrainhead fMTrainhead := ⟨aMTrainhead, gMTrainhead, tMTrainhead, ⟨rMTrainhead, rMTrainheadh⟩⟩
  have FMTrainhead := fun_mk (st := s_Train_head) lMTrainhead cMTrainhead kMTrainhead
  have bMTrainhead := FMTrainhead.binds (ps := ["self"]) fun _ _ _ _ _ _ us hl => by obtain ⟨_, rfl⟩ := lenV1 hl; exact rfl
  have PMTraintail : PropOf K CT "tail" pMTraintail fMTraintail := ⟨aMTraintail, gMTraintail, tMTraintail, ⟨rMTraintail, rMTraintailh⟩⟩
  have FMTraintail := fun_mk (st := s_Train_tail) lMTraintail cMTraintail kMTraintail
  have bMTraintail := FMTraintail.binds (ps := ["self"]) fun _ _ _ _ _ _ us hl => by obtain ⟨_, rfl⟩ := lenV1 hl; exact rfl
  have PMTrainstanding : PropOf K CT "standing" pMTrainstanding fMTrainstanding := ⟨aMTrainstanding, gMTrainstanding, tMTrainstanding, ⟨rMTrainstanding, rMTrainstandingh⟩⟩
  have FMTrainstanding := fun_mk (st := s_Train_standing) lMTrainstanding cMTrainstanding kMTrainstanding
  have bMTrainstanding := FMTrainstanding.binds (ps := ["self"]) fun _ _ _ _ _ _ us hl => by obtain ⟨_, rfl⟩ := lenV1 hl; exact rfl
  have PMTrainspan : PropOf K CT "span" pMTrainspan fMTrainspan := ⟨aMTrainspan, gMTrainspan, tMTrainspan, ⟨rMTrainspan, rMTrainspanh⟩⟩
  have FMTrainspan := fun_mk (st := s_Train_span) lMTrainspan cMTrainspan kMTrainspan
  have bMTrainspan := FMTrainspan.binds (ps := ["self"]) fun _ _ _ _ _ _ us hl => by obtain ⟨_, rfl⟩ := lenV1 hl; exact rfl
  have PMTrainbody : PropOf K CT "body" pMTrainbody fMTrainbody := ⟨aMTrainbody, gMTrainbody, tMTrainbody, ⟨rMTrainbody, rMTrainbodyh⟩⟩
  have FMTrainbody := fun_mk (st := s_Train_body) lMTrainbody cMTrainbody kMTrainbody
  have bMTrainbody := FMTrainbody.binds (ps := ["self"]) fun _ _ _ _ _ _ us hl => by obtain ⟨_, rfl⟩ := lenV1 hl; exact rfl
  have PMTrainsteps : PropOf K CT "steps" pMTrainsteps fMTrainsteps := ⟨aMTrainsteps, gMTrainsteps, tMTrainsteps, ⟨rMTrainsteps, rMTrainstepsh⟩⟩
  have FMTrainsteps := fun_mk (st := s_Train_steps) lMTrainsteps cMTrainsteps kMTrainsteps
  have bMTrainsteps := FMTrainsteps.binds (ps := ["self"]) fun _ _ _ _ _ _ us hl => by obtain ⟨_, rfl⟩ := lenV1 hl; exact rfl
  have FMTrainahead := fun_mk (st := s_Train_ahead) lMTrainahead cMTrainahead kMTrainahead
  have bMTrainahead := FMTrainahead.binds (ps := ["self", "station"]) fun _ _ _ _ _ _ us hl => by obtain ⟨_, _, rfl⟩ := lenV2 hl; exact rfl
  have mMTrainahead : Meth K CT "ahead" fMTrainahead := ⟨aMTrainahead, iMTrainahead, kMTrainahead⟩
  have FMTrainreverse := fun_mk (st := s_Train_reverse) lMTrainreverse cMTrainreverse kMTrainreverse
  have bMTrainreverse := FMTrainreverse.binds (ps := ["self", "station"]) fun _ _ _ _ _ _ us hl => by obtain ⟨_, _, rfl⟩ := lenV2 hl; exact rfl
  have mMTrainreverse : Meth K CT "reverse" fMTrainreverse := ⟨aMTrainreverse, iMTrainreverse, kMTrainreverse⟩
  have FMTrainrun := fun_mk (st := s_Train_run) lMTrainrun cMTrainrun kMTrainrun
  have FMTrainrun_all := fun_mk (st := s_Train_run_all) lMTrainrun_all cMTrainrun_all kMTrainrun_all
  have bMTrainrun_all := FMTrainrun_all.binds (ps := ["self", "moves"]) fun _ _ _ _ _ _ us hl => by obtain ⟨_, _, rfl⟩ := lenV2 hl; exact rfl
  have mMTrainrun_all : Meth K CT "run_all" fMTrainrun_all := ⟨aMTrainrun_all, iMTrainrun_all, kMTrainrun_all⟩
  have qxInvalidMove : ∀ (s : Shared) (a u : Value), K.In s.heap → BindsTo s (PySem.W.fnOf "__init__" "InvalidMove.__init__" (defArgs s_InvalidMove_init) (defBody s_InvalidMove_init) (defScope s_InvalidMove_init) (.ref TxInvalidMove) kVxInvalidMove dcxInvalidMove pmxInvalidMove anxInvalidMove cdxInvalidMove ctxInvalidMove) ⟨[a, u], []⟩ [("self", a), ("position", u)] := fun _ _ _ hK => BindsTo.of_looks fun _ => looks_items hK xtInvalidMove rfl (.of_pure rfl)
  have bxInvalidMove : Binds K (PySem.W.fnOf "__init__" "InvalidMove.__init__" (defArgs s_InvalidMove_init) (defBody s_InvalidMove_init) (defScope s_InvalidMove_init) (.ref TxInvalidMove) kVxInvalidMove dcxInvalidMove pmxInvalidMove anxInvalidMove cdxInvalidMove ctxInvalidMove) ["self", "position"] [] := fun s us hK hl => match us, hl with | [a, u], _ => qxInvalidMove s a u hK
  have ZInvalidMove : ∀ base : Heap, RzC P w K mg base "InvalidMove" CInvalidMove "position" := fun base => ⟨⟨⟨_, _, _, _, xbV, xzInvalidMove.xc⟩, xzInvalidMove.typ⟩, PySem.W.mg_of X G xaInvalidMove, ⟨gInvalidMove, _, xiInvalidMove, xzInvalidMove.tI, ok_init1 (P := P) (w := w) (base := base) (st := s_InvalidMove_init) (dvs := [.non]) ⟨⟨_, _, _, _, _, _, _, _, _, _, rfl, xlInvalidMove, xcInvalidMove, .inr ⟨by simp, TxInvalidMove, _, [.none], tnxInvalidMove, rfl, xtInvalidMove, rfl, .cons rfl .nil⟩, .inl rfl⟩, xkInvalidMove⟩ xbV xzInvalidMove.xc xzInvalidMove.nF ⟨_, _, _, _, rfl⟩ sc_xInvalidMove (.inl rfl) (.inl rfl) (by decide +kernel) (by decide +kernel), bxInvalidMove⟩⟩
  have FxBlocked := fun_mk (st := s_Blocked_init) xlBlocked xcBlocked xkBlocked
  have bxBlocked := FxBlocked.binds (ps := ["self", "position"]) fun _ _ _ _ _ _ us hl => by obtain ⟨_, _, rfl⟩ := lenV2 hl; exact rfl
  have ZBlocked : ∀ base : Heap, RzC P w K mg base "Blocked" CBlocked "position" := fun base => ⟨⟨⟨_, _, _, _, xbR, xzBlocked.xc⟩, xzBlocked.typ⟩, PySem.W.mg_of X G xaBlocked, ⟨gBlocked, _, xiBlocked, xzBlocked.tI, ok_init1 (P := P) (w := w) (base := base) (st := s_Blocked_init) (dvs := []) ⟨⟨_, _, _, _, _, _, _, _, _, _, rfl, xlBlocked, xcBlocked, .inl ⟨rfl, rfl⟩, .inl rfl⟩, xkBlocked⟩ xbR xzBlocked.xc xzBlocked.nF ⟨_, _, _, _, rfl⟩ sc_xBlocked (.inl rfl) (.inl rfl) (by decide +kernel) (by decide +kernel), bxBlocked⟩⟩
  refine ⟨PySem.W.fnOf "law" "law" (defArgs s_law) (defBody s_law) (defScope s_law) .none kVlaw dclaw pmlaw anlaw cdlaw ctlaw, fun s v => .of_eq rfl, fun base _ _ => ?_⟩
  have Uis_integer : Use P w K mg base CX0 1 _ _ _ _ _ := ⟨ok_isInt Fis_integer N, PySem.W.mg_of X G ais_integer, kis_integer, bis_integer⟩
  have Uis_number_from : Use P w K mg base CX0 2 _ _ _ _ _ := ⟨ok_num Fis_number_from Uis_integer, PySem.W.mg_of X G ais_number_from, kis_number_from, bis_number_from⟩
  have Uis_pair_of_stations : Use P w K mg base CX0 3 _ _ _ _ _ := ⟨ok_pair Fis_pair_of_stations N Uis_number_from, PySem.W.mg_of X G ais_pair_of_stations, kis_pair_of_stations, bis_pair_of_stations⟩
  have Z : SizeOf P w K mg base C pMsize fMsize _ := ⟨cl, PMsize, ok_size FMsize N TX, bMsize⟩
  have Uis_station : Use P w K mg base CX0 3 _ _ _ _ _ := ⟨ok_isst Fis_station Uis_number_from Z, PySem.W.mg_of X G ais_station, kis_station, bis_station⟩
  have Ucheck_station : Use P w K mg base CX0 4 _ _ _ _ _ := ⟨ok_chk Fcheck_station Uis_station, PySem.W.mg_of X G acheck_station, kcheck_station, bcheck_station⟩
  have GP := ok_path (P := P) (w := w) (base := base) FMpath N TX Ucheck_station
  have Ujoined : Use P w K mg base CX0 1 _ _ _ _ _ := ⟨ok_join Fjoined, PySem.W.mg_of X G ajoined, kjoined, bjoined⟩
  have Ufirst_wrong_track : Use P w K mg base CX0 4 _ _ _ _ _ := ⟨ok_first Ffirst_wrong_track N Uis_pair_of_stations Ujoined, PySem.W.mg_of X G afirst_wrong_track, kfirst_wrong_track, bfirst_wrong_track⟩
  have Uneighbours_of : Use P w K mg base CX0 1 _ _ _ _ _ := ⟨ok_nbs Fneighbours_of N, PySem.W.mg_of X G aneighbours_of, kneighbours_of, bneighbours_of⟩
  have Uplaces_below_first : Use P w K mg base CX0 1 _ _ _ _ _ := ⟨ok_places Fplaces_below_first N, PySem.W.mg_of X G aplaces_below_first, kplaces_below_first, bplaces_below_first⟩
  have GI := fn_init (P := P) (w := w) (base := base) FMinit N TX Ufirst_wrong_track Uneighbours_of Uplaces_below_first
  have M : Mk K C fMinit := ⟨mk, aMinit, iMinit, kc⟩
  have GO : FnR P w K mg base CX0 7 fMof (spRof C) := ((ok_rof FMof N M GI).raw bMof .nil).imp fun vs H Q E h => by rw [List.append_nil]; exact h
  have Ulaw_begin : Use P w K mg base CX0 1 _ _ _ _ _ := ⟨ok_begin Flaw_begin, PySem.W.mg_of X G alaw_begin, klaw_begin, blaw_begin⟩
  have Ulaw_next : Use P w K mg base CX0 2 _ _ _ _ _ := ⟨ok_next Flaw_next ⟨PySem.W.mg_none_of X G z_len, PySem.W.mg_of X G alaw_mixed⟩ Flaw_mixed blaw_mixed, PySem.W.mg_of X G alaw_next, klaw_next, blaw_next⟩
  have Ulaw_tracks : Use P w K mg base CX0 3 _ _ _ _ _ := ⟨ok_trk Flaw_tracks N Ulaw_next, PySem.W.mg_of X G alaw_tracks, klaw_tracks, blaw_tracks⟩
  have Uis_standing : Use P w K mg base CX0 4 _ _ _ _ _ := ⟨ok_isstd Fis_standing Uis_pair_of_stations Z, PySem.W.mg_of X G ais_standing, kis_standing, bis_standing⟩
  have Ucheck_standing : Use P w K mg base CX0 5 _ _ _ _ _ := ⟨ok_chkstd Fcheck_standing Uis_standing, PySem.W.mg_of X G acheck_standing, kcheck_standing, bcheck_standing⟩
  have Ubody_of : Use P w K mg base CX0 6 _ _ _ _ _ := ⟨ok_body Fbody_of TX Ucheck_standing mMpath GP bMpath, PySem.W.mg_of X G abody_of, kbody_of, bbody_of⟩
  have EC : EndsC K mg := ⟨aEN, PySem.W.mg_of X G aENDS, fun H => .inr ⟨_, _, _, lENDS, rfl, rfl, by show 2 ≤ sizeLine; rw [sizeLine_eq]; decide, .cons ⟨_, rfl⟩ (.cons ⟨_, rfl⟩ .nil)⟩⟩
  have Uis_move : Use P w K mg base CX0 4 _ _ _ _ _ := ⟨ok_ismv Fis_move N EC Uis_station, PySem.W.mg_of X G ais_move, kis_move, bis_move⟩
  have XCM : UseX P w K mg base 5 "check_moves" fcheck_moves _ ["railway", "moves"] (spChkMv C CInvalidMove K) := ⟨ok_chkmv Fcheck_moves N Uis_move (ZInvalidMove base), PySem.W.mg_of X G acheck_moves, kcheck_moves, bcheck_moves⟩
  have Ubody_after : Use P w K mg base CX0 1 _ _ _ _ _ := ⟨ok_aft Fbody_after, PySem.W.mg_of X G abody_after, kbody_after, bbody_after⟩
  have Mn : MU P w K mg base C 5 "neighbours" fMneighbours _ ["self", "station"] (spNbr C) := ⟨mMneighbours, ok_nbr FMneighbours TX Ucheck_station, bMneighbours⟩
  have XAL : UseX P w K mg base 7 "bodies_along" fbodies_along _ ["railway", "standing", "moves"] (spAlong C CBlocked) := ⟨ok_along Fbodies_along N TX Ubody_of XCM Ubody_after Mn (ZBlocked base), PySem.W.mg_of X G abodies_along, kbodies_along, bbodies_along⟩
  have UMp : Use P w K mg base CX0 5 "check_moves" fcheck_moves _ ["railway", "moves"] (fun vs H Q _ => spChkMv C CInvalidMove K vs H Q L2.E0) := ⟨L2.TT.FnOk.plain XCM.G fun _ _ _ _ h => h, PySem.W.mg_of X G acheck_moves, kcheck_moves, bcheck_moves⟩
  have UAp : Use P w K mg base CX0 7 "bodies_along" fbodies_along _ ["railway", "standing", "moves"] (fun vs H Q _ => spAlong C CBlocked vs H Q L2.E0) := ⟨L2.TT.FnOk.plain XAL.G fun _ _ _ _ h => h, PySem.W.mg_of X G abodies_along, kbodies_along, bbodies_along⟩
  have XTC : TxtC K CC := ⟨⟨pgCC, hdCC, poCC, saCC⟩, nCCbodies, nCCmoves, nCCplaces, nCCleft, nCCused⟩
  have XTT : TxtT K CT := ⟨⟨pgCT, hdCT, poCT, saCT⟩, nCTrailway, nCTcourse⟩
  have bMCourseinit := FMCourseinit.binds (ps := ["self", "body", "left"]) (fun _ _ _ _ _ _ us hl => by obtain ⟨_, _, _, rfl⟩ := lenV3 hl; exact rfl)
  have bMTraininit := FMTraininit.binds (ps := ["self", "railway", "head", "tail"]) (fun _ _ _ _ _ _ us hl => by obtain ⟨_, _, _, _, rfl⟩ := lenV4 hl; exact rfl)
  have MkC : Mk K CC fMCourseinit := ⟨mkCC, aMCourseinit, iMCourseinit, kcCC⟩
  have MkT : Mk K CT fMTraininit := ⟨mkCT, aMTraininit, iMTraininit, kcCT⟩
  have MF : MU P w K mg base CC 1 "check_fuel" fMCoursecheck_fuel _ ["self", "count"] (spBurn CC) := ⟨mMCoursecheck_fuel, ok_cfu FMCoursecheck_fuel XTC, bMCoursecheck_fuel⟩
  have MB : MU P w K mg base CC 1 "_burn" fMCourseburn _ ["self", "count"] (spBurn CC) := ⟨mMCourseburn, ok_brn FMCourseburn XTC, bMCourseburn⟩
  have MG : MU P w K mg base CC 2 "go_on" fMCoursego_on _ ["self", "moves", "bodies"] (spGo CC K) := ⟨mMCoursego_on, ok_gon FMCoursego_on N XTC MB, bMCoursego_on⟩
  have GC := ok_cini (P := P) (w := w) (mg := mg) (base := base) FMCourseinit XTC
  have GT := ok_tini FMTraininit XTT MkC GC bMCourseinit (PySem.W.mg_of X G aCC) Ubody_of
  have PR : PrU P w K mg base CT "railway" 1 _ _ _ (spTRail CT) := ⟨XTT.cl, PMTrainrailway, ok_trl FMTrainrailway XTT, bMTrainrailway⟩
  have PB : PrU P w K mg base CT "body" 1 _ _ _ (spTBody CT CC) := ⟨XTT.cl, PMTrainbody, ok_tbd FMTrainbody XTT XTC, bMTrainbody⟩
  have PH : PrU P w K mg base CT "head" 3 _ _ _ (spTHead CT CC fun l => iv (hd0 l)) := ⟨XTT.cl, PMTrainhead, ok_thd FMTrainhead PB, bMTrainhead⟩
  have PT : PrU P w K mg base CT "tail" 3 _ _ _ (spTHead CT CC fun l => iv (lt0 l)) := ⟨XTT.cl, PMTraintail, ok_ttl FMTraintail PB, bMTraintail⟩
  have PN : PrU P w K mg base CT "span" 3 _ _ _ (spTHead CT CC spanV) := ⟨XTT.cl, PMTrainspan, ok_tsp FMTrainspan N PB, bMTrainspan⟩
  have PS : PrU P w K mg base CT "standing" 5 _ _ _ (spTSt CT CC) := ⟨XTT.cl, PMTrainstanding, ok_tst FMTrainstanding PH PT, bMTrainstanding⟩
  have PK : PrU P w K mg base CT "steps" 1 _ _ _ (spTSteps CT CC) := ⟨XTT.cl, PMTrainsteps, ok_tsk FMTrainsteps N XTT XTC, bMTrainsteps⟩
  have MA : MU P w K mg base CT 8 "run_all" fMTrainrun_all _ ["self", "moves"] (spRAll CT CC C) := ⟨mMTrainrun_all, ok_rall FMTrainrun_all N XTT XTC PR PS UMp UAp MF MG, bMTrainrun_all⟩
  have MH : MU P w K mg base CT 9 "ahead" fMTrainahead _ ["self", "station"] (spAhd CT CC C true) := ⟨mMTrainahead, ok_ahd FMTrainahead XTT MA, bMTrainahead⟩
  have MV : MU P w K mg base CT 9 "reverse" fMTrainreverse _ ["self", "station"] (spAhd CT CC C false) := ⟨mMTrainreverse, ok_rev FMTrainreverse XTT MA, bMTrainreverse⟩
  have FR := fn_run FMTrainrun XTT MA
  have mrun : Meth K CT "run" fMTrainrun := ⟨aMTrainrun, iMTrainrun, kMTrainrun⟩
  have MAk := L2.TT.Fun.kbM (ps := ["self", "moves"]) (ks := ["moves"]) (gg := id) FMTrainrun_all (fun _ _ _ _ _ _ _ ws hl => by obtain ⟨_, rfl⟩ := lenV1 hl; exact rfl)
  have MHk := L2.TT.Fun.kbM (ps := ["self", "station"]) (ks := ["station"]) (gg := id) FMTrainahead (fun _ _ _ _ _ _ _ ws hl => by obtain ⟨_, rfl⟩ := lenV1 hl; exact rfl)
  have kT := L2.TT.Fun.kbM (ps := ["self", "railway", "head", "tail"]) (ks := ["tail", "head", "railway"]) (gg := List.reverse) FMTraininit (fun _ _ _ _ _ _ _ ws hl => by obtain ⟨_, _, _, rfl⟩ := lenV3 hl; exact rfl)
  have Zt : PropU P w K mg base C pMtracks fMtracks _ "tracks" 1 (spTrk C) := ⟨cl, PMtracks, ok_trks FMtracks TX, bMtracks⟩
  have MS : MU P w K mg base C 3 "is_same" fMis_same _ ["self", "other"] (spSame C) := ⟨mMis_same, ok_same FMis_same N TX JK Zt, bMis_same⟩
  have Ulaw_place : Use P w K mg base CX0 3 _ _ _ _ _ := ⟨ok_plc Flaw_place N Ulaw_next, PySem.W.mg_of X G alaw_place, klaw_place, blaw_place⟩
  have Ulaw_links : Use P w K mg base CX0 1 _ _ _ _ _ := ⟨ok_links Flaw_links N, PySem.W.mg_of X G alaw_links, klaw_links, blaw_links⟩
  have Ulaw_route : Use P w K mg base CX0 1 _ _ _ _ _ := ⟨ok_rt1 Flaw_route, PySem.W.mg_of X G alaw_route, klaw_route, blaw_route⟩
  have Ulaw_fits : Use P w K mg base CX0 2 _ _ _ _ _ := ⟨ok_fts Flaw_fits Ulaw_route, PySem.W.mg_of X G alaw_fits, klaw_fits, blaw_fits⟩
  have Ulaw_gone : Use P w K mg base CX0 2 _ _ _ _ _ := ⟨ok_gne Flaw_gone Ulaw_route, PySem.W.mg_of X G alaw_gone, klaw_gone, blaw_gone⟩
  have Ulaw_chances : Use P w K mg base CX0 3 _ _ _ _ _ := ⟨ok_chn Flaw_chances Ulaw_fits, PySem.W.mg_of X G alaw_chances, klaw_chances, blaw_chances⟩
  have Ulaw_trip : Use P w K mg base CX0 4 _ _ _ _ _ := ⟨ok_trp Flaw_trip N Ulaw_chances Ulaw_gone Ulaw_next, PySem.W.mg_of X G alaw_trip, klaw_trip, blaw_trip⟩
  have Ulaw_ran : Use P w K mg base CX0 10 _ _ _ _ _ := ⟨ok_ran Flaw_ran N XTT mrun FR MA, PySem.W.mg_of X G alaw_ran, klaw_ran, blaw_ran⟩
  have Ulaw_done : Use P w K mg base CX0 11 _ _ _ _ _ := ⟨ok_don Flaw_done N XTT Ulaw_ran MA MH MV MAk MHk, PySem.W.mg_of X G alaw_done, klaw_done, blaw_done⟩
  have GSo : UseG P w K mg base 7 "_law_is_so" flaw_is_so _ ["engine", "links", "place", "row"] (spSo CT CC K) := ⟨ok_so Flaw_is_so N Ulaw_route PS PH PT PN PB PK, PySem.W.mg_of X G alaw_is_so, klaw_is_so, blaw_is_so⟩
  exact ok_law Flaw N TX cr cmMof GO Ulaw_begin Ulaw_tracks Ulaw_links Ulaw_place GSo Ulaw_next Ulaw_trip Ulaw_done MkT GT bMTraininit (PySem.W.mg_of X G aCT) kT PR MS
end TR
open PySem PySem.W PyProof.Rows
set_option maxRecDepth 100000 in
set_option maxHeartbeats 0 in
theorem PySem.Challenge.cw_treetrain_k41_trains_run_holds : PySem.Challenge.rw_treetrain_k41_trains_run.Holds := by
  w_on; o_law; k_head; (case hw => w_witness2)
  k_fill
  refine L2.TT.walkG_of (l := PySem.Challenge.rw_treetrain_k41_trains_run) (n := 63) (k := 12) (x := "script") (sp := fun w => TR.spLaw _) rfl (by decide) rfl ⟨rfl, by decide, by decide⟩ (fun w h Y => PySem.W.kIn_of Y) ?F (fun w H a ns hl _ hS => ⟨a, ns, rfl, hS, hl, fun _ => rfl⟩)
  case F =>
    intro w mg fa h KX G hmg
    refine' TR.all_mk KX G hmg ?ais_integer ?lis_integer ?cis_integer ?kis_integer ?ais_number_from ?lis_number_from ?cis_number_from ?kis_number_from ?ais_pair_of_stations ?lis_pair_of_stations ?cis_pair_of_stations ?kis_pair_of_stations ?ais_station ?lis_station ?cis_station ?kis_station ?acheck_station ?lcheck_station ?ccheck_station ?kcheck_station ?ajoined ?ljoined ?cjoined ?kjoined ?afirst_wrong_track ?lfirst_wrong_track ?cfirst_wrong_track ?kfirst_wrong_track ?aneighbours_of ?lneighbours_of ?cneighbours_of ?kneighbours_of ?aplaces_below_first ?lplaces_below_first ?cplaces_below_first ?kplaces_below_first ?alaw_begin ?llaw_begin ?claw_begin ?klaw_begin ?alaw_mixed ?llaw_mixed ?claw_mixed ?klaw_mixed ?alaw_next ?llaw_next ?claw_next ?klaw_next ?alaw_tracks ?llaw_tracks ?claw_tracks ?klaw_tracks ?ais_standing ?lis_standing ?cis_standing ?kis_standing ?acheck_standing ?lcheck_standing ?ccheck_standing ?kcheck_standing ?ais_move ?lis_move ?cis_move ?kis_move ?acheck_moves ?lcheck_moves ?ccheck_moves ?kcheck_moves ?abody_of ?lbody_of ?cbody_of ?kbody_of ?abodies_along ?lbodies_along ?cbodies_along ?kbodies_along ?abody_after ?lbody_after ?cbody_after ?kbody_after ?alaw_place ?llaw_place ?claw_place ?klaw_place ?alaw_links ?llaw_links ?claw_links ?klaw_links ?alaw_route ?llaw_route ?claw_route ?klaw_route ?alaw_fits ?llaw_fits ?claw_fits ?klaw_fits ?alaw_gone ?llaw_gone ?claw_gone ?klaw_gone ?alaw_chances ?llaw_chances ?claw_chances ?klaw_chances ?alaw_trip ?llaw_trip ?claw_trip ?klaw_trip ?alaw_ran ?llaw_ran ?claw_ran ?klaw_ran ?alaw_is_so ?llaw_is_so ?claw_is_so ?klaw_is_so ?alaw_done ?llaw_done ?claw_done ?klaw_done ?alaw ?llaw ?claw ?klaw ?aC ?cR ?cG ?cM ?pg ?hd ?po ?sa ?mk ?kc ?n0 ?n1 ?n2 ?n3 ?kca ?kob ?sg ?st ?aCT ?pgCT ?hdCT ?poCT ?saCT ?mkCT ?kcCT ?nCTrailway ?nCTcourse ?aCC ?pgCC ?hdCC ?poCC ?saCC ?mkCC ?kcCC ?nCCbodies ?nCCmoves ?nCCplaces ?nCCleft ?nCCused ?aMinit ?iMinit ?lMinit ?cMinit ?kMinit ?aMpath ?iMpath ?lMpath ?cMpath ?kMpath ?aMsize ?gMsize ?tMsize ?rMsizeh ?lMsize ?cMsize ?kMsize ?aMof ?rMofh ?iMof ?lMof ?cMof ?kMof ?aMneighbours ?iMneighbours ?lMneighbours ?cMneighbours ?kMneighbours ?aMtracks ?gMtracks ?tMtracks ?rMtracksh ?lMtracks ?cMtracks ?kMtracks ?aMis_same ?iMis_same ?lMis_same ?cMis_same ?kMis_same ?aMCourseinit ?iMCourseinit ?lMCourseinit ?cMCourseinit ?kMCourseinit ?aMCoursecheck_fuel ?iMCoursecheck_fuel ?lMCoursecheck_fuel ?cMCoursecheck_fuel ?kMCoursecheck_fuel ?aMCoursego_on ?iMCoursego_on ?lMCoursego_on ?cMCoursego_on ?kMCoursego_on ?aMCourseburn ?iMCourseburn ?lMCourseburn ?cMCourseburn ?kMCourseburn ?aMTraininit ?iMTraininit ?lMTraininit ?cMTraininit ?kMTraininit ?aMTrainrailway ?gMTrainrailway ?tMTrainrailway ?rMTrainrailwayh ?lMTrainrailway ?cMTrainrailway ?kMTrainrailway ?aMTrainhead ?gMTrainhead ?tMTrainhead ?rMTrainheadh ?lMTrainhead ?cMTrainhead ?kMTrainhead ?aMTraintail ?gMTraintail ?tMTraintail ?rMTraintailh ?lMTraintail ?cMTraintail ?kMTraintail ?aMTrainstanding ?gMTrainstanding ?tMTrainstanding ?rMTrainstandingh ?lMTrainstanding ?cMTrainstanding ?kMTrainstanding ?aMTrainspan ?gMTrainspan ?tMTrainspan ?rMTrainspanh ?lMTrainspan ?cMTrainspan ?kMTrainspan ?aMTrainbody ?gMTrainbody ?tMTrainbody ?rMTrainbodyh ?lMTrainbody ?cMTrainbody ?kMTrainbody ?aMTrainsteps ?gMTrainsteps ?tMTrainsteps ?rMTrainstepsh ?lMTrainsteps ?cMTrainsteps ?kMTrainsteps ?aMTrainahead ?iMTrainahead ?lMTrainahead ?cMTrainahead ?kMTrainahead ?aMTrainreverse ?iMTrainreverse ?lMTrainreverse ?cMTrainreverse ?kMTrainreverse ?aMTrainrun ?iMTrainrun ?lMTrainrun ?cMTrainrun ?kMTrainrun ?aMTrainrun_all ?iMTrainrun_all ?lMTrainrun_all ?cMTrainrun_all ?kMTrainrun_all ?z_RuntimeError ?z_ValueError ?z_len ?z_isinstance ?z_int ?z_bool ?z_tuple ?z_list ?z_sorted ?z_min ?z_max ?z_range ?z_enumerate ?z_repr ?z_set ?z_all ?z_any ?z_zip ?z_str ?xaInvalidMove ?xiInvalidMove ?xlInvalidMove ?xtInvalidMove ?xcInvalidMove ?xkInvalidMove ?xzInvalidMove ?xaBlocked ?xiBlocked ?xlBlocked ?xcBlocked ?xkBlocked ?xzBlocked ?aENDS ?lENDS
    (case ais_integer => first | k_is | kx_is)
    (case lis_integer => first | k_is | kx_is)
    (case cis_integer => first | k_is | kx_is)
    (case kis_integer => first | k_is | kx_is)
    (case ais_number_from => first | k_is | kx_is)
    (case lis_number_from => first | k_is | kx_is)
    (case cis_number_from => first | k_is | kx_is)
    (case kis_number_from => first | k_is | kx_is)
    (case ais_pair_of_stations => first | k_is | kx_is)
    (case lis_pair_of_stations => first | k_is | kx_is)
    (case cis_pair_of_stations => first | k_is | kx_is)
    (case kis_pair_of_stations => first | k_is | kx_is)
    (case ais_station => first | k_is | kx_is)
    (case lis_station => first | k_is | kx_is)
    (case cis_station => first | k_is | kx_is)
    (case kis_station => first | k_is | kx_is)
    (case acheck_station => first | k_is | kx_is)
    (case lcheck_station => first | k_is | kx_is)
    (case ccheck_station => first | k_is | kx_is)
    (case kcheck_station => first | k_is | kx_is)
    (case ajoined => first | k_is | kx_is)
    (case ljoined => first | k_is | kx_is)
    (case cjoined => first | k_is | kx_is)
    (case kjoined => first | k_is | kx_is)
    (case afirst_wrong_track => first | k_is | kx_is)
    (case lfirst_wrong_track => first | k_is | kx_is)
    (case cfirst_wrong_track => first | k_is | kx_is)
    (case kfirst_wrong_track => first | k_is | kx_is)
    (case aneighbours_of => first | k_is | kx_is)
    (case lneighbours_of => first | k_is | kx_is)
    (case cneighbours_of => first | k_is | kx_is)
    (case kneighbours_of => first | k_is | kx_is)
    (case aplaces_below_first => first | k_is | kx_is)
    (case lplaces_below_first => first | k_is | kx_is)
    (case cplaces_below_first => first | k_is | kx_is)
    (case kplaces_below_first => first | k_is | kx_is)
    (case alaw_begin => first | k_is | kx_is)
    (case llaw_begin => first | k_is | kx_is)
    (case claw_begin => first | k_is | kx_is)
    (case klaw_begin => first | k_is | kx_is)
    (case alaw_mixed => first | k_is | kx_is)
    (case llaw_mixed => first | k_is | kx_is)
    (case claw_mixed => first | k_is | kx_is)
    (case klaw_mixed => first | k_is | kx_is)
    (case alaw_next => first | k_is | kx_is)
    (case llaw_next => first | k_is | kx_is)
    (case claw_next => first | k_is | kx_is)
    (case klaw_next => first | k_is | kx_is)
    (case alaw_tracks => first | k_is | kx_is)
    (case llaw_tracks => first | k_is | kx_is)
    (case claw_tracks => first | k_is | kx_is)
    (case klaw_tracks => first | k_is | kx_is)
    (case ais_standing => first | k_is | kx_is)
    (case lis_standing => first | k_is | kx_is)
    (case cis_standing => first | k_is | kx_is)
    (case kis_standing => first | k_is | kx_is)
    (case acheck_standing => first | k_is | kx_is)
    (case lcheck_standing => first | k_is | kx_is)
    (case ccheck_standing => first | k_is | kx_is)
    (case kcheck_standing => first | k_is | kx_is)
    (case ais_move => first | k_is | kx_is)
    (case lis_move => first | k_is | kx_is)
    (case cis_move => first | k_is | kx_is)
    (case kis_move => first | k_is | kx_is)
    (case acheck_moves => first | k_is | kx_is)
    (case lcheck_moves => first | k_is | kx_is)
    (case ccheck_moves => first | k_is | kx_is)
    (case kcheck_moves => first | k_is | kx_is)
    (case abody_of => first | k_is | kx_is)
    (case lbody_of => first | k_is | kx_is)
    (case cbody_of => first | k_is | kx_is)
    (case kbody_of => first | k_is | kx_is)
    (case abodies_along => first | k_is | kx_is)
    (case lbodies_along => first | k_is | kx_is)
    (case cbodies_along => first | k_is | kx_is)
    (case kbodies_along => first | k_is | kx_is)
    (case abody_after => first | k_is | kx_is)
    (case lbody_after => first | k_is | kx_is)
    (case cbody_after => first | k_is | kx_is)
    (case kbody_after => first | k_is | kx_is)
    (case alaw_place => first | k_is | kx_is)
    (case llaw_place => first | k_is | kx_is)
    (case claw_place => first | k_is | kx_is)
    (case klaw_place => first | k_is | kx_is)
    (case alaw_links => first | k_is | kx_is)
    (case llaw_links => first | k_is | kx_is)
    (case claw_links => first | k_is | kx_is)
    (case klaw_links => first | k_is | kx_is)
    (case alaw_route => first | k_is | kx_is)
    (case llaw_route => first | k_is | kx_is)
    (case claw_route => first | k_is | kx_is)
    (case klaw_route => first | k_is | kx_is)
    (case alaw_fits => first | k_is | kx_is)
    (case llaw_fits => first | k_is | kx_is)
    (case claw_fits => first | k_is | kx_is)
    (case klaw_fits => first | k_is | kx_is)
    (case alaw_gone => first | k_is | kx_is)
    (case llaw_gone => first | k_is | kx_is)
    (case claw_gone => first | k_is | kx_is)
    (case klaw_gone => first | k_is | kx_is)
    (case alaw_chances => first | k_is | kx_is)
    (case llaw_chances => first | k_is | kx_is)
    (case claw_chances => first | k_is | kx_is)
    (case klaw_chances => first | k_is | kx_is)
    (case alaw_trip => first | k_is | kx_is)
    (case llaw_trip => first | k_is | kx_is)
    (case claw_trip => first | k_is | kx_is)
    (case klaw_trip => first | k_is | kx_is)
    (case alaw_ran => first | k_is | kx_is)
    (case llaw_ran => first | k_is | kx_is)
    (case claw_ran => first | k_is | kx_is)
    (case klaw_ran => first | k_is | kx_is)
    (case alaw_is_so => first | k_is | kx_is)
    (case llaw_is_so => first | k_is | kx_is)
    (case claw_is_so => first | k_is | kx_is)
    (case klaw_is_so => first | k_is | kx_is)
    (case alaw_done => first | k_is | kx_is)
    (case llaw_done => first | k_is | kx_is)
    (case claw_done => first | k_is | kx_is)
    (case klaw_done => first | k_is | kx_is)
    (case alaw => first | k_is | kx_is)
    (case llaw => first | k_is | kx_is)
    (case claw => first | k_is | kx_is)
    (case klaw => first | k_is | kx_is)
    (case aC => first | k_is | kx_is)
    (case cR => first | k_is | kx_is)
    (case cG => first | k_is | kx_is)
    (case cM => first | k_is | kx_is)
    (case pg => first | k_is | kx_is)
    (case hd => first | k_is | kx_is)
    (case po => first | k_is | kx_is)
    (case sa => first | k_is | kx_is)
    (case mk => first | k_is | kx_is)
    (case kc => first | k_is | kx_is)
    (case n0 => first | k_is | kx_is)
    (case n1 => first | k_is | kx_is)
    (case n2 => first | k_is | kx_is)
    (case n3 => first | k_is | kx_is)
    (case kca => first | k_is | kx_is)
    (case kob => first | k_is | kx_is)
    (case sg => first | k_is | kx_is)
    (case st => first | k_is | kx_is)
    (case aCT => first | k_is | kx_is)
    (case pgCT => first | k_is | kx_is)
    (case hdCT => first | k_is | kx_is)
    (case poCT => first | k_is | kx_is)
    (case saCT => first | k_is | kx_is)
    (case mkCT => first | k_is | kx_is)
    (case kcCT => first | k_is | kx_is)
    (case nCTrailway => first | k_is | kx_is)
    (case nCTcourse => first | k_is | kx_is)
    (case aCC => first | k_is | kx_is)
    (case pgCC => first | k_is | kx_is)
    (case hdCC => first | k_is | kx_is)
    (case poCC => first | k_is | kx_is)
    (case saCC => first | k_is | kx_is)
    (case mkCC => first | k_is | kx_is)
    (case kcCC => first | k_is | kx_is)
    (case nCCbodies => first | k_is | kx_is)
    (case nCCmoves => first | k_is | kx_is)
    (case nCCplaces => first | k_is | kx_is)
    (case nCCleft => first | k_is | kx_is)
    (case nCCused => first | k_is | kx_is)
    (case aMinit => first | k_is | kx_is)
    (case iMinit => first | k_is | kx_is)
    (case lMinit => first | k_is | kx_is)
    (case cMinit => first | k_is | kx_is)
    (case kMinit => first | k_is | kx_is)
    (case aMpath => first | k_is | kx_is)
    (case iMpath => first | k_is | kx_is)
    (case lMpath => first | k_is | kx_is)
    (case cMpath => first | k_is | kx_is)
    (case kMpath => first | k_is | kx_is)
    (case aMsize => first | k_is | kx_is)
    (case gMsize => first | k_is | kx_is)
    (case tMsize => first | k_is | kx_is)
    (case rMsizeh => first | k_is | kx_is)
    (case lMsize => first | k_is | kx_is)
    (case cMsize => first | k_is | kx_is)
    (case kMsize => first | k_is | kx_is)
    (case aMof => first | k_is | kx_is)
    (case rMofh => first | k_is | kx_is)
    (case iMof => first | k_is | kx_is)
    (case lMof => first | k_is | kx_is)
    (case cMof => first | k_is | kx_is)
    (case kMof => first | k_is | kx_is)
    (case aMneighbours => first | k_is | kx_is)
    (case iMneighbours => first | k_is | kx_is)
    (case lMneighbours => first | k_is | kx_is)
    (case cMneighbours => first | k_is | kx_is)
    (case kMneighbours => first | k_is | kx_is)
    (case aMtracks => first | k_is | kx_is)
    (case gMtracks => first | k_is | kx_is)
    (case tMtracks => first | k_is | kx_is)
    (case rMtracksh => first | k_is | kx_is)
    (case lMtracks => first | k_is | kx_is)
    (case cMtracks => first | k_is | kx_is)
    (case kMtracks => first | k_is | kx_is)
    (case aMis_same => first | k_is | kx_is)
    (case iMis_same => first | k_is | kx_is)
    (case lMis_same => first | k_is | kx_is)
    (case cMis_same => first | k_is | kx_is)
    (case kMis_same => first | k_is | kx_is)
    (case aMCourseinit => first | k_is | kx_is)
    (case iMCourseinit => first | k_is | kx_is)
    (case lMCourseinit => first | k_is | kx_is)
    (case cMCourseinit => first | k_is | kx_is)
    (case kMCourseinit => first | k_is | kx_is)
    (case aMCoursecheck_fuel => first | k_is | kx_is)
    (case iMCoursecheck_fuel => first | k_is | kx_is)
    (case lMCoursecheck_fuel => first | k_is | kx_is)
    (case cMCoursecheck_fuel => first | k_is | kx_is)
    (case kMCoursecheck_fuel => first | k_is | kx_is)
    (case aMCoursego_on => first | k_is | kx_is)
    (case iMCoursego_on => first | k_is | kx_is)
    (case lMCoursego_on => first | k_is | kx_is)
    (case cMCoursego_on => first | k_is | kx_is)
    (case kMCoursego_on => first | k_is | kx_is)
    (case aMCourseburn => first | k_is | kx_is)
    (case iMCourseburn => first | k_is | kx_is)
    (case lMCourseburn => first | k_is | kx_is)
    (case cMCourseburn => first | k_is | kx_is)
    (case kMCourseburn => first | k_is | kx_is)
    (case aMTraininit => first | k_is | kx_is)
    (case iMTraininit => first | k_is | kx_is)
    (case lMTraininit => first | k_is | kx_is)
    (case cMTraininit => first | k_is | kx_is)
    (case kMTraininit => first | k_is | kx_is)
    (case aMTrainrailway => first | k_is | kx_is)
    (case gMTrainrailway => first | k_is | kx_is)
    (case tMTrainrailway => first | k_is | kx_is)
    (case rMTrainrailwayh => first | k_is | kx_is)
    (case lMTrainrailway => first | k_is | kx_is)
    (case cMTrainrailway => first | k_is | kx_is)
    (case kMTrainrailway => first | k_is | kx_is)
    (case aMTrainhead => first | k_is | kx_is)
    (case gMTrainhead => first | k_is | kx_is)
    (case tMTrainhead => first | k_is | kx_is)
    (case rMTrainheadh => first | k_is | kx_is)
    (case lMTrainhead => first | k_is | kx_is)
    (case cMTrainhead => first | k_is | kx_is)
    (case kMTrainhead => first | k_is | kx_is)
    (case aMTraintail => first | k_is | kx_is)
    (case gMTraintail => first | k_is | kx_is)
    (case tMTraintail => first | k_is | kx_is)
    (case rMTraintailh => first | k_is | kx_is)
    (case lMTraintail => first | k_is | kx_is)
    (case cMTraintail => first | k_is | kx_is)
    (case kMTraintail => first | k_is | kx_is)
    (case aMTrainstanding => first | k_is | kx_is)
    (case gMTrainstanding => first | k_is | kx_is)
    (case tMTrainstanding => first | k_is | kx_is)
    (case rMTrainstandingh => first | k_is | kx_is)
    (case lMTrainstanding => first | k_is | kx_is)
    (case cMTrainstanding => first | k_is | kx_is)
    (case kMTrainstanding => first | k_is | kx_is)
    (case aMTrainspan => first | k_is | kx_is)
    (case gMTrainspan => first | k_is | kx_is)
    (case tMTrainspan => first | k_is | kx_is)
    (case rMTrainspanh => first | k_is | kx_is)
    (case lMTrainspan => first | k_is | kx_is)
    (case cMTrainspan => first | k_is | kx_is)
    (case kMTrainspan => first | k_is | kx_is)
    (case aMTrainbody => first | k_is | kx_is)
    (case gMTrainbody => first | k_is | kx_is)
    (case tMTrainbody => first | k_is | kx_is)
    (case rMTrainbodyh => first | k_is | kx_is)
    (case lMTrainbody => first | k_is | kx_is)
    (case cMTrainbody => first | k_is | kx_is)
    (case kMTrainbody => first | k_is | kx_is)
    (case aMTrainsteps => first | k_is | kx_is)
    (case gMTrainsteps => first | k_is | kx_is)
    (case tMTrainsteps => first | k_is | kx_is)
    (case rMTrainstepsh => first | k_is | kx_is)
    (case lMTrainsteps => first | k_is | kx_is)
    (case cMTrainsteps => first | k_is | kx_is)
    (case kMTrainsteps => first | k_is | kx_is)
    (case aMTrainahead => first | k_is | kx_is)
    (case iMTrainahead => first | k_is | kx_is)
    (case lMTrainahead => first | k_is | kx_is)
    (case cMTrainahead => first | k_is | kx_is)
    (case kMTrainahead => first | k_is | kx_is)
    (case aMTrainreverse => first | k_is | kx_is)
    (case iMTrainreverse => first | k_is | kx_is)
    (case lMTrainreverse => first | k_is | kx_is)
    (case cMTrainreverse => first | k_is | kx_is)
    (case kMTrainreverse => first | k_is | kx_is)
    (case aMTrainrun => first | k_is | kx_is)
    (case iMTrainrun => first | k_is | kx_is)
    (case lMTrainrun => first | k_is | kx_is)
    (case cMTrainrun => first | k_is | kx_is)
    (case kMTrainrun => first | k_is | kx_is)
    (case aMTrainrun_all => first | k_is | kx_is)
    (case iMTrainrun_all => first | k_is | kx_is)
    (case lMTrainrun_all => first | k_is | kx_is)
    (case cMTrainrun_all => first | k_is | kx_is)
    (case kMTrainrun_all => first | k_is | kx_is)
    (case z_RuntimeError => first | k_is | kx_is)
    (case z_ValueError => first | k_is | kx_is)
    (case z_len => first | k_is | kx_is)
    (case z_isinstance => first | k_is | kx_is)
    (case z_int => first | k_is | kx_is)
    (case z_bool => first | k_is | kx_is)
    (case z_tuple => first | k_is | kx_is)
    (case z_list => first | k_is | kx_is)
    (case z_sorted => first | k_is | kx_is)
    (case z_min => first | k_is | kx_is)
    (case z_max => first | k_is | kx_is)
    (case z_range => first | k_is | kx_is)
    (case z_enumerate => first | k_is | kx_is)
    (case z_repr => first | k_is | kx_is)
    (case z_set => first | k_is | kx_is)
    (case z_all => first | k_is | kx_is)
    (case z_any => first | k_is | kx_is)
    (case z_zip => first | k_is | kx_is)
    (case z_str => first | k_is | kx_is)
    (case xaInvalidMove => first | k_is | kx_is)
    (case xiInvalidMove => first | k_is | kx_is)
    (case xlInvalidMove => first | k_is | kx_is)
    (case xtInvalidMove => first | k_is | kx_is)
    (case xcInvalidMove => first | k_is | kx_is)
    (case xkInvalidMove => first | k_is | kx_is)
    (case xzInvalidMove => constructor <;> first | k_is | kx_is)
    (case xaBlocked => first | k_is | kx_is)
    (case xiBlocked => first | k_is | kx_is)
    (case xlBlocked => first | k_is | kx_is)
    (case xcBlocked => first | k_is | kx_is)
    (case xkBlocked => first | k_is | kx_is)
    (case xzBlocked => constructor <;> first | k_is | kx_is)
    (case aENDS => first | k_is | kx_is)
    (case lENDS => first | k_is | kx_is)
