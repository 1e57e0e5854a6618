import PyProof.Rows.All
import Wide.All
import OpenK.AllK
import Wide.FinOn
import PyProof.EqAt
import PyProof.EqKinds
import PyProof.TupleCall
import KE.KExcInit
import KE.KExcIs
import KE.KExcLine
import HandS.ForMost
import HandS.Exc
import HandS.ExcInit
import HandS.ExcValue
import HandS.Defaults
import HandS.IsInst
import KE.GoesEnum
import HandS.Iter
import HandS.Star
import HandS.ClsMeth
import HandS.CallLocal
import HandS.SetFor
import HandS.Property
import HandS.SortInts
import HandS.SortRule
import HandS.Comp
import HandS.Flow
import HandS.Conv
import HandS.Style
import PyProof.ReprLen
import PyProof.ReprRoads
import PyProof.ReprNest
import PyProof.ReprHeadsEmpty
import HandS.TupAny
import KE.KRevSl
import KE.KTryMore
import HandS.WordsExc
import HandS.Zip
import HandS.RaiseMore
import HandS.List
import HandS.Dict
import HandS.Walk
import HandS.NoneIn
import HandS.GenCall
import HandS.GenList
import HandS.Strs
import KE.RegKTryMore
import PySem.Challenge.RW_treetrain_k34_fewest_moves
set_option Elab.async false
set_option linter.all false
set_option maxRecDepth 100000
set_option maxHeartbeats 4000000
namespace L2.TT
open PySem PySem.Spec PyProof.Rows PySem.W
end L2.TT
namespace TR
open PySem PySem.Spec PyProof.Rows L2 L2.TT
def top (i : Nat) : Stmt := PySem.Challenge.pw_treetrain_k34_fewest_moves.main.body.getD i (.Pass ⟨0, 0, 0, 0⟩)
abbrev s_is_integer : Stmt := top 16
abbrev s_is_number_from : Stmt := top 17
abbrev s_is_pair_of_stations : Stmt := top 18
abbrev s_is_station : Stmt := top 19
abbrev s_check_station : Stmt := top 20
abbrev s_check_length : Stmt := top 21
abbrev s_layers : Stmt := top 23
abbrev s_depth_behind : Stmt := top 25
abbrev s_branch_depths : Stmt := top 26
abbrev s_longest_path : Stmt := top 27
abbrev s_layers_behind : Stmt := top 28
abbrev s_is_standing : Stmt := top 30
abbrev s_check_standing : Stmt := top 31
abbrev s_length_of : Stmt := top 32
abbrev s_body_of : Stmt := top 33
abbrev s_steps_from : Stmt := top 34
abbrev s_body_after : Stmt := top 35
abbrev s_is_pocket : Stmt := top 37
abbrev s_has_clamp : Stmt := top 38
abbrev s_climb : Stmt := top 39
abbrev s_pocket : Stmt := top 40
abbrev s_slack_and_depths : Stmt := top 41
abbrev s_next_part : Stmt := top 42
abbrev s_is_line : Stmt := top 44
abbrev s_is_divide : Stmt := top 45
abbrev s_mark : Stmt := top 46
abbrev s_find_divide : Stmt := top 47
abbrev s_least_way : Stmt := top 49
abbrev s_counts_to : Stmt := top 50
abbrev s_common_length : Stmt := top 52
abbrev s_reason_against : Stmt := top 53
abbrev s_are_opposed : Stmt := top 54
abbrev s_rise : Stmt := top 55
abbrev s_fewest_moves : Stmt := top 58
abbrev s_shortest_way : Stmt := top 59
abbrev s_check_way : Stmt := top 60
abbrev s_joined : Stmt := top 71
abbrev s_first_wrong_track : Stmt := top 72
abbrev s_Railway_init : Stmt := inClass (top 76) 1
abbrev s_Railway_of : Stmt := inClass (top 76) 2
abbrev s_Railway_size : Stmt := inClass (top 76) 7
abbrev s_Railway_neighbours : Stmt := inClass (top 76) 9
abbrev s_Railway_distance : Stmt := inClass (top 76) 10
abbrev s_Railway_path : Stmt := inClass (top 76) 11
abbrev s_neighbours_of : Stmt := top 78
abbrev s_places_below_first : Stmt := top 79
abbrev s_law_begin : Stmt := top 81
abbrev s_law_mixed : Stmt := top 82
abbrev s_law_next : Stmt := top 83
abbrev s_law_tracks : Stmt := top 84
abbrev s_law_links : Stmt := top 85
abbrev s_law_body : Stmt := top 86
abbrev s_law_steps : Stmt := top 87
abbrev s_law_search : Stmt := top 88
abbrev s_law_walked : Stmt := top 89
abbrev s_law_pair : Stmt := top 90
abbrev s_law_least : Stmt := top 91
abbrev s_law_right : Stmt := top 92
abbrev s_law : Stmt := top 93
abbrev NTr : List Str := ["draw", "most", "count", "shape", "found", "spot", "back", "other", "at"]
end TR
namespace L2.TT
open PySem PySem.Spec PyProof.Rows
set_option maxHeartbeats 1000000 in
theorem meets_enum1 {v : Value} {o : Obj} {H : Heap → Prop} (B : Begins v o H) :
    Meets (Builtin.«enumerate.__new__» ⟨[.type "enumerate", v], []⟩) (fun _ R s => H s.heap ∧
      R (.ok (.ret (.ref (s.heap.push o).objs.size))) { s with heap := (s.heap.push o).push { cls := .type "enumerate", data := .fields #[.none, .bool false, .ref s.heap.objs.size, rawInt 0, .none, .none] } }) :=
  .of_wp fun prog w A R s h => by
    obtain ⟨hp, g, d, tk, os⟩ := s; obtain ⟨h1, h⟩ := h
    have hsub := sub_enumerate
    have q1 : ∀ {A' : Around} {E : Value → Shared → Prop} {Q : Value → Shared → Prop}, Q (.ref hp.objs.size) ⟨hp.push o, g, d, tk, os⟩ → wpAny (model prog w) A' (pyIter v) Q E ⟨hp, g, d, tk, os⟩ :=
      fun q => B.iter prog w _ _ ⟨hp, g, d, tk, os⟩ _ h1 q
    wp_walk using q1
    refine wpAny_stack_any fun st => wpAny_pure ?_
    split
    · rename_i c _ _ _ _ _
      cases (c == Value.type "enumerate")
      · wp_walk using q1
        exact ⟨_, rfl, h⟩
      · wp_walk using q1
        exact ⟨_, rfl, h⟩
    · wp_walk using q1
      exact ⟨_, rfl, h⟩
theorem enum_begins1 {prog : Program} {w : World} {A : Around} {E : Value → Shared → Prop} {s : Shared} {v : Value} {o : Obj} {H : Heap → Prop} {Q : Value → Shared → Prop} (B : Begins v o H) (h1 : H s.heap)
    (h : ∀ h', IsEnum h' (s.heap.objs.size + 1) s.heap.objs.size 0 .none → h'.get? s.heap.objs.size = some o → h'.objs.size = s.heap.objs.size + 2 →
      (∀ b o, s.heap.get? b = some o → h'.get? b = some o) → Q (.ref (s.heap.objs.size + 1)) { s with heap := h' }) :
    wpAny (model prog w) A (call (.type "enumerate") [v]) Q E s := by
  refine callType_new F.called_enumerate (by decide) (F.typeCall_enumerate_1 _) (F.newCall_enumerate_1 _) (fun obj => F.args_object_init_2 obj _) F.entry_enumerate_new
    (meets_enum1 B) ⟨h1, ?_⟩
  have hz : (s.heap.push o).objs.size = s.heap.objs.size + 1 := Heap.size_push ..
  show _ ∧ _
  rw [hz]
  have he : IsEnum ((s.heap.push o).push { cls := .type "enumerate", data := .fields #[.none, .bool false, .ref s.heap.objs.size, rawInt 0, .none, .none] }) (s.heap.objs.size + 1) s.heap.objs.size 0 .none := by
    have := Heap.get?_push_size (s.heap.push o) (o := { cls := .type "enumerate", data := .fields #[.none, .bool false, .ref s.heap.objs.size, rawInt 0, .none, .none] }) rfl
    rw [hz] at this; exact this
  refine ⟨⟨_, he, rfl⟩, h _ he (Heap.get?_push_of_some _ (Heap.get?_push_size _ B.free)) (by rw [Heap.size_push, hz]) fun b o x => Heap.get?_push_of_some _ (Heap.get?_push_of_some _ x)⟩
/-- enumerate over a tuple -/
def IteT (K : PySem.W.Frag) (a : Addr) : It :=
  ⟨fun i H => ∃ (xs : List V) (x : V), SqT K H a xs ∧ xs[i]? = some x, fun i H v H' => ∃ T x, v = .ref T ∧ H T = none ∧ H' = upd H T (.tup [.int (i : Nat), x]) ∧ ∀ xs, SqT K H a xs → xs[i]? = some x, fun i H => ∃ xs : List V, SqT K H a xs ∧ xs.length ≤ i⟩
theorem turn_enumT {P : Program} {w : World} {K : PySem.W.Frag} {elts : List Expr} {kk : Nat} {tpos : Pos} (a e it : Addr) (hai : a ≠ it) (hea : e ≠ a) :
    Turn P w K (.Tuple elts kk tpos) (IteT K a) [e, it] e (fun i h => (∃ old, IsEnum h e it ((i : Nat) : Int) old) ∧ h.IsTupleIter it a i ∧ e ≠ it) where
  mem := by simp
  obj := fun i h st b hb => by
    obtain ⟨⟨old, he⟩, ⟨o, ho, hc, hd⟩, _⟩ := st
    have e' : b = e ∨ b = it := by simpa using hb
    rcases e' with z | z
    · rw [z]; exact ⟨_, he, fun v q => nomatch q⟩
    · rw [z]; exact ⟨o, ho, fun v q => by rw [hd] at q; cases q⟩
  keep := fun i h h' st k => let ⟨⟨old, he⟩, hi, hne⟩ := st; ⟨⟨old, k e (by simp) _ he⟩, hi.at fun o q => k it (by simp) o q, hne⟩
  item := by
    intro X hP hw hK hc i pins s σ H E I hf st hg
    subst hP hw hK
    obtain ⟨⟨old, he⟩, hit, hne⟩ := st
    obtain ⟨xs, x, hq, hx⟩ := hg
    obtain ⟨its, rv, p, hz⟩ := I.tuple hq
    obtain ⟨u, hu, ru⟩ := rv.get hx
    have hel : e < s.heap.objs.size := Heap.lt_size he
    have hil : it < s.heap.objs.size := by obtain ⟨_, q, _⟩ := hit; exact Heap.lt_size q
    have D := Draws.tuple (prog := X.prog) (w := X.w) (A := X.A.in1) (I.ok.hd hc) it a hai its.toArray
    have hlt : i < its.toArray.size := by
      have h2 := (List.getElem?_eq_some_iff.mp hu).1
      simpa using h2
    refine wpAny_pyNext_enum_itemD D he ⟨hit, p⟩ hlt hne (by simp only [List.mem_cons, List.not_mem_nil, or_false, not_or]; exact ⟨hne, hea⟩) fun x' h' tk hx' ho hit' hT hsz hk => ?_
    have exu : x' = u := by
      have e1 : its.toArray[i]? = some x' := hx'
      have e2 : its.toArray[i]? = some u := by simpa using hu
      exact Option.some.inj (e1.symm.trans e2)
    subst exu
    refine ⟨_, rfl, wpAny_letOwnedTupleGo_enum (s := { s with heap := h', toks := tk + 1 }) ho fun h'' he' sb => ?_⟩
    have hT2 : h''.get? s.heap.objs.size = some { cls := .type "tuple", data := .seq #[.int i tk, x'] } := (sb.2 _ (Nat.ne_of_gt hel)).trans hT
    have new : ObjOk X.prog X.w (upd H s.heap.objs.size (.tup [.int (i : Nat), x])) h'' s.heap.objs.size (.tup [.int (i : Nat), x]) :=
      ⟨by show 2 ≤ sizeLine; decide, [.int i tk, x'], .cons ⟨_, rfl⟩ (.cons ru .nil), ⟨_, hT2, rfl, _, rfl⟩⟩
    have I1 : Inv X pins σ (upd H s.heap.objs.size (.tup [.int (i : Nat), x])) { s with heap := h'', toks := tk + 1 } :=
      I.turnedNew (ch := [e, it]) (fun b ob hb q => (sb.2 b (fun z => hb (by simp [z]))).trans (hk b ob (fun z => hb (by simp [z])) (fun z => hb (by simp [z])) q)) hf (Nat.le_refl _) new
    refine ⟨.ref s.heap.objs.size, _, I1, rfl, ⟨_, x, rfl, I.hok.fresh (Nat.le_refl _), rfl, fun ys hy => by rw [I.tuple_inj hy hq]; exact hx⟩, ⟨⟨x', ?_⟩, hit'.1.at fun o q => (sb.2 it (Ne.symm hne)).trans q, hne⟩, fun b hb => ?_⟩
    · have e1 : ((i + 1 : Nat) : Int) = (i : Int) + 1 := by omega
      rw [e1]; exact he'
    · have hb' : b < s.heap.objs.size := by
        have e' : b = e ∨ b = it := by simpa using hb
        rcases e' with z | z
        · rw [z]; exact hel
        · rw [z]; exact hil
      rw [upd_ne (Nat.ne_of_lt hb')]
      exact (hf b hb).1
  done := by
    intro X hP hw hK hc i pins s σ H E I hf st hg
    subst hP hw hK
    obtain ⟨⟨old, he⟩, hit, hne⟩ := st
    obtain ⟨xs, hq, hx⟩ := hg
    obtain ⟨its, rv, p, hz⟩ := I.tuple hq
    obtain ⟨f0, f1, f2, f3, f4, f5⟩ := hf it (by simp)
    have hl := rv.length
    have hi2 : its.toArray[i]? = none := by simp; omega
    have D := Draws.tuple (prog := X.prog) (w := X.w) (A := X.A.in1) (I.ok.hd hc) it a hai its.toArray
    have hT : s.TypeIs (.ref e) "enumerate" := ⟨_, he, rfl⟩
    unfold pyNext
    refine wpAny_bind (wpAny_attempt (wpAny_callSpecial?_slot (name := Str.ofString "__next__") hT F.slot_enumerate_next
      (wpAny_call_entry F.slot_enumerate_next hT F.entry_enumerate_next ?_ (F.args_enumerate_next_1 _))))
    show wpAny _ _ (field (.ref e) 2 >>= _) _ _ _
    refine wpAny_bind (wpAny_field he rfl (x := .ref it) rfl ?_)
    refine wpAny_bind (wpAny_nextOf_tuple_end (I.ok.hd hc) hit p hi2 fun h' x he' hx' => ?_)
    obtain ⟨o, ho, hc'⟩ := hx'
    refine wpAny_bind (wpAny_isInstance (T := "StopIteration") (b := true) ⟨o, ho, hc'⟩ isSubtype_stop ?_)
    exact wpAny_pure ⟨rfl, I.turned (t' := s.toks) (fun b o hb q => he' b o hb q) f0 f1 f3 f4 f5⟩
  self := fun A i s Q E st h => let ⟨⟨_, he⟩, _⟩ := st; wpAny_pyIter_enum he h
def iEnumT (K : PySem.W.Frag) (ta : TA) : TI := fun σ H R => ta σ H fun vs H1 => ∃ a xs, vs = [.ref a] ∧ SqT K H1 a xs ∧ R (IteT K a) H1
theorem pi_enumT {X : Cx} {e : Expr} {ta : TA} {p pos tpos : Pos} {elts : List Expr} {kk : Nat} (hg : Gl X "enumerate") (hm : X.mg "enumerate" = none) (ha : PA X [e] ta) (hs : starEach [e] X.env = [(false, eval e X.env)] := by rfl) :
    PI X (.Tuple elts kk tpos) (.Call (.Name "enumerate" p) [e] [] pos) (iEnumT X.K ta) := by
  refine ⟨fun pins s σ H R I h => ?_⟩
  refine Call_ (ld_blt I hg hm boot_enumerate (PyProof.Rows.callWith_type1 (thn (ha.run pos pins s σ H _ I h) fun us s1 ⟨vs, H1, I1, r1, q1⟩ => ?_) hs rfl))
  obtain ⟨a, xs, ex, hq, q⟩ := q1
  subst ex
  cases r1 with
  | cons r rr =>
    cases rr
    cases r
    obtain ⟨its, rv, p', hz⟩ := I1.tuple hq
    have hal : a < s1.heap.objs.size := by obtain ⟨_, z, _⟩ := (show s1.heap.IsTuple a its.toArray from p'); exact Heap.lt_size z
    refine enum_begins1 (begins_tuple a its.toArray) p' fun h' he hit hsz hk => wpAny_pyIter_enum he ?_
    have I2 : Inv X pins σ H1 { s1 with heap := h' } := I1.kept (t' := s1.toks) hk
    refine ⟨s1.heap.objs.size + 1, [s1.heap.objs.size + 1, s1.heap.objs.size], _, _, H1, rfl, I2, turn_enumT a (s1.heap.objs.size + 1) s1.heap.objs.size (Nat.ne_of_lt hal) (Nat.ne_of_gt (Nat.lt_succ_of_lt hal)), ⟨⟨.none, he⟩, ⟨_, hit, rfl, rfl⟩, Nat.succ_ne_self _⟩, fun b hb => ?_, q⟩
    have e' : b = s1.heap.objs.size + 1 ∨ b = s1.heap.objs.size := by simpa using hb
    have hle : s1.heap.objs.size ≤ b := by
      rcases e' with z | z
      · rw [z]; exact Nat.le_add_right _ _
      · rw [z]; exact Nat.le_refl _
    exact I1.fpOk hle (I1.hok.fresh hle)
/-- for i, x in enumerate(t), t a tuple standing still -/
theorem for_enumT {K : PySem.W.Frag} {a : Addr} {xs : List V} {g : TG} {tb : TS} {D : Ends} {σ : L2.St} {H : Hp} (Pv : Nat → L2.St → Hp → Prop) (h0 : Pv 0 σ H) (hl : ∀ i σ H, i ≤ xs.length → Pv i σ H → SqT K H a xs)
    (hs : ∀ i x T σ H, xs[i]? = some x → Pv i σ H → H T = none → g (.ref T) σ (upd H T (.tup [.int (i : Nat), x])) fun σ2 H2 => tb { D with nx := Pv (i + 1), ct := Pv (i + 1), bk := D.nx } σ2 H2) (hd : ∀ σ H, Pv xs.length σ H → D.nx σ H) :
    ∃ W : Nat → Nat → L2.St → Hp → Prop, (∃ m, W 0 m σ H) ∧ ∀ i m σ H, W i m σ H →
      ((IteT K a).stop i H ∧ D.nx σ H) ∨ ((IteT K a).go i H ∧ ∃ N : L2.St → Hp → Prop, (∀ σ' H', N σ' H' → ∃ m', m' < m ∧ W (i + 1) m' σ' H') ∧ ∀ x H', (IteT K a).yld i H x H' → g x σ H' fun σ2 H2 => tb { D with nx := N, ct := N, bk := D.nx } σ2 H2) := by
  refine ⟨fun i m σ H => m = xs.length - i ∧ i ≤ xs.length ∧ Pv i σ H, ⟨xs.length, by simp, Nat.zero_le _, h0⟩, ?_⟩
  rintro i m σ H ⟨rfl, hi, p⟩
  have q := hl i σ H hi p
  by_cases hlt : i < xs.length
  · refine .inr ⟨⟨xs, xs[i], q, by simp [hlt]⟩, Pv (i + 1), fun σ' H' p' => ⟨xs.length - (i + 1), by omega, rfl, hlt, p'⟩, fun x H' y => ?_⟩
    obtain ⟨T, z, rfl, hT, rfl, y⟩ := y
    exact hs i z T σ H (y xs q) p hT
  · have e : i = xs.length := by omega
    subst e
    exact .inl ⟨⟨xs, q, Nat.le_refl _⟩, hd σ H p⟩
end L2.TT
namespace L2.TT
open PySem PySem.Spec PyProof.Rows
section
variable {prog : Program} {w : World} {A : Around} {E : Value → Shared → Prop} {s : Shared} {l : Addr} {xs : Array (Int × Tok)}
theorem iter_intTup {Q : Value → Shared → Prop} (hl : s.heap.IsTuple l (intItems xs))
    (h : ∀ s₂ : Shared, s₂ = { s with heap := s.heap.push { cls := .type "tuple_iterator", data := .fields #[.ref l, .int 0 0] } } →
      (s₂.heap.IsTupleIter s.heap.objs.size l 0 ∧ s₂.heap.IsTuple l (intItems xs)) → (∀ b ∈ [s.heap.objs.size, l], b < s₂.heap.objs.size) → l ≠ s.heap.objs.size → Q (.ref s.heap.objs.size) s₂) :
    wpAny (model prog w) A (pyIter (.ref l)) Q E s := by
  have hlt : l < s.heap.objs.size := by obtain ⟨_, e, _⟩ := hl; exact Heap.lt_size e
  refine wpAny_pyIter_tuple hl (h _ rfl ⟨⟨_, Heap.get?_push_size _ rfl, rfl, rfl⟩, hl.at fun o e => Heap.get?_push_of_some _ e⟩ (fun b hb => ?_) (Nat.ne_of_lt hlt))
  show b < (s.heap.push _).objs.size
  rw [Heap.size_push]
  rcases List.mem_cons.mp hb with rfl | hb
  · exact Nat.lt_succ_self _
  · rcases List.mem_cons.mp hb with rfl | hb
    · exact Nat.lt_succ_of_lt hlt
    · cases hb
theorem old_kept2 {o : Obj} {h' : Heap} (hk : ∀ b u, b ∉ [s.heap.objs.size] → (s.heap.push o).get? b = some u → h'.get? b = some u) :
    ∀ b u, s.heap.get? b = some u → h'.get? b = some u := fun b u e => by
  refine hk b u (fun hm => ?_) (Heap.get?_push_of_some _ e)
  rcases List.mem_cons.mp hm with e1 | hm
  · exact absurd (e1 ▸ Heap.lt_size e) (Nat.lt_irrefl _)
  · cases hm
theorem max_intTup {Q : Value → Shared → Prop} (hh : A.handled = none) (hl : s.heap.IsTuple l (intItems xs)) (hne : 0 < xs.size)
    (h : ∀ v h' tk, (intItems xs)[argBest (fun i j => decide (numAt xs i > numAt xs j)) (xs.size - 1)]? = some v → (∀ b o, s.heap.get? b = some o → h'.get? b = some o) → Q v { s with heap := h', toks := tk }) :
    wpAny (model prog w) A (call (.builtin "max") [.ref l]) Q E s := by
  refine call_max_walk (iter_intTup hl fun s₂ e st hfp hlI => ?_)
  subst e
  refine ⟨_, _, _, _, _, _, _, rfl, Walks.tuple (A := A.in1) hh _ l hlI (intItems xs), st, hfp, by simpa [intItems] using hne, CmpOf.ints_gt (numAt xs) (fun _ _ => intItems_at), fun v h' tk hP hk => ?_⟩
  exact h v h' tk (by simpa [intItems] using hP) (old_kept2 hk)
theorem min_intTup {Q : Value → Shared → Prop} (hh : A.handled = none) (hl : s.heap.IsTuple l (intItems xs)) (hne : 0 < xs.size)
    (h : ∀ v h' tk, (intItems xs)[argBest (fun i j => decide (numAt xs i < numAt xs j)) (xs.size - 1)]? = some v → (∀ b o, s.heap.get? b = some o → h'.get? b = some o) → Q v { s with heap := h', toks := tk }) :
    wpAny (model prog w) A (call (.builtin "min") [.ref l]) Q E s := by
  refine call_min_walk (iter_intTup hl fun s₂ e st hfp hlI => ?_)
  subst e
  refine ⟨_, _, _, _, _, _, _, rfl, Walks.tuple (A := A.in1) hh _ l hlI (intItems xs), st, hfp, by simpa [intItems] using hne, CmpOf.ints_lt (numAt xs) (fun _ _ => intItems_at), fun v h' tk hP hk => ?_⟩
  exact h v h' tk (by simpa [intItems] using hP) (old_kept2 hk)
end
section
variable {X : Cx}
/-- max(t), min(t), t a pair of ints -/
def rMaxP (K : PySem.W.Frag) : List V → Hp → VK → Prop := fun vs H Q => ∃ (a : Addr) (i j : Int), vs = [V.ref a] ∧ SqT K H a [.int i, .int j] ∧ Q (.int (max i j)) H
def rMinP (K : PySem.W.Frag) : List V → Hp → VK → Prop := fun vs H Q => ∃ (a : Addr) (i j : Int), vs = [V.ref a] ∧ SqT K H a [.int i, .int j] ∧ Q (.int (min i j)) H
theorem cr_maxP (hc : X.calm = true) : CallR X (.builtin "max") (rMaxP X.K) := by
  intro pins s σ H vs us Q I r h
  obtain ⟨a, i, j, rfl, hs, q⟩ := h
  obtain ⟨its, rv, hl, _⟩ := I.tuple hs
  rw [Vals.ref1 r]
  cases rv with
  | cons r1 rr =>
    cases rr with
    | cons r2 rr =>
      cases rr
      obtain ⟨t1, rfl⟩ := r1
      obtain ⟨t2, rfl⟩ := r2
      have hl2 : s.heap.IsTuple a (intItems #[(i, t1), (j, t2)]) := by rw [show intItems #[(i, t1), (j, t2)] = #[Value.int i t1, Value.int j t2] by simp [intItems]]; exact hl
      refine max_intTup (I.ok.hd hc) hl2 (show 0 < 2 by decide) fun v h' tk hv hk => ?_
      have e0 : numAt #[(i, t1), (j, t2)] 0 = i := rfl
      have e1 : numAt #[(i, t1), (j, t2)] 1 = j := rfl
      have hv2 := hv
      obtain ⟨t, ev⟩ := intItems_at hv
      obtain ⟨h1, h2⟩ := argBest_gt (numAt #[(i, t1), (j, t2)]) 1
      have b0 := h2 0 (by omega)
      have b1 := h2 1 (by omega)
      subst ev
      refine ⟨.int _, H, I.kept hk, ⟨t, rfl⟩, ?_⟩
      have eb : argBest (fun i_1 j_1 => decide (numAt #[(i, t1), (j, t2)] i_1 > numAt #[(i, t1), (j, t2)] j_1)) (#[(i, t1), (j, t2)].size - 1) = 0 ∨ argBest (fun i_1 j_1 => decide (numAt #[(i, t1), (j, t2)] i_1 > numAt #[(i, t1), (j, t2)] j_1)) (#[(i, t1), (j, t2)].size - 1) = 1 := by
        show argBest _ 1 = 0 ∨ argBest _ 1 = 1
        omega
      rw [e0] at b0
      rw [e1] at b1
      have em : numAt #[(i, t1), (j, t2)] (argBest (fun i_1 j_1 => decide (numAt #[(i, t1), (j, t2)] i_1 > numAt #[(i, t1), (j, t2)] j_1)) (#[(i, t1), (j, t2)].size - 1)) = max i j := by
        have z : ∀ k, k = 0 ∨ k = 1 → numAt #[(i, t1), (j, t2)] k = i ∨ numAt #[(i, t1), (j, t2)] k = j := fun k hk => by
          rcases hk with rfl | rfl
          · exact .inl e0
          · exact .inr e1
        have z1 := z _ eb
        have b0' : i ≤ numAt #[(i, t1), (j, t2)] (argBest (fun i_1 j_1 => decide (numAt #[(i, t1), (j, t2)] i_1 > numAt #[(i, t1), (j, t2)] j_1)) (#[(i, t1), (j, t2)].size - 1)) := b0
        have b1' : j ≤ numAt #[(i, t1), (j, t2)] (argBest (fun i_1 j_1 => decide (numAt #[(i, t1), (j, t2)] i_1 > numAt #[(i, t1), (j, t2)] j_1)) (#[(i, t1), (j, t2)].size - 1)) := b1
        generalize numAt #[(i, t1), (j, t2)] (argBest (fun i_1 j_1 => decide (numAt #[(i, t1), (j, t2)] i_1 > numAt #[(i, t1), (j, t2)] j_1)) (#[(i, t1), (j, t2)].size - 1)) = m at z1 b0' b1'
        omega
      rw [em]
      exact q
theorem cr_minP (hc : X.calm = true) : CallR X (.builtin "min") (rMinP X.K) := by
  intro pins s σ H vs us Q I r h
  obtain ⟨a, i, j, rfl, hs, q⟩ := h
  obtain ⟨its, rv, hl, _⟩ := I.tuple hs
  rw [Vals.ref1 r]
  cases rv with
  | cons r1 rr =>
    cases rr with
    | cons r2 rr =>
      cases rr
      obtain ⟨t1, rfl⟩ := r1
      obtain ⟨t2, rfl⟩ := r2
      have hl2 : s.heap.IsTuple a (intItems #[(i, t1), (j, t2)]) := by rw [show intItems #[(i, t1), (j, t2)] = #[Value.int i t1, Value.int j t2] by simp [intItems]]; exact hl
      refine min_intTup (I.ok.hd hc) hl2 (show 0 < 2 by decide) fun v h' tk hv hk => ?_
      have e0 : numAt #[(i, t1), (j, t2)] 0 = i := rfl
      have e1 : numAt #[(i, t1), (j, t2)] 1 = j := rfl
      obtain ⟨t, ev⟩ := intItems_at hv
      obtain ⟨h1, h2⟩ := argBest_lt (numAt #[(i, t1), (j, t2)]) 1
      have b0 := h2 0 (by omega)
      have b1 := h2 1 (by omega)
      subst ev
      refine ⟨.int _, H, I.kept hk, ⟨t, rfl⟩, ?_⟩
      have eb : argBest (fun i_1 j_1 => decide (numAt #[(i, t1), (j, t2)] i_1 < numAt #[(i, t1), (j, t2)] j_1)) (#[(i, t1), (j, t2)].size - 1) = 0 ∨ argBest (fun i_1 j_1 => decide (numAt #[(i, t1), (j, t2)] i_1 < numAt #[(i, t1), (j, t2)] j_1)) (#[(i, t1), (j, t2)].size - 1) = 1 := by
        show argBest _ 1 = 0 ∨ argBest _ 1 = 1
        omega
      rw [e0] at b0
      rw [e1] at b1
      have em : numAt #[(i, t1), (j, t2)] (argBest (fun i_1 j_1 => decide (numAt #[(i, t1), (j, t2)] i_1 < numAt #[(i, t1), (j, t2)] j_1)) (#[(i, t1), (j, t2)].size - 1)) = min i j := by
        have z : ∀ k, k = 0 ∨ k = 1 → numAt #[(i, t1), (j, t2)] k = i ∨ numAt #[(i, t1), (j, t2)] k = j := fun k hk => by
          rcases hk with rfl | rfl
          · exact .inl e0
          · exact .inr e1
        have z1 := z _ eb
        have b0' : numAt #[(i, t1), (j, t2)] (argBest (fun i_1 j_1 => decide (numAt #[(i, t1), (j, t2)] i_1 < numAt #[(i, t1), (j, t2)] j_1)) (#[(i, t1), (j, t2)].size - 1)) ≤ i := b0
        have b1' : numAt #[(i, t1), (j, t2)] (argBest (fun i_1 j_1 => decide (numAt #[(i, t1), (j, t2)] i_1 < numAt #[(i, t1), (j, t2)] j_1)) (#[(i, t1), (j, t2)].size - 1)) ≤ j := b1
        generalize numAt #[(i, t1), (j, t2)] (argBest (fun i_1 j_1 => decide (numAt #[(i, t1), (j, t2)] i_1 < numAt #[(i, t1), (j, t2)] j_1)) (#[(i, t1), (j, t2)].size - 1)) = m at z1 b0' b1'
        omega
      rw [em]
      exact q
/-- a target o.f -/
def gFld (K : PySem.W.Frag) (ta : TE) (f : Str) : TG := fun y σ H Q => ta σ H fun x H2 => ∃ a C dx fs, x = .ref a ∧ H2 a = some (.ins C dx fs) ∧ Cls K C ∧ NoAttr K C f ∧ fs.length < 1000 ∧ Q σ (upd H2 a (.ins C dx (putF f y fs)))
theorem pg_fld {o : Expr} {f : Str} {pos : Pos} {ta : TE} (ho : PE X o ta) : PG X (.Attribute o f pos) (gFld X.K ta f) := by
  refine ⟨fun pins s σ H v u Q I r h => ?_⟩
  rw [arm_assign_Attribute]
  refine wpAny_bind (wpAny_holding (thn (ho.run pins s σ H _ I h) fun ov s1 ⟨x, H1, I1, r1, a, C, dx, fs, ex, ea, c, n, l, q⟩ => ?_))
  subst ex
  obtain rfl : ov = Value.ref a := r1
  refine wpAny_bind (wpAny_standAt (wpAny_bind (wpAny_holding (setattr_ok I1 ea c n l r fun s2 I2 => ?_))))
  exact wpAny_release ⟨σ, _, I2, q⟩
end
end L2.TT
namespace L2.TT
open PySem PySem.Spec PyProof.Rows L2 StX
/-- x(*y), x a local name that holds the class at C -/
def tMakeLS (i : Nat) (K : PySem.W.Frag) (C : Addr) (sp : Sp) (E : XK) (te : TE) : TE := fun σ H Q => σ[i]? = some (some (.ref C)) ∧ te σ H fun y H1 => ∃ a xs, y = V.ref a ∧ (SqT K H1 a xs ∨ SqL K H1 a xs) ∧
  ∀ o dx, H1 o = Option.none → H1 dx = Option.none → dx ≠ o → sp (V.ref o :: xs) (upd (upd H1 dx (.own o)) o (.ins C dx [])) (fun v H2 => v = .non ∧ Q (.ref o) H2) E
section
variable {X : Cx} {CX : CXT} {k i : Nat} {f C : Addr} {sp : Sp} {E : XK} {x : Str} {e : Expr} {te : TE} {p sp_ pos : Pos}
theorem pe_makeLS (M : Mk X.K C f) (F : FnR X.prog X.w X.K X.mg X.base CX k f sp) (hr : Room (k + 1) X.A) (hN : X.N[i]? = some x) (hv : Vis X.env.scope x) (hx : Passes CX X E) (he : PE X e te)
    (hdb : (x == ("__debug__" : Str)) = false := by decide) (hcd : (x == ("__classdict__" : Str)) = false := by decide)
    (hst : starEach [.Starred e sp_] X.env = [(true, eval e X.env)] := by rfl) : PE X (.Call (.Name x p) [.Starred e sp_] [] pos) (tMakeLS i X.K C sp E te) := by
  refine ⟨fun pins s σ H Q I h => ?_⟩
  obtain ⟨hs, ht⟩ := h
  refine wpAny_Call_Name_kw (thn ((pe_var (pos := p) hN hv hdb hcd).run pins s σ H (fun v H1 => v = .ref C ∧ H1 = H) I ⟨.ref C, hs, rfl, rfl⟩) fun u s1 ⟨v, H1, I1, r1, q1⟩ => ?_)
  obtain ⟨rfl, rfl⟩ := q1
  cases r1
  refine PySem.W.callWith_S (h₀ := X.base) I.ok.mod.kin M.kp (thn (he.run pins s1 σ _ _ I1 ht) fun v s2 ⟨y, H2, I2, ry, a, xs, ey, hxs, q⟩ => ?_) hst
  subst ey
  obtain rfl : v = Value.ref a := ry
  exact star_any I2 hxs fun us s3 I3 rv => ⟨I3.kIn, run_makeR M F hr hx I3 rv q⟩
end
end L2.TT
namespace L2.TT
open PySem PySem.Spec PyProof.Rows
section
variable {X : Cx} {pins : List (Addr × Obj)} {σ : St} {H : Hp} {s : Shared}
/-- xs + ys, two lists that may be known ones -/
def rCatL (K : PySem.W.Frag) : R2 := fun x y H Q => ∃ l b xs zs, x = .ref l ∧ y = .ref b ∧ SqL K H l xs ∧ SqL K H b zs ∧ xs.length + zs.length ≤ sizeLine ∧ ∀ p, H p = none → Q (.ref p) (upd H p (.lst (xs ++ zs)))
theorem op_catL : OpR X (binaryOp .Add) (rCatL X.K) := by
  intro pins s σ H x y v u Q I rx ry h
  obtain ⟨l, b, xs, zs, rfl, rfl, h1, h2, hz, q⟩ := h
  cases rx
  cases ry
  obtain ⟨its, r1, ⟨⟨c1, d1, e1, sl1⟩, n1, ho1, hc1, hd1, he1⟩, _⟩ := I.list h1
  obtain ⟨jts, r2, ⟨⟨c2, d2, e2, sl2⟩, n2, ho2, hc2, hd2, he2⟩, _⟩ := I.list h2
  simp only at hc1 he1 hc2 he2
  subst hc1 he1 hc2 he2
  have l1 := r1.length
  have l2 := r2.length
  refine concat_meets ⟨_, ho1, rfl⟩ ⟨_, ho2, rfl⟩ noFill_list_add seq_list_add PySem.F.slot_list_add PySem.F.entry_list_add (PySem.F.args_list_add_2 _ _) (list_addW l b its.toArray jts.toArray n1 n2 d1 d2 sl1 sl2 (by rw [List.size_toArray, List.size_toArray]; omega)) ⟨ho1, ho2, ?_⟩
  have ea : its.toArray ++ jts.toArray = (its ++ jts).toArray := by simp
  rw [ea]
  exact ⟨.ref _, _, I.lnew (t' := s.toks) (r1.append r2) (by rw [List.length_append]; omega), rfl, q _ I.fresh⟩
end
end L2.TT
namespace TR
open PySem PySem.Spec PyProof.Rows L2 L2.TT
/-- a def of the module and its promise -/
structure Use (P : Program) (w : World) (K : PySem.W.Frag) (mg : Str → Option Value) (base : Heap) (CX : CXT) (k : Nat) (x : Str) (f : Addr) (fd : FuncData) (ps : List Str) (sp : Sp) : Prop where
  G : FnOk P w K mg base CX k f fd ps sp
  m : mg x = some (.ref f)
  kp : PySem.W.keepIn K (.ref f) = true
  b : Binds K fd ps []
section
variable {X : Cx} {k : Nat} {x : Str} {f : Addr} {fd : FuncData} {ps : List Str} {sp : Sp} {e : Expr} {es : List Expr} {t : TA} {p pos : Pos}
theorem pe_use (U : Use X.prog X.w X.K X.mg X.base CX0 k x f fd ps sp) (hr : Room k X.A) (hg : Gl X x) (ha : PA X (e :: es) t) (hd : (x == ("__debug__" : Str)) = false := by decide)
    (he : starEach (e :: es) X.env = (false, eval e X.env) :: starEach es X.env := by rfl) (hpl : (backTo pos (starEach es X.env)).any (·.1) = false := by rfl) :
    PE X (.Call (.Name x p) (e :: es) [] pos) (tCall sp [] (fun _ _ _ => False) t) :=
  pe_call (p := p) (pos := pos) U.G hr hg U.m U.kp U.b .nil pass0 ha hd he hpl
end
/-- what is never reached -/
theorem ps_never {X : Cx} {st : Stmt} : PS X st (fun _ _ _ => False) := ⟨fun _ _ _ _ _ _ h => h.elim⟩
theorem pss_never {X : Cx} {st : Stmt} : PSs X [st] (fun _ _ _ => False) := pss_one ps_never
/-- the built-in names -/
structure Nm (mg : Str → Option Value) : Prop where
  len : mg "len" = none
  isi : mg "isinstance" = none
  int : mg "int" = none
  bool : mg "bool" = none
  tuple : mg "tuple" = none
  list : mg "list" = none
  sorted : mg "sorted" = none
  min : mg "min" = none
  max : mg "max" = none
  range : mg "range" = none
  enum : mg "enumerate" = none
  repr : mg "repr" = none
  set : mg "set" = none
  all : mg "all" = none
  any : mg "any" = none
  zip : mg "zip" = none
  str : mg "str" = none
/-- no int, and not a bool either -/
def NI (K : PySem.W.Frag) (H : Hp) (v : V) : Prop := (∃ b, v = .bl b) ∨ ∃ n : String, TyX K H v (.type n) ∧ kitB n "int" = some false
/-- one value, an int or none -/
def IV (K : PySem.W.Frag) (H : Hp) (v : V) : Prop := (∃ i, v = .int i) ∨ NI K H v
def asInt : V → Option Int
  | .int i => some i
  | _ => none
theorem NI.as {K : PySem.W.Frag} {H : Hp} {v : V} (h : NI K H v) : asInt v = none := by
  rcases h with ⟨b, rfl⟩ | ⟨n, t, kb⟩
  · rfl
  · cases v with
    | int i =>
      have e : (Value.type n) = .type "int" := by
        cases t with
        | base h => cases h; rfl
      cases e
      exact absurd kb (by decide +kernel)
    | _ => rfl
def spIsInt (K : PySem.W.Frag) : Sp := fun vs H Q _ => ∃ v, vs = [v] ∧ IV K H v ∧ Q (.bl (asInt v).isSome) H
def inR (v : V) (lo hi : Int) : Bool := match asInt v with
  | some i => decide (lo ≤ i) && decide (i ≤ hi)
  | none => false
def spNumFrom (K : PySem.W.Frag) : Sp := fun vs H Q _ => ∃ v lo hi, vs = [v, .int lo, .int hi] ∧ IV K H v ∧ Q (.bl (inR v lo hi)) H
theorem bit_int {K : PySem.W.Frag} : PySem.W.kitOne K (.type "bool") (.type "int") = some true := kit_ty (by decide +kernel)
theorem bit_bool {K : PySem.W.Frag} : PySem.W.kitOne K (.type "bool") (.type "bool") = some true := kit_ty (by decide +kernel)
theorem int_int {K : PySem.W.Frag} : PySem.W.kitOne K (.type "int") (.type "int") = some true := kit_ty (by decide +kernel)
theorem int_bool {K : PySem.W.Frag} : PySem.W.kitOne K (.type "int") (.type "bool") = some false := kit_ty (by decide +kernel)
section
variable {P : Program} {w : World} {K : PySem.W.Frag} {mg : Str → Option Value} {base : Heap}
theorem sc_isInt : FnScope ["value"] ["value"] (defScope s_is_integer) := ⟨rfl, rfl, rfl, by decide +kernel, rfl, by decide +kernel, by decide +kernel⟩
theorem ok_isInt {f : Addr} {fd : FuncData} (F : Fun K "is_integer" "is_integer" s_is_integer f fd) (N : Nm mg) : FnOk P w K mg base CX0 1 f fd ["value"] (spIsInt K) := by
  refine F.ok sc_isInt (fun vs H Q E h => ?_) (fun cdv A outer s H vs Q E hr h => ?_)
  · obtain ⟨v, rfl, _⟩ := h
    rfl
  · obtain ⟨v, rfl, hv, k⟩ := h
    refine ⟨_, pss_one (ps_ret (pe_and (pe_callB call_isi (by rfl) N.isi boot_isinstance (pa_cons (pv 0) (pa_cons (pe_bltn (v := .ty "int") (by rfl) N.int (by decide +kernel) rfl) pa_nil)))
      (pe_one (pe_not (pe_callB call_isi (by rfl) N.isi boot_isinstance (pa_cons (pv 0) (pa_cons (pe_bltn (v := .ty "bool") (by rfl) N.bool (by decide +kernel) rfl) pa_nil))))))), ?_⟩
    rcases hv with ⟨i, rfl⟩ | hv
    · refine ⟨_, rfl, _, _, _, _, true, rfl, .ty _, .base (.int i), int_int, true, rfl, ?_⟩
      refine iteT ?_
      exact ⟨_, rfl, _, _, _, _, false, rfl, .ty _, .base (.int i), int_bool, false, rfl, k⟩
    · have ka : (asInt v).isSome = false := by rw [hv.as]; rfl
      rw [ka] at k
      rcases hv with ⟨b, rfl⟩ | ⟨n, t, kb⟩
      · refine ⟨_, rfl, _, _, _, _, true, rfl, .ty _, .base (.bl b), bit_int, true, rfl, ?_⟩
        refine iteT ?_
        exact ⟨_, rfl, _, _, _, _, true, rfl, .ty _, .base (.bl b), bit_bool, true, rfl, k⟩
      · refine ⟨_, rfl, _, _, _, _, false, rfl, .ty _, t, kit_ty kb, false, rfl, ?_⟩
        exact iteF k
theorem sc_num : FnScope ["value", "least", "greatest"] ["value", "least", "greatest"] (defScope s_is_number_from) := ⟨rfl, rfl, rfl, by decide +kernel, rfl, by decide +kernel, by decide +kernel⟩
theorem ok_num {f fI : Addr} {fd fdI : FuncData} (F : Fun K "is_number_from" "is_number_from" s_is_number_from f fd) (U : Use P w K mg base CX0 1 "is_integer" fI fdI ["value"] (spIsInt K)) : FnOk P w K mg base CX0 2 f fd ["value", "least", "greatest"] (spNumFrom K) := by
  refine F.ok sc_num (fun vs H Q E h => ?_) (fun cdv A outer s H vs Q E hr h => ?_)
  · obtain ⟨v, lo, hi, rfl, _⟩ := h
    rfl
  · obtain ⟨v, lo, hi, rfl, hv, k⟩ := h
    refine ⟨_, pss_one (ps_ret (pe_and (pe_use U hr rfl (pa_cons (pv 0) pa_nil)) (pe_one (pe_chain op_le op_le (pv 1) (pv 0) (pv 2))))), ?_⟩
    refine ⟨_, rfl, v, rfl, hv, _, rfl, ?_⟩
    rcases hv with ⟨i, rfl⟩ | hv
    · refine iteT ?_
      refine ⟨_, rfl, _, rfl, _, _, rfl, rfl, _, rfl, ?_⟩
      have e : inR (.int i) lo hi = (decide (lo ≤ i) && decide (i ≤ hi)) := rfl
      rw [e] at k
      refine ite2 (fun h => ?_) (fun h => ?_)
      · rw [h, Bool.true_and] at k
        exact ⟨_, rfl, _, _, rfl, rfl, k⟩
      · rw [Bool.eq_false_iff.mpr h, Bool.false_and] at k
        exact k
    · have e : inR v lo hi = false := by
        show (match asInt v with
          | some i => decide (lo ≤ i) && decide (i ≤ hi)
          | none => false) = false
        rw [hv.as]
      rw [e] at k
      rw [hv.as]
      exact iteF k
end
end TR
namespace TR
open PySem PySem.Spec PyProof.Rows L2 L2.TT
/-- any value as a pair: the items where it is a tuple of two -/
inductive PV (K : PySem.W.Frag) (H : Hp) : V → Option (V × V) → Prop where
  | two {a : Addr} {x y : V} (h : H a = some (.tup [x, y])) (hx : IV K H x) (hy : IV K H y) : PV K H (.ref a) (some (x, y))
  | tup {a : Addr} {xs : List V} (h : H a = some (.tup xs)) (hn : xs.length ≠ 2) : PV K H (.ref a) none
  | no {v : V} {n : String} (t : TyX K H v (.type n)) (kb : kitB n "tuple" = some false) : PV K H v none
def isPr (o : Option (V × V)) (n : Int) : Bool := match o with
  | some (x, y) => inR x 0 (n - 1) && inR y 0 (n - 1) && decide (asInt x ≠ asInt y)
  | none => false
def spPair (K : PySem.W.Frag) : Sp := fun vs H Q _ => ∃ v n o, vs = [v, .int n] ∧ PV K H v o ∧ Q (.bl (isPr o n)) H
theorem tup_tup {K : PySem.W.Frag} : PySem.W.kitOne K (.type "tuple") (.type "tuple") = some true := kit_ty (by decide +kernel)
theorem inR_int {v : V} {lo hi : Int} (h : inR v lo hi = true) : ∃ i, v = .int i ∧ lo ≤ i ∧ i ≤ hi := by
  unfold inR at h
  cases v with
  | int i =>
    have h2 : (decide (lo ≤ i) && decide (i ≤ hi)) = true := h
    rw [Bool.and_eq_true] at h2
    exact ⟨i, rfl, of_decide_eq_true h2.1, of_decide_eq_true h2.2⟩
  | _ => cases h
section
variable {P : Program} {w : World} {K : PySem.W.Frag} {mg : Str → Option Value} {base : Heap}
theorem sc_pair : FnScope ["value", "size", "one", "other"] ["value", "size"] (defScope s_is_pair_of_stations) := ⟨rfl, rfl, rfl, by decide +kernel, rfl, by decide +kernel, by decide +kernel⟩
theorem ok_pair {f fI : Addr} {fd fdI : FuncData} (F : Fun K "is_pair_of_stations" "is_pair_of_stations" s_is_pair_of_stations f fd) (N : Nm mg) (U : Use P w K mg base CX0 2 "is_number_from" fI fdI ["value", "least", "greatest"] (spNumFrom K)) : FnOk P w K mg base CX0 3 f fd ["value", "size"] (spPair K) := by
  refine F.ok sc_pair (fun vs H Q E h => ?_) (fun cdv A outer s H vs Q E hr h => ?_)
  · obtain ⟨v, n, o, rfl, _⟩ := h
    rfl
  · obtain ⟨v, n, o, rfl, hv, k⟩ := h
    refine ⟨_, pss_cons (ps_if (PW.pt (pw_or (pt_not (pt_val (pe_callB call_isi (by rfl) N.isi boot_isinstance (pa_cons (pv 0) (pa_cons (pe_bltn (v := .ty "tuple") (by rfl) N.tuple (by decide +kernel) rfl) pa_nil)))))
        (pw_or1 (pt_cmpR op_ne (pe_callB call_len_seq (by rfl) N.len PySem.boot_len (pa_cons (pv 0) pa_nil)) pe_int (nomark _))))) (pss_one (ps_ret pe_bl)) pss_nil)
      (pss_cons (ps_asg (pv 0) (pg_tup rfl (pgs_cons (pg_name (i := 2) sc_pair.nd rfl (.inl rfl)) (pgs_cons (pg_name (i := 3) sc_pair.nd rfl (.inl rfl)) pgs_nil))))
      (pss_cons (ps_if (PW.pt (pw_or (pt_not (pt_val (pe_use U hr rfl (pa_cons (pv 2) (pa_cons pe_int (pa_cons (pe_op op_sub (pv 1) pe_int) pa_nil))))))
        (pw_or1 (pt_not (pt_val (pe_use U hr rfl (pa_cons (pv 3) (pa_cons pe_int (pa_cons (pe_op op_sub (pv 1) pe_int) pa_nil))))))))) (pss_one (ps_ret pe_bl)) pss_nil)
      (pss_one (ps_ret (pe_cmpR op_ne (pv 2) (pv 3) (nomark _)))))), ?_⟩
    have hle : (2 : Nat) ≤ sizeLine := by rw [sizeLine_eq]; decide
    cases hv with
    | no t kb =>
      refine ⟨_, rfl, _, _, _, _, false, rfl, .ty _, t, kit_ty kb, false, rfl, ?_⟩
      refine iteT ?_
      refine iteT ?_
      exact k
    | @tup a xs h hn =>
      refine ⟨_, rfl, _, _, _, _, true, rfl, .ty _, .base (.tup h), tup_tup, true, rfl, ?_⟩
      refine iteF ?_
      refine ⟨_, rfl, _, _, rfl, .inr (SqT.of h), rfl, _, rfl, ?_⟩
      refine ite2 (fun _ => ?_) (fun z => ?_)
      · exact k
      · exfalso
        apply z
        show (!decide (V.int (xs.length : Nat) = V.int 2)) = true
        simp only [Bool.not_eq_true', decide_eq_false_iff_not, V.int.injEq]
        omega
    | two h hx hy =>
      refine ⟨_, rfl, _, _, _, _, true, rfl, .ty _, .base (.tup h), tup_tup, true, rfl, ?_⟩
      refine iteF ?_
      refine ⟨_, rfl, _, _, rfl, .inr (SqT.of h), rfl, _, rfl, ?_⟩
      refine iteF ?_
      refine ⟨_, rfl, _, _, rfl, SqT.of h, rfl, ?_⟩
      refine ⟨_, _, rfl, _, _, rfl, rfl, ?_⟩
      refine ⟨_, rfl, _, rfl, _, _, rfl, rfl, _, _, _, rfl, hx, _, rfl, ?_⟩
      rename_i a x y
      cases e1 : inR x 0 (n - 1) with
      | false =>
        have e : isPr (some (x, y)) n = false := by show (inR x 0 (n - 1) && inR y 0 (n - 1) && decide (asInt x ≠ asInt y)) = false; rw [e1]; rfl
        rw [e] at k
        refine iteT ?_
        refine iteT ?_
        exact k
      | true =>
        refine iteF ?_
        refine ⟨_, rfl, _, rfl, _, _, rfl, rfl, _, _, _, rfl, hy, _, rfl, ?_⟩
        cases e2 : inR y 0 (n - 1) with
        | false =>
          have e : isPr (some (x, y)) n = false := by show (inR x 0 (n - 1) && inR y 0 (n - 1) && decide (asInt x ≠ asInt y)) = false; rw [e1, e2]; rfl
          rw [e] at k
          refine iteT ?_
          exact k
        | true =>
          refine iteF ?_
          obtain ⟨i, rfl, _⟩ := inR_int e1
          obtain ⟨j, rfl, _⟩ := inR_int e2
          have e : isPr (some (.int i, .int j)) n = decide (¬ (V.int i = V.int j)) := by
            show (inR (.int i) 0 (n - 1) && inR (.int j) 0 (n - 1) && decide (asInt (.int i) ≠ asInt (.int j))) = _
            rw [e1, e2]
            simp [asInt]
          rw [e] at k
          refine ⟨_, rfl, _, rfl, rfl, ?_⟩
          have e3 : decide (¬ (V.int i = V.int j)) = !decide (V.int i = V.int j) := by simp
          rw [e3] at k
          exact k
end
end TR
namespace TR
abbrev E2 := Nat × Nat
def mx (e : E2) : Nat := max e.1 e.2
def mn (e : E2) : Nat := min e.1 e.2
def Adj (tr : List E2) (a b : Nat) : Prop := (a, b) ∈ tr ∨ (b, a) ∈ tr
theorem Adj.sym {tr : List E2} {a b : Nat} (h : Adj tr a b) : Adj tr b a := Or.symm h
/-- k steps from 0 -/
def WN (tr : List E2) : Nat → Nat → Prop
  | 0, v => v = 0
  | k + 1, v => ∃ u, WN tr k u ∧ Adj tr u v
structure TreeL (tr : List E2) : Prop where
  ne : ∀ e ∈ tr, e.1 ≠ e.2
  le : ∀ e ∈ tr, e.1 ≤ tr.length ∧ e.2 ≤ tr.length
  co : ∀ v, v ≤ tr.length → ∃ k, WN tr k v
theorem ex_min {P : Nat → Prop} : ∀ k, P k → ∃ m, P m ∧ ∀ j, j < m → ¬ P j := by
  intro k
  induction k using Nat.strongRecOn with
  | ind k ih =>
    intro h
    by_cases c : ∃ j, j < k ∧ P j
    · obtain ⟨j, hj, hp⟩ := c
      exact ih j hj hp
    · exact ⟨k, h, fun j hj hp => c ⟨j, hj, hp⟩⟩
theorem wn_min {tr : List E2} {v : Nat} (h : ∃ k, WN tr k v) : ∃ m, WN tr m v ∧ ∀ j, j < m → ¬ WN tr j v := h.elim fun k hk => ex_min k hk
noncomputable def dep (tr : List E2) (v : Nat) : Nat := open Classical in if h : ∃ k, WN tr k v then (wn_min h).choose else 1
theorem mn_lt {e : E2} (h : e.1 ≠ e.2) : mn e < mx e := by
  unfold mn mx
  omega
theorem ends (e : E2) : (e.1 = mx e ∧ e.2 = mn e) ∨ (e.1 = mn e ∧ e.2 = mx e) := by
  unfold mn mx
  omega
theorem dep_spec {tr : List E2} {v : Nat} (h : ∃ k, WN tr k v) : WN tr (dep tr v) v ∧ ∀ j, j < dep tr v → ¬ WN tr j v := by
  unfold dep
  rw [dif_pos h]
  exact (wn_min h).choose_spec
theorem dep_min {tr : List E2} {v k : Nat} (h : WN tr k v) : dep tr v ≤ k := by
  refine Nat.le_of_not_lt fun z => ?_
  exact (dep_spec ⟨k, h⟩).2 k z h
theorem dep_zero {tr : List E2} : dep tr 0 = 0 := by
  have := dep_min (tr := tr) (v := 0) (k := 0) rfl
  omega
theorem dep_par {tr : List E2} {v : Nat} (h : ∃ k, WN tr k v) (hv : 0 < v) : ∃ u, Adj tr u v ∧ dep tr v = dep tr u + 1 := by
  obtain ⟨h1, h2⟩ := dep_spec h
  cases e : dep tr v with
  | zero =>
    rw [e] at h1
    have : v = 0 := h1
    omega
  | succ k =>
    rw [e] at h1
    obtain ⟨u, hu, ha⟩ := h1
    refine ⟨u, ha, ?_⟩
    have a1 := dep_min hu
    have a2 := dep_min (tr := tr) (v := v) (k := dep tr u + 1) ⟨u, (dep_spec ⟨k, hu⟩).1, ha⟩
    omega
noncomputable def par (tr : List E2) (v : Nat) : Nat := open Classical in if h : ∃ u, Adj tr u v ∧ dep tr v = dep tr u + 1 then h.choose else 0
theorem par_spec {tr : List E2} {v : Nat} (h : ∃ k, WN tr k v) (hv : 0 < v) : Adj tr (par tr v) v ∧ dep tr v = dep tr (par tr v) + 1 := by
  unfold par
  rw [dif_pos (dep_par h hv)]
  exact (dep_par h hv).choose_spec
/-- injective on a list, into as many: all are met -/
theorem hit_all {n : Nat} {f : Nat → Nat} (hf : ∀ v, 1 ≤ v → v ≤ n → f v < n) (inj : ∀ v w, 1 ≤ v → v ≤ n → 1 ≤ w → w ≤ n → f v = f w → v = w) {i : Nat} (hi : i < n) : ∃ v, 1 ≤ v ∧ v ≤ n ∧ f v = i := by
  have hn : ((List.range' 1 n).map f).Nodup := by
    have h0 : (List.range' 1 n).Nodup := List.nodup_range' (step := 1) (h := by decide)
    refine List.Pairwise.map f (R := fun a b => (1 ≤ a ∧ a ≤ n) ∧ (1 ≤ b ∧ b ≤ n) ∧ a ≠ b) (fun a b h => fun z => h.2.2 (inj a b h.1.1 h.1.2 h.2.1.1 h.2.1.2 z)) ?_
    refine List.Pairwise.imp_of_mem (R := fun a b => a ≠ b) (fun {a b} ha hb hab => ?_) h0
    rw [List.mem_range'] at ha hb
    obtain ⟨x, hx, rfl⟩ := ha
    obtain ⟨y, hy, rfl⟩ := hb
    exact ⟨⟨by omega, by omega⟩, ⟨by omega, by omega⟩, hab⟩
  have hs : (List.range' 1 n).map f ⊆ List.range n := by
    intro x hx
    obtain ⟨a, ha, rfl⟩ := List.mem_map.mp hx
    rw [List.mem_range'] at ha
    obtain ⟨j, hj, rfl⟩ := ha
    exact List.mem_range.mpr (hf _ (by omega) (by omega))
  by_cases c : i ∈ (List.range' 1 n).map f
  · obtain ⟨a, ha, e⟩ := List.mem_map.mp c
    rw [List.mem_range'] at ha
    obtain ⟨j, hj, rfl⟩ := ha
    exact ⟨_, by omega, by omega, e⟩
  · exfalso
    have h2 : (i :: (List.range' 1 n).map f).Nodup := List.nodup_cons.mpr ⟨c, hn⟩
    have h3 : (i :: (List.range' 1 n).map f) ⊆ List.range n := by
      intro x hx
      rcases List.mem_cons.mp hx with rfl | hx
      · exact List.mem_range.mpr hi
      · exact hs hx
    have := h2.length_le_of_subset h3
    simp at this
    omega
namespace TreeL
variable {tr : List E2}
theorem lt1 (T : TreeL tr) {e : E2} (h : e ∈ tr) : e.1 < tr.length + 1 ∧ e.2 < tr.length + 1 := by
  have := T.le e h
  omega
theorem adj_le (T : TreeL tr) {a b : Nat} (h : Adj tr a b) : a ≤ tr.length ∧ b ≤ tr.length := by
  rcases h with h | h
  · exact T.le _ h
  · exact (T.le _ h).symm
theorem adj_ne (T : TreeL tr) {a b : Nat} (h : Adj tr a b) : a ≠ b := by
  rcases h with h | h
  · exact T.ne _ h
  · exact fun z => T.ne _ h z.symm
theorem par_le (T : TreeL tr) (y : Nat) : par tr y ≤ tr.length := by
  by_cases h : ∃ u, Adj tr u y ∧ dep tr y = dep tr u + 1
  · have e : par tr y = h.choose := by
      unfold par
      rw [dif_pos h]
    rw [e]
    exact (T.adj_le h.choose_spec.1).1
  · have e : par tr y = 0 := by
      unfold par
      rw [dif_neg h]
    omega
end TreeL
theorem dep_succ {tr : List E2} (T : TreeL tr) {y : Nat} (h : 0 < y) : dep tr y = dep tr (par tr y) + 1 := by
  by_cases c : ∃ k, WN tr k y
  · exact (par_spec c h).2
  · have e : par tr y = 0 := by
      unfold par
      rw [dif_neg]
      rintro ⟨u, hu, _⟩
      exact c (T.co y (T.adj_le hu).2)
    rw [e, dep_zero]
    unfold dep
    rw [dif_neg c]
theorem par_adj {tr : List E2} (T : TreeL tr) {y : Nat} (h : 0 < y) (hl : y ≤ tr.length) : Adj tr y (par tr y) := (par_spec (T.co y hl) h).1.sym
theorem par_dep {tr : List E2} (T : TreeL tr) {y : Nat} (h : 0 < y) : dep tr (par tr y) < dep tr y := by
  have := dep_succ T h
  omega
/-- each track is that of one station to its parent -/
theorem edge_of {tr : List E2} (T : TreeL tr) : ∃ f : Nat → Nat, (∀ v, 1 ≤ v → v ≤ tr.length → tr[f v]? = some (v, par tr v) ∨ tr[f v]? = some (par tr v, v)) ∧ (∀ i, i < tr.length → ∃ v, 1 ≤ v ∧ v ≤ tr.length ∧ f v = i) := by
  have key : ∀ v, ∃ i, 1 ≤ v → v ≤ tr.length → tr[i]? = some (v, par tr v) ∨ tr[i]? = some (par tr v, v) := fun v => by
    by_cases c : 1 ≤ v ∧ v ≤ tr.length
    · rcases par_adj T (y := v) c.1 c.2 with h | h
      · obtain ⟨i, hi⟩ := List.mem_iff_getElem?.mp h
        exact ⟨i, fun _ _ => .inl hi⟩
      · obtain ⟨i, hi⟩ := List.mem_iff_getElem?.mp h
        exact ⟨i, fun _ _ => .inr hi⟩
    · exact ⟨0, fun h1 h2 => absurd ⟨h1, h2⟩ c⟩
  refine ⟨fun v => (key v).choose, fun v h1 h2 => (key v).choose_spec h1 h2, ?_⟩
  have hk : ∀ v, 1 ≤ v → v ≤ tr.length → tr[(key v).choose]? = some (v, par tr v) ∨ tr[(key v).choose]? = some (par tr v, v) := fun v h1 h2 => (key v).choose_spec h1 h2
  intro i hi
  refine hit_all (fun v h1 h2 => ?_) (fun v w h1 h2 h3 h4 e => ?_) hi
  · rcases hk v h1 h2 with h | h
    · exact (List.getElem?_eq_some_iff.mp h).1
    · exact (List.getElem?_eq_some_iff.mp h).1
  · have hv := hk v h1 h2
    have hw := hk w h3 h4
    rw [e] at hv
    have d1 := par_dep T (y := v) h1
    have d2 := par_dep T (y := w) h3
    have cross : v = par tr w → par tr v = w → v = w := fun a b => by
      rw [← a] at d2
      rw [b] at d1
      omega
    rcases hv with hv | hv <;> rcases hw with hw | hw <;> rw [hv] at hw <;> have q := Option.some.inj hw
    · exact congrArg Prod.fst q
    · exact cross (congrArg Prod.fst q) (congrArg Prod.snd q)
    · exact cross (congrArg Prod.snd q) (congrArg Prod.fst q)
    · exact congrArg Prod.snd q
/-- the end of a track that is farther from 0, and the other one -/
noncomputable def ch (tr : List E2) (e : E2) : Nat := if dep tr e.1 < dep tr e.2 then e.2 else e.1
noncomputable def pa (tr : List E2) (e : E2) : Nat := if dep tr e.1 < dep tr e.2 then e.1 else e.2
theorem cp (tr : List E2) (e : E2) : (e.1 = ch tr e ∧ e.2 = pa tr e) ∨ (e.1 = pa tr e ∧ e.2 = ch tr e) := by
  unfold ch pa
  split
  · exact .inr ⟨rfl, rfl⟩
  · exact .inl ⟨rfl, rfl⟩
namespace TreeL
variable {tr : List E2}
theorem ch_bd (T : TreeL tr) {e : E2} (h : e ∈ tr) : 1 ≤ ch tr e ∧ ch tr e ≤ tr.length ∧ par tr (ch tr e) = pa tr e := by
  obtain ⟨f, h1, h2⟩ := edge_of T
  obtain ⟨i, hi⟩ := List.mem_iff_getElem?.mp h
  obtain ⟨v, v1, v2, rfl⟩ := h2 i (List.getElem?_eq_some_iff.mp hi).1
  have d := par_dep T (y := v) v1
  have hv := h1 v v1 v2
  rw [hi] at hv
  unfold ch pa
  rcases hv with hv | hv
  · have q := Option.some.inj hv
    subst q
    rw [if_neg (by simp only; omega), if_neg (by simp only; omega)]
    exact ⟨v1, v2, rfl⟩
  · have q := Option.some.inj hv
    subst q
    rw [if_pos (by simp only; omega), if_pos (by simp only; omega)]
    exact ⟨v1, v2, rfl⟩
theorem ch_inj (T : TreeL tr) {i j : Nat} {e d : E2} (hi : tr[i]? = some e) (hj : tr[j]? = some d) (h : ch tr e = ch tr d) : i = j := by
  obtain ⟨f, h1, h2⟩ := edge_of T
  have key : ∀ {i : Nat} {e : E2}, tr[i]? = some e → i = f (ch tr e) := fun {i e} hi => by
    obtain ⟨v, v1, v2, rfl⟩ := h2 i (List.getElem?_eq_some_iff.mp hi).1
    have d := par_dep T (y := v) v1
    have hv := h1 v v1 v2
    rw [hi] at hv
    have : ch tr e = v := by
      unfold ch
      rcases hv with hv | hv
      · have q := Option.some.inj hv
        subst q
        rw [if_neg (by simp only; omega)]
      · have q := Option.some.inj hv
        subst q
        rw [if_pos (by simp only; omega)]
    rw [this]
  rw [key hi, key hj, h]
end TreeL
theorem adj_par {tr : List E2} (T : TreeL tr) {v w : Nat} (h : Adj tr v w) : (0 < v ∧ w = par tr v ∧ v ≤ tr.length) ∨ (0 < w ∧ v = par tr w ∧ w ≤ tr.length) := by
  have key : ∀ e : E2, e ∈ tr → (0 < e.1 ∧ e.2 = par tr e.1 ∧ e.1 ≤ tr.length) ∨ (0 < e.2 ∧ e.1 = par tr e.2 ∧ e.2 ≤ tr.length) := fun e he => by
    obtain ⟨b1, b2, b3⟩ := T.ch_bd he
    rcases cp tr e with ⟨e1, e2⟩ | ⟨e1, e2⟩
    · exact .inl ⟨by omega, by rw [e1, b3, e2], by omega⟩
    · exact .inr ⟨by omega, by rw [e2, b3, e1], by omega⟩
  rcases h with h | h
  · exact key _ h
  · exact (key _ h).symm
/-- a lies behind y, or is it -/
inductive Desc (p : Nat → Nat) (y : Nat) : Nat → Prop
  | self : Desc p y y
  | up {a : Nat} (h : 0 < a) (d : Desc p y (p a)) : Desc p y a
theorem Desc.step {p : Nat → Nat} {y a : Nat} (h : 0 < a) (ne : a ≠ y) : Desc p y a ↔ Desc p y (p a) := by
  constructor
  · intro d
    cases d with
    | self => exact absurd rfl ne
    | up _ d => exact d
  · exact fun d => .up h d
theorem Desc.dep {tr : List E2} (T : TreeL tr) {y a : Nat} (d : Desc (par tr) y a) : TR.dep tr y ≤ TR.dep tr a := by
  induction d with
  | self => exact Nat.le_refl _
  | up h _ ih => exact Nat.le_trans ih (Nat.le_of_lt (par_dep T h))
/-- what the groups of stations say when the first i tracks are joined -/
def GI (tr : List E2) (i : Nat) (gs : List Nat) : Prop :=
  gs.length = tr.length + 1 ∧ ∀ j e, i ≤ j → tr[j]? = some e → ∀ a b x : Nat, gs[a]? = some x → gs[b]? = some x → (Desc (par tr) (ch tr e) a ↔ Desc (par tr) (ch tr e) b)
theorem GI.start (tr : List E2) : GI tr 0 (List.range (tr.length + 1)) := by
  refine ⟨by simp, fun j e _ _ a b x ha hb => ?_⟩
  have h1 : a = x := by
    have := List.getElem?_eq_some_iff.mp ha
    obtain ⟨_, q⟩ := this
    simpa using q
  have h2 : b = x := by
    have := List.getElem?_eq_some_iff.mp hb
    obtain ⟨_, q⟩ := this
    simpa using q
  rw [h1, h2]
theorem GI.ne {tr : List E2} (T : TreeL tr) {i : Nat} {gs : List Nat} (g : GI tr i gs) {e : E2} (he : tr[i]? = some e) {x y : Nat} (h1 : gs[e.1]? = some x) (h2 : gs[e.2]? = some y) : x ≠ y := by
  rintro rfl
  have hm := List.mem_of_getElem? he
  have q := g.2 i e (Nat.le_refl _) he e.1 e.2 x h1 h2
  obtain ⟨b1, b2, b3⟩ := T.ch_bd hm
  have no : ¬ Desc (par tr) (ch tr e) (pa tr e) := fun d => by
    have := Desc.dep T d
    have := par_dep T (y := ch tr e) b1
    rw [b3] at this
    omega
  rcases cp tr e with ⟨e1, e2⟩ | ⟨e1, e2⟩
  · rw [e2] at q
    rw [e1] at q
    exact no (q.mp .self)
  · rw [e1, e2] at q
    exact no (q.mpr .self)
def join (gs : List Nat) (x y : Nat) : List Nat := gs.map fun g => if g = y then x else g
theorem join_get {gs : List Nat} {x y c z : Nat} (h : (join gs x y)[c]? = some z) : ∃ u, gs[c]? = some u ∧ (if u = y then x else u) = z := by
  rw [join, List.getElem?_map] at h
  cases e0 : gs[c]? with
  | none =>
    rw [e0] at h
    cases h
  | some u =>
    rw [e0] at h
    exact ⟨u, rfl, Option.some.inj h⟩
theorem GI.next {tr : List E2} (T : TreeL tr) {i : Nat} {gs : List Nat} (g : GI tr i gs) {e : E2} (he : tr[i]? = some e) {x y : Nat} (h1 : gs[e.1]? = some x) (h2 : gs[e.2]? = some y) : GI tr (i + 1) (join gs x y) := by
  refine ⟨by rw [join, List.length_map]; exact g.1, fun j e' hj he' a b z ha hb => ?_⟩
  have hm := List.mem_of_getElem? he
  have old := g.2 j e' (by omega) he'
  obtain ⟨b1, b2, b3⟩ := T.ch_bd hm
  have ne : ch tr e ≠ ch tr e' := by
    intro q
    have := T.ch_inj he he' q
    omega
  have link : Desc (par tr) (ch tr e') e.1 ↔ Desc (par tr) (ch tr e') e.2 := by
    have s := Desc.step (p := par tr) (y := ch tr e') (a := ch tr e) (by omega) ne
    rw [b3] at s
    rcases cp tr e with ⟨e1, e2⟩ | ⟨e1, e2⟩
    · rw [e1, e2]
      exact s
    · rw [e1, e2]
      exact s.symm
  obtain ⟨u, gu, eu⟩ := join_get ha
  obtain ⟨v, gv, ev⟩ := join_get hb
  by_cases c1 : u = y
  · by_cases c2 : v = y
    · exact old a b y (c1 ▸ gu) (c2 ▸ gv)
    · rw [if_pos c1] at eu
      rw [if_neg c2] at ev
      have w1 := old a e.2 y (c1 ▸ gu) h2
      have w2 := old b e.1 x (by rw [gv, ev, eu]) h1
      exact w1.trans (link.symm.trans w2.symm)
  · by_cases c2 : v = y
    · rw [if_neg c1] at eu
      rw [if_pos c2] at ev
      have w1 := old b e.2 y (c2 ▸ gv) h2
      have w2 := old a e.1 x (by rw [gu, eu, ev]) h1
      exact w2.trans (link.trans w1.symm)
    · rw [if_neg c1] at eu
      rw [if_neg c2] at ev
      exact old a b z (by rw [gu, eu]) (by rw [gv, ev])
end TR
namespace TR
open PySem PySem.Spec PyProof.Rows L2 L2.TT
abbrev iv (n : Nat) : V := .int (n : Int)
theorem iv_inj {a b : Nat} : (iv a = iv b) ↔ a = b := by
  show (V.int (a : Int) = V.int (b : Int)) ↔ a = b
  rw [V.int.injEq]
  omega
theorem map_get {α β : Type} {f : α → β} {l : List α} {i : Nat} {x : α} (h : l[i]? = some x) : (l.map f)[i]? = some (f x) := by rw [List.getElem?_map, h]; rfl
theorem map_got {α β : Type} {f : α → β} {l : List α} {i : Nat} {y : β} (h : (l.map f)[i]? = some y) : ∃ x, l[i]? = some x ∧ f x = y := by
  rw [List.getElem?_map] at h
  cases e : l[i]? with
  | none => rw [e] at h; cases h
  | some x => rw [e] at h; exact ⟨x, rfl, Option.some.inj h⟩
theorem atN {xs : List V} {n : Nat} {v : V} (h : xs[n]? = some v) : atI xs (n : Int) = some v := atI_nat h
theorem take_snoc {α : Type} {l : List α} {i : Nat} {x : α} (h : l[i]? = some x) : l.take (i + 1) = l.take i ++ [x] := by
  rw [List.take_succ, h]
  rfl
/-- the tracks stand in the heap as tuples -/
def Prs (H : Hp) (ps : List Addr) (tr : List E2) : Prop := ps.length = tr.length ∧ ∀ (i : Nat) (p : Addr) (e : E2), ps[i]? = some p → tr[i]? = some e → H p = some (.tup [iv e.1, iv e.2])
theorem Prs.same {H H' : Hp} {ps : List Addr} {tr : List E2} (h : Prs H ps tr) (s : Same H H') : Prs H' ps tr := ⟨h.1, fun i p e a b => s _ _ (h.2 i p e a b)⟩
theorem Prs.get {H : Hp} {ps : List Addr} {tr : List E2} (h : Prs H ps tr) {i : Nat} {v : V} (e : (ps.map V.ref)[i]? = some v) : ∃ p e, v = .ref p ∧ ps[i]? = some p ∧ tr[i]? = some e ∧ H p = some (.tup [iv e.1, iv e.2]) := by
  obtain ⟨p, hp, rfl⟩ := map_got e
  have hl := (List.getElem?_eq_some_iff.mp hp).1
  rw [h.1] at hl
  exact ⟨p, tr[i], rfl, hp, List.getElem?_eq_getElem hl, h.2 i p _ hp (List.getElem?_eq_getElem hl)⟩
theorem _root_.L2.Same.tp {K : PySem.W.Frag} {H H' : Hp} {a : Addr} {xs : List V} (e : Same H H') (h : SqT K H a xs) : SqT K H' a xs := by
  rcases h with (h | ⟨o, h⟩) | h
  · exact .inl (.inl (e _ _ h))
  · exact .inl (.inr ⟨o, e _ _ h⟩)
  · exact .inr h
theorem rgV_iv (n : Nat) : rgV 0 ((n : Int) + 1) = (List.range (n + 1)).map iv := by
  unfold rgV
  have e : ((n : Int) + 1 - 0).toNat = n + 1 := by omega
  rw [e]
  refine List.map_congr_left fun i _ => ?_
  show V.int (0 + (i : Int)) = V.int (i : Int)
  rw [Int.zero_add]
theorem same_upd {H : Hp} {p : Addr} (h : H p = none) (o : HO) : Same H (upd H p o) := fun b u e => by rw [upd_ne (ne_of_none e h)]; exact e
theorem isPr_ok {x y n : Nat} (hx : x < n) (hy : y < n) (ne : x ≠ y) : isPr (some (iv x, iv y)) (n : Int) = true := by
  show (inR (iv x) 0 ((n : Int) - 1) && inR (iv y) 0 ((n : Int) - 1) && decide (asInt (iv x) ≠ asInt (iv y))) = true
  have h1 : inR (iv x) 0 ((n : Int) - 1) = true := by
    show (decide ((0 : Int) ≤ (x : Int)) && decide ((x : Int) ≤ (n : Int) - 1)) = true
    rw [Bool.and_eq_true]
    exact ⟨decide_eq_true (by omega), decide_eq_true (by omega)⟩
  have h2 : inR (iv y) 0 ((n : Int) - 1) = true := by
    show (decide ((0 : Int) ≤ (y : Int)) && decide ((y : Int) ≤ (n : Int) - 1)) = true
    rw [Bool.and_eq_true]
    exact ⟨decide_eq_true (by omega), decide_eq_true (by omega)⟩
  rw [h1, h2]
  have h3 : asInt (iv x) ≠ asInt (iv y) := fun z => ne (by
    have z2 : some (x : Int) = some (y : Int) := z
    have := Option.some.inj z2
    omega)
  simp [h3]
def spJoin (K : PySem.W.Frag) : Sp := fun vs H Q _ => ∃ (a : Addr) (gs : List Nat) (o t x y : Nat), vs = [.ref a, iv o, iv t] ∧ SqL K H a (gs.map iv) ∧ gs.length ≤ 1000 ∧ gs[o]? = some x ∧ gs[t]? = some y ∧ ∀ p, H p = none → Q (.ref p) (upd H p (.lst ((join gs x y).map iv)))
theorem iteT' {c : Bool} {A B : Prop} (hc : c = true) (h : A) : if c = true then A else B := by
  rw [if_pos hc]
  exact h
theorem iteF' {c : Bool} {A B : Prop} (hc : c = false) (h : B) : if c = true then A else B := by
  rw [hc]
  exact iteF h
theorem ix_K {X : Cx} {K : PySem.W.Frag} (h : X.K = K) : IxR X (rIxL K) := by
  subst h
  exact ix_list
section
variable {P : Program} {w : World} {K : PySem.W.Frag} {mg : Str → Option Value} {base : Heap}
theorem sc_join : FnScope ["groups", "one", "other", "group"] ["groups", "one", "other"] (defScope s_joined) := ⟨rfl, rfl, rfl, by decide +kernel, rfl, by decide +kernel, by decide +kernel⟩
theorem ok_join {f : Addr} {fd : FuncData} (F : Fun K "joined" "joined" s_joined f fd) : FnOk P w K mg base CX0 1 f fd ["groups", "one", "other"] (spJoin K) := by
  refine F.ok sc_join (fun vs H Q E h => ?_) (fun cdv A outer s H vs Q E hr h => ?_)
  · obtain ⟨a, gs, o, t, x, y, rfl, _⟩ := h
    rfl
  · obtain ⟨a, gs, o, t, x, y, rfl, hS, hl, ho, ht, k⟩ := h
    refine ⟨_, pss_one (ps_ret (pe_lc (own := [("group", 3)]) (g := gName 3) (tt := tYes) rfl sc_join.nd (pi_list (pv 0)) (blkOk_by (N := ["groups", "one", "other", "group"]) (sc := defScope s_joined) (by decide +kernel))
      (fun _ _ _ _ _ => pg_name (i := 3) sc_join.nd rfl (Or.inl rfl)) (fun _ _ _ _ _ => pts_nil)
      (fun _ _ _ _ _ => pe_ifExp (pt_cmpR op_eq (pv 3) (pe_ix (ix_K (K := K) rfl) (pv 0) (pv 2) (fun _ _ => rfl)) (nomark _)) (pe_ix (ix_K (K := K) rfl) (pv 0) (pv 1) (fun _ _ => rfl)) (pv 3)))), ?_⟩
    refine ⟨_, rfl, a, rfl, ⟨_, hS⟩, fun D nD => ?_⟩
    have sD : ∀ o, Same H (upd H D o) := fun o b u e => by rw [upd_ne (ne_of_none e nD)]; exact e
    refine lc_list (K := K) (a := a) (xs := gs.map iv) (fun i H' => H' = upd H D (.lst (((join gs x y).take i).map iv))) (by simp) (fun i H' _ e => by rw [e]; exact (sD _).seq hS) (fun i v H' hv e => ?_) fun H' e => ?_
    · obtain ⟨g, hg, rfl⟩ := map_got hv
      subst e
      have hS1 := (sD (.lst (((join gs x y).take i).map iv))).seq hS
      have hD := upd_same (H := H) (a := D) (o := .lst (((join gs x y).take i).map iv))
      have hj : (join gs x y)[i]? = some (if g = y then x else g) := map_get hg
      have hlen : (((join gs x y).take i).map iv).length < sizeLine := by
        rw [List.length_map, List.length_take, sizeLine_eq, join, List.length_map]
        omega
      refine ⟨rfl, ?_⟩
      refine ⟨_, rfl, _, rfl, _, rfl, a, _, _, _, rfl, rfl, hS1, atN (map_get ht), rfl, _, rfl, ?_⟩
      by_cases c : g = y
      · rw [if_pos c] at hj
        subst c
        refine iteT' (decide_eq_true rfl) ?_
        refine ⟨_, rfl, _, rfl, a, _, _, _, rfl, rfl, hS1, atN (map_get ho), _, hD, hlen, ?_⟩
        rw [upd_upd, take_snoc hj, List.map_append]
        rfl
      · rw [if_neg c] at hj
        refine iteF' (decide_eq_false fun z => c (iv_inj.mp z)) ?_
        refine ⟨_, rfl, _, hD, hlen, ?_⟩
        rw [upd_upd, take_snoc hj, List.map_append]
        rfl
    · subst e
      have e : (join gs x y).take (gs.map iv).length = join gs x y := List.take_of_length_le (by rw [join]; simp)
      rw [e]
      exact k D nD
def spFirst (K : PySem.W.Frag) : Sp := fun vs H Q _ => ∃ (a : Addr) (ps : List Addr) (tr : List E2), vs = [.ref a] ∧ SqT K H a (ps.map V.ref) ∧ Prs H ps tr ∧ TreeL tr ∧ tr.length ≤ 999 ∧ ∀ H', Same H H' → Q .non H'
theorem sc_first : FnScope ["tracks", "size", "groups", "index", "track", "one", "other"] ["tracks"] (defScope s_first_wrong_track) := ⟨rfl, rfl, rfl, by decide +kernel, rfl, by decide +kernel, by decide +kernel⟩
theorem ok_first {f fP fJ : Addr} {fd fdP fdJ : FuncData} (F : Fun K "first_wrong_track" "first_wrong_track" s_first_wrong_track f fd) (N : Nm mg)
    (UP : Use P w K mg base CX0 3 "is_pair_of_stations" fP fdP ["value", "size"] (spPair K)) (UJ : Use P w K mg base CX0 1 "joined" fJ fdJ ["groups", "one", "other"] (spJoin K)) : FnOk P w K mg base CX0 4 f fd ["tracks"] (spFirst K) := by
  refine F.ok sc_first (fun vs H Q E h => ?_) (fun cdv A outer s H vs Q E hr h => ?_)
  · obtain ⟨a, ps, tr, rfl, _⟩ := h
    rfl
  · obtain ⟨a, ps, tr, rfl, hS, hP, T, hl, k⟩ := h
    refine ⟨_, pss_cons (ps_set (i := 1) sc_first.nd rfl (.inl rfl) (pe_op op_add (pe_callB call_len_seq (by rfl) N.len PySem.boot_len (pa_cons (pv 0) pa_nil)) pe_int))
      (pss_cons (ps_set (i := 2) sc_first.nd rfl (.inl rfl) (pe_listRg rfl (by rfl) N.list (prg_1 (by rfl) N.range (pv 1))))
      (pss_cons (ps_for PassesOwn.never rfl (pi_enumT (by rfl) N.enum (pa_cons (pv 0) pa_nil)) (pg_tup rfl (pgs_cons (pg_name (i := 3) sc_first.nd rfl (.inl rfl)) (pgs_cons (pg_name (i := 4) sc_first.nd rfl (.inl rfl)) pgs_nil)))
        (pss_cons (ps_if (pt_not (pt_val (pe_use UP hr rfl (pa_cons (pv 4) (pa_cons (pv 1) pa_nil))))) (pss_one (ps_ret (pv 3))) pss_nil)
        (pss_cons (ps_asg (pv 4) (pg_tup rfl (pgs_cons (pg_name (i := 5) sc_first.nd rfl (.inl rfl)) (pgs_cons (pg_name (i := 6) sc_first.nd rfl (.inl rfl)) pgs_nil))))
        (pss_cons (ps_if (pt_cmpR op_eq (pe_ix ix_list (pv 2) (pv 5) (fun _ _ => rfl)) (pe_ix ix_list (pv 2) (pv 6) (fun _ _ => rfl)) (nomark _)) (pss_one (ps_ret (pv 3))) pss_nil)
        (pss_one (ps_set (i := 2) sc_first.nd rfl (.inl rfl) (pe_use UJ (hr.mono (by decide)) rfl (pa_cons (pv 2) (pa_cons (pv 5) (pa_cons (pv 6) pa_nil))))))))))
      (pss_one (ps_ret pe_non)))), ?_⟩
    have lp : (ps.map V.ref).length = tr.length := by rw [List.length_map, hP.1]
    refine ⟨_, rfl, a, _, rfl, .inr hS, _, _, rfl, rfl, ?_⟩
    refine ⟨_, rfl, _, rfl, ?_⟩
    refine ⟨RgOk.of_le (by decide) (by rw [lp]; omega) (by decide) (by omega), fun g0 ng => ?_⟩
    have s0 := same_upd ng (.lst (rgV 0 (((ps.map V.ref).length : Int) + 1)))
    have e0 : rgV 0 (((ps.map V.ref).length : Int) + 1) = (List.range (tr.length + 1)).map iv := by rw [lp, rgV_iv]
    have hg0 : upd H g0 (.lst (rgV 0 (((ps.map V.ref).length : Int) + 1))) g0 = some (.lst ((List.range (tr.length + 1)).map iv)) := by rw [← e0]; exact upd_same
    refine ⟨_, rfl, a, _, rfl, s0.tp hS, for_enumT (K := K) (a := a) (xs := ps.map V.ref) (fun i σ H' => ∃ (gs : List Nat) (g : Addr) (x3 x4 x5 x6 : Option V), σ = [some (.ref a), some (.int (((ps.map V.ref).length : Int) + 1)), some (.ref g), x3, x4, x5, x6] ∧ Same H H' ∧ H' g = some (.lst (gs.map iv)) ∧ GI tr i gs)
      ⟨List.range (tr.length + 1), g0, none, none, none, none, rfl, s0, hg0, GI.start tr⟩ (fun i σ H' _ ⟨_, _, _, _, _, _, _, s1, _⟩ => s1.tp hS) ?_ ?_⟩
    · rintro i v T0 σ H' hv ⟨gs, g, x3, x4, x5, x6, rfl, s1, hg, G⟩ nT
      obtain ⟨p, e, rfl, hp, he, hH⟩ := hP.get hv
      have hm := List.mem_of_getElem? he
      have sT := same_upd nT (.tup [V.int (i : Nat), V.ref p])
      have hT := upd_same (H := H') (a := T0) (o := .tup [V.int (i : Nat), V.ref p])
      have s2 := s1.trans sT
      have hg2 := sT _ _ hg
      have hH2 := s2 _ _ hH
      generalize upd H' T0 (.tup [V.int (i : Nat), V.ref p]) = H2 at sT hT s2 hg2 hH2
      have b1 := T.lt1 hm
      obtain ⟨x, hx⟩ : ∃ x, gs[e.1]? = some x := ⟨_, List.getElem?_eq_getElem (by rw [G.1]; exact b1.1)⟩
      obtain ⟨y, hy⟩ : ∃ y, gs[e.2]? = some y := ⟨_, List.getElem?_eq_getElem (by rw [G.1]; exact b1.2)⟩
      have nxy := G.ne T he hx hy
      refine ⟨T0, _, rfl, SqT.of hT, rfl, ?_⟩
      refine ⟨_, _, rfl, _, _, rfl, rfl, ?_⟩
      -- if not is_pair_of_stations(track, size)
      refine ⟨_, rfl, _, rfl, _, _, _, rfl, .two hH2 (.inl ⟨_, rfl⟩) (.inl ⟨_, rfl⟩), _, rfl, ?_⟩
      rw [lp]
      rw [show isPr (some (iv e.1, iv e.2)) ((tr.length : Int) + 1) = true from isPr_ok (n := tr.length + 1) b1.1 b1.2 (T.ne e hm)]
      refine iteF ?_
      -- one, other = track
      refine ⟨_, rfl, p, _, rfl, SqT.of hH2, rfl, ?_⟩
      refine ⟨_, _, rfl, _, _, rfl, rfl, ?_⟩
      -- if groups[one] == groups[other]
      refine ⟨_, rfl, _, rfl, g, _, _, _, rfl, rfl, SqL.of hg2, atN (map_get hx), _, rfl, _, rfl, g, _, _, _, rfl, rfl, SqL.of hg2, atN (map_get hy), rfl, _, rfl, ?_⟩
      refine iteF' (decide_eq_false fun z => nxy (iv_inj.mp z)) ?_
      -- groups = joined(groups, one, other)
      refine ⟨_, rfl, _, rfl, _, rfl, g, gs, e.1, e.2, x, y, rfl, SqL.of hg2, by rw [G.1]; omega, hx, hy, fun q nq => ?_⟩
      exact ⟨join gs x y, q, _, _, _, _, rfl, s2.trans (same_upd nq _), upd_same, G.next T he hx hy⟩
    · rintro σ H' ⟨gs, g, x3, x4, x5, x6, rfl, s1, hg, G⟩
      exact k H' s1
end
end TR
namespace TR
def bit (v : Nat) (e : E2) : List Nat := if e.1 = v then [e.2] else if e.2 = v then [e.1] else []
def rowOf (tr : List E2) (v : Nat) : List Nat := tr.flatMap (bit v)
def srt (l : List Nat) : List Nat := l.mergeSort (fun a b => decide (a ≤ b))
def nb (tr : List E2) (v : Nat) : List Nat := srt (rowOf tr v)
theorem srt_perm (l : List Nat) : (srt l).Perm l := List.mergeSort_perm l _
theorem srt_le (l : List Nat) : (srt l).Pairwise (· ≤ ·) := by
  have h := List.pairwise_mergeSort (le := fun a b : Nat => decide (a ≤ b)) (by intro a b c; simp only [decide_eq_true_eq]; omega) (by intro a b; simp only [Bool.or_eq_true, decide_eq_true_eq]; omega) l
  exact h.imp fun {a b} h => of_decide_eq_true h
theorem srt_of {l : List Nat} {ns : List Int} (hp : ns.Perm (l.map Int.ofNat)) (hs : ns.Pairwise (· ≤ ·)) : ns = (srt l).map Int.ofNat := by
  refine List.Perm.eq_of_pairwise (le := (· ≤ ·)) (fun a b _ _ h1 h2 => Int.le_antisymm h1 h2) hs ?_ (hp.trans ((srt_perm l).map _).symm)
  exact List.Pairwise.map _ (fun a b h => Int.ofNat_le.mpr h) (srt_le l)
theorem rowOf_snoc (tr : List E2) (e : E2) (v : Nat) : rowOf (tr ++ [e]) v = rowOf tr v ++ bit v e := by
  unfold rowOf
  rw [List.flatMap_append]
  simp
theorem rowOf_len (tr : List E2) (v : Nat) : (rowOf tr v).length ≤ tr.length := by
  induction tr with
  | nil => exact Nat.le_refl _
  | cons e r ih =>
    have : (rowOf (e :: r) v) = bit v e ++ rowOf r v := rfl
    rw [this, List.length_append, List.length_cons]
    have h1 : (bit v e).length ≤ 1 := by
      unfold bit
      split
      · exact Nat.le_refl _
      · split <;> simp
    omega
theorem mem_row {tr : List E2} (ne : ∀ e ∈ tr, e.1 ≠ e.2) {v w : Nat} : w ∈ rowOf tr v ↔ Adj tr v w := by
  unfold rowOf
  rw [List.mem_flatMap]
  constructor
  · rintro ⟨e, he, h⟩
    unfold bit at h
    split at h
    · next h1 =>
      rw [List.mem_singleton] at h
      exact .inl (by rw [← h1, h]; exact he)
    · split at h
      · next h2 =>
        rw [List.mem_singleton] at h
        exact .inr (by rw [← h2, h]; exact he)
      · cases h
  · rintro (h | h)
    · refine ⟨_, h, ?_⟩
      simp [bit]
    · refine ⟨_, h, ?_⟩
      have := ne _ h
      have h2 : ¬ w = v := this
      simp [bit, h2]
theorem mem_nb {tr : List E2} (ne : ∀ e ∈ tr, e.1 ≠ e.2) {v w : Nat} : w ∈ nb tr v ↔ Adj tr v w := by
  unfold nb
  rw [(srt_perm _).mem_iff]
  exact mem_row ne
theorem nb_len (tr : List E2) (v : Nat) : (nb tr v).length ≤ tr.length := by
  unfold nb
  rw [(srt_perm _).length_eq]
  exact rowOf_len tr v
end TR
namespace TR
open PySem PySem.Spec PyProof.Rows L2 L2.TT
/-- a list of lists (or tuples) in the heap: rows as f tells, all apart, none before in H -/
structure Rws (H H' : Hp) (r : Addr) (n : Nat) (o : List V → HO) (as : List Addr) (f : Nat → List Nat) : Prop where
  own : H' r = some (.lst (as.map V.ref))
  new : H r = none
  len : as.length = n
  at_ : ∀ (v : Nat) (a : Addr), as[v]? = some a → H' a = some (o ((f v).map iv)) ∧ H a = none ∧ a ≠ r
  nd : as.Nodup
theorem ints_map (l : List Nat) : (l.map Int.ofNat).map V.int = l.map iv := by rw [List.map_map]; rfl
theorem nodup_snoc {α : Type} {l : List α} {a : α} (h : l.Nodup) (ha : a ∉ l) : (l ++ [a]).Nodup := by
  rw [List.nodup_append]
  refine ⟨h, by simp, fun x hx y hy => ?_⟩
  rw [List.mem_singleton] at hy
  rintro rfl
  exact ha (hy ▸ hx)
theorem get_snoc {α : Type} {l : List α} {a x : α} {i : Nat} (h : (l ++ [a])[i]? = some x) : l[i]? = some x ∨ (i = l.length ∧ x = a) := by
  by_cases c : i < l.length
  · rw [List.getElem?_append_left c] at h
    exact .inl h
  · rw [List.getElem?_append_right (by omega)] at h
    by_cases c2 : i - l.length = 0
    · rw [c2] at h
      exact .inr ⟨by omega, (Option.some.inj h).symm⟩
    · exfalso
      obtain ⟨k, hk⟩ := Nat.exists_eq_succ_of_ne_zero c2
      rw [hk] at h
      cases h
/-- [[] for station in range(n)] -/
theorem rws_start {H : Hp} {r : Addr} (o : List V → HO) (f : Nat → List Nat) (nr : H r = none) : Rws H (upd H r (.lst [])) r 0 o [] f := ⟨upd_same, nr, rfl, fun v a h => (by cases h), List.nodup_nil⟩
theorem Rws.grow {H H' : Hp} {r : Addr} {n : Nat} {o : List V → HO} {as : List Addr} {f : Nat → List Nat} (R : Rws H H' r n o as f) (s : Same H H') {p : Addr} {H2 : Hp} (np : H' p = none) (s2 : ∀ b, b ≠ p → H' b ≠ none → H2 b = H' b) (hp : H2 p = some (o ((f n).map iv))) :
    Rws H (upd H2 r (.lst (as.map V.ref ++ [.ref p]))) r (n + 1) o (as ++ [p]) f := by
  have npr : p ≠ r := fun z => by rw [z, R.own] at np; cases np
  refine ⟨by rw [upd_same, List.map_append]; rfl, R.new, by rw [List.length_append, R.len]; rfl, fun v a h => ?_, ?_⟩
  · rcases get_snoc h with h | ⟨e, rfl⟩
    · obtain ⟨h1, h2, h3⟩ := R.at_ v a h
      have nap : a ≠ p := fun z => by rw [z, np] at h1; cases h1
      exact ⟨by rw [upd_ne h3, s2 a nap (by rw [h1]; simp)]; exact h1, h2, h3⟩
    · rw [R.len] at e
      subst e
      exact ⟨by rw [upd_ne npr]; exact hp, s.free np, npr⟩
  · refine nodup_snoc R.nd fun hm => ?_
    obtain ⟨i, hi⟩ := List.mem_iff_getElem?.mp hm
    have := (R.at_ i p hi).1
    rw [np] at this
    cases this
theorem Rws.same {H H' : Hp} {r : Addr} {n : Nat} {o : List V → HO} {as : List Addr} {f : Nat → List Nat} (R : Rws H H' r n o as f) {H2 : Hp} (s : Same H' H2) : Rws H H2 r n o as f :=
  ⟨s _ _ R.own, R.new, R.len, fun v a h => ⟨s _ _ (R.at_ v a h).1, (R.at_ v a h).2⟩, R.nd⟩
/-- one row is grown -/
theorem Rws.put {H H' : Hp} {r : Addr} {n : Nat} {o : List V → HO} {as : List Addr} {f g : Nat → List Nat} (R : Rws H H' r n o as f) {v : Nat} {a : Addr} (ha : as[v]? = some a) (hg : ∀ u, u ≠ v → g u = f u) :
    Rws H (upd H' a (o ((g v).map iv))) r n o as g := by
  obtain ⟨h1, h2, h3⟩ := R.at_ v a ha
  refine ⟨by rw [upd_ne h3.symm]; exact R.own, R.new, R.len, fun u b hb => ?_, R.nd⟩
  obtain ⟨k1, k2, k3⟩ := R.at_ u b hb
  refine ⟨?_, k2, k3⟩
  by_cases c : u = v
  · subst c
    rw [ha] at hb
    cases hb
    exact upd_same
  · have ne : b ≠ a := by
      rintro rfl
      have hl := (List.getElem?_eq_some_iff.mp hb).1
      exact c ((List.getElem?_inj hl R.nd).mp (hb.trans ha.symm))
    rw [upd_ne ne, hg u c]
    exact k1
theorem same_old {H H' : Hp} {a : Addr} (s : Same H H') (na : H a = none) (o : HO) : Same H (upd H' a o) := fun b u e => by rw [upd_ne (ne_of_none e na)]; exact s b u e
theorem Rws.base {H0 H H' : Hp} {r : Addr} {n : Nat} {o : List V → HO} {as : List Addr} {f : Nat → List Nat} (R : Rws H H' r n o as f) (s : Same H0 H) : Rws H0 H' r n o as f :=
  ⟨R.own, s.free R.new, R.len, fun v a h => ⟨(R.at_ v a h).1, s.free (R.at_ v a h).2.1, (R.at_ v a h).2.2⟩, R.nd⟩
theorem Rws.get {H H' : Hp} {r : Addr} {n : Nat} {o : List V → HO} {as : List Addr} {f : Nat → List Nat} (R : Rws H H' r n o as f) {v : Nat} (h : v < n) : ∃ a, as[v]? = some a ∧ H' a = some (o ((f v).map iv)) ∧ H a = none ∧ a ≠ r := by
  have hl : v < as.length := by rw [R.len]; exact h
  exact ⟨as[v], List.getElem?_eq_getElem hl, R.at_ v _ (List.getElem?_eq_getElem hl)⟩
end TR
namespace TR
open PySem PySem.Spec PyProof.Rows L2 L2.TT
theorem ixN_lt {n v : Nat} (h : v < n) : ixN n (v : Int) = some v := by
  unfold ixN
  rw [if_pos (by omega), if_pos (by omega)]
  simp
theorem cs_K {X : Cx} {K : PySem.W.Frag} (h : X.K = K) : CallR X (.builtin "sorted") (rSortedI K) := by
  subst h
  exact cr_sortedI
def rTupOf (K : PySem.W.Frag) : List V → Hp → VK → Prop := fun xs H Q => ∃ p ys, xs = [.ref p] ∧ ((SqL K H p ys ∧ ∀ l, H l = none → Q (.ref l) (upd H l (.tup ys))) ∨ (SqT K H p ys ∧ Q (.ref p) H))
theorem ct_K {X : Cx} {K : PySem.W.Frag} (h : X.K = K) : CallR X (.type "tuple") (rTupOf K) := by
  subst h
  exact call_tuple_of
def spNbs (K : PySem.W.Frag) : Sp := fun vs H Q _ => ∃ (a : Addr) (ps : List Addr) (tr : List E2), vs = [.ref a] ∧ SqT K H a (ps.map V.ref) ∧ Prs H ps tr ∧ (∀ e ∈ tr, e.1 ≠ e.2 ∧ e.1 < tr.length + 1 ∧ e.2 < tr.length + 1) ∧ tr.length ≤ 999 ∧
  ∀ (D : Addr) (ts : List Addr) (H' : Hp), Same H H' → Rws H H' D (tr.length + 1) HO.tup ts (nb tr) → Q (.ref D) H'
section
variable {P : Program} {w : World} {K : PySem.W.Frag} {mg : Str → Option Value} {base : Heap}
theorem sc_nbs : FnScope ["tracks", "rows", "one", "other", "station", "row"] ["tracks"] (defScope s_neighbours_of) := ⟨rfl, rfl, rfl, by decide +kernel, rfl, by decide +kernel, by decide +kernel⟩
theorem ok_nbs {f : Addr} {fd : FuncData} (F : Fun K "_neighbours_of" "_neighbours_of" s_neighbours_of f fd) (N : Nm mg) : FnOk P w K mg base CX0 1 f fd ["tracks"] (spNbs K) := by
  refine F.ok sc_nbs (fun vs H Q E h => ?_) (fun cdv A outer s H vs Q E hr h => ?_)
  · obtain ⟨a, ps, tr, rfl, _⟩ := h
    rfl
  · obtain ⟨a, ps, tr, rfl, hS, hP, T, hl, k⟩ := h
    refine ⟨_, pss_cons (ps_setLc (i := 1) (own := [("station", 4)]) (g := gName 4) (tt := tYes) (by rfl) sc_nbs.nd rfl rfl (sw_true rfl rfl rfl (by decide +kernel))
        (pi_range1 (by rfl) N.range (pa_cons (pe_op op_add (pe_callB call_len_seq (by rfl) N.len PySem.boot_len (pa_cons (pv 0) pa_nil)) pe_int) pa_nil))
        (blkOk_by (N := ["tracks", "rows", "one", "other", "station", "row"]) (sc := defScope s_neighbours_of) (by decide +kernel))
        (fun _ _ _ _ _ => pg_name (i := 4) sc_nbs.nd rfl (Or.inl rfl)) (fun _ _ _ _ _ => pts_nil) (fun _ _ _ _ _ => pe_lst pa_nil))
      (pss_cons (ps_for PassesOwn.never rfl (pi_tup (pv 0)) (pg_tup rfl (pgs_cons (pg_name (i := 2) sc_nbs.nd rfl (.inl rfl)) (pgs_cons (pg_name (i := 3) sc_nbs.nd rfl (.inl rfl)) pgs_nil)))
        (pss_cons (ps_expr (pe_bm PySem.F.plainAttrs_list PySem.F.slot_list_append PySem.F.type_list_append mt_append (pe_ix ix_list (pv 1) (pv 2) (fun _ _ => rfl)) (pa_cons (pv 3) pa_nil)))
        (pss_one (ps_expr (pe_bm PySem.F.plainAttrs_list PySem.F.slot_list_append PySem.F.type_list_append mt_append (pe_ix ix_list (pv 1) (pv 3) (fun _ _ => rfl)) (pa_cons (pv 2) pa_nil))))))
      (pss_one (ps_ret (pe_lc (own := [("row", 5)]) (g := gName 5) (tt := tYes) rfl sc_nbs.nd (pi_list (pv 1)) (blkOk_by (N := ["tracks", "rows", "one", "other", "station", "row"]) (sc := defScope s_neighbours_of) (by decide +kernel))
        (fun _ _ _ _ _ => pg_name (i := 5) sc_nbs.nd rfl (Or.inl rfl)) (fun _ _ _ _ _ => pts_nil)
        (fun _ _ _ _ _ => pe_callTy (ct_K (K := K) rfl) (by rfl) N.tuple boot_tuple (pa_cons (pe_callB (cs_K (K := K) rfl) (by rfl) N.sorted boot_sorted (pa_cons (pv 5) pa_nil)) pa_nil)))))), ?_⟩
    have lp : (ps.map V.ref).length = tr.length := by rw [List.length_map, hP.1]
    have e62 : (2 : Int) ^ 62 = 4611686018427387904 := by decide
    refine ⟨_, rfl, a, _, rfl, .inr hS, _, _, rfl, rfl, _, rfl, by omega, by rw [lp, e62]; omega, fun r nr => ?_⟩
    refine lc_range (lo := 0) (fun i H' => ∃ as, Rws H H' r i HO.lst as (fun _ => []) ∧ Same H H') ⟨[], rws_start _ _ nr, same_upd nr _⟩ ?_ ?_
    · rintro i H' hi ⟨as, R, s1⟩
      refine ⟨rfl, by show 0 ≤ sizeLine; exact Nat.zero_le _, fun p np => ⟨as.map V.ref, ?_, ?_, as ++ [p], ?_, ?_⟩⟩
      · have npr : r ≠ p := fun z => by rw [← z, R.own] at np; cases np
        rw [upd_ne npr]
        exact R.own
      · rw [List.length_map, R.len, sizeLine_eq]
        rw [lp] at hi
        omega
      · exact R.grow s1 np (fun b hb _ => upd_ne hb) upd_same
      · exact same_old (s1.trans (same_upd np _)) nr _
    rintro H1 ⟨as, R, s1⟩
    have en : (((ps.map V.ref).length : Int) + 1).toNat = tr.length + 1 := by rw [lp]; omega
    have R1 : Rws H H1 r (tr.length + 1) HO.lst as (fun _ => []) := en ▸ R
    clear R
    -- for one, other in tracks
    refine ⟨_, rfl, a, rfl, ⟨_, s1.tp hS⟩, for_tup (K := K) (a := a) (xs := ps.map V.ref) (fun i σ H' => ∃ (as : List Addr) (x2 x3 x4 x5 : Option V), σ = [some (.ref a), some (.ref r), x2, x3, x4, x5] ∧ Same H H' ∧ Rws H H' r (tr.length + 1) HO.lst as (rowOf (tr.take i)))
      ⟨as, none, none, none, none, rfl, s1, R1⟩ (fun i σ H' _ ⟨_, _, _, _, _, _, s2, _⟩ => s2.tp hS) ?_ ?_⟩
    · rintro i v σ H' hv ⟨as, x2, x3, x4, x5, rfl, s2, R⟩
      obtain ⟨p, e, rfl, hp, he, hH⟩ := hP.get hv
      have hm := List.mem_of_getElem? he
      obtain ⟨ne, b1, b2⟩ := T e hm
      have hH2 := s2 _ _ hH
      refine ⟨p, _, rfl, SqT.of hH2, rfl, ?_⟩
      refine ⟨_, _, rfl, _, _, rfl, rfl, ?_⟩
      obtain ⟨r1, g1, h1, n1, d1⟩ := R.get b1
      have hlen : ∀ u, ((rowOf (tr.take i) u).map iv).length ≤ 999 := fun u => by
        rw [List.length_map]
        have := rowOf_len (tr.take i) u
        rw [List.length_take] at this
        omega
      refine ⟨_, rfl, _, rfl, r, _, _, _, rfl, rfl, SqL.of R.own, atN (map_get g1), .inl ⟨rfl, _, SqL.of h1⟩, _, rfl, _, _, _, rfl, rfl, h1, by rw [sizeLine_eq]; have := hlen e.1; omega, ?_⟩
      have e1 : (rowOf (tr.take i) e.1).map iv ++ [iv e.2] = ((fun u => if u = e.1 then rowOf (tr.take i) u ++ [e.2] else rowOf (tr.take i) u) e.1).map iv := by simp
      have R2 := R.put (g := fun u => if u = e.1 then rowOf (tr.take i) u ++ [e.2] else rowOf (tr.take i) u) g1 (fun u hu => by simp [hu])
      rw [← e1] at R2
      have s3 := same_old s2 n1 (.lst ((rowOf (tr.take i) e.1).map iv ++ [iv e.2]))
      generalize upd H' r1 (.lst ((rowOf (tr.take i) e.1).map iv ++ [iv e.2])) = H2 at R2 s3
      obtain ⟨r2, g2, h2, n2, d2⟩ := R2.get b2
      rw [if_neg fun z => ne z.symm] at h2
      refine ⟨_, rfl, _, rfl, r, _, _, _, rfl, rfl, SqL.of R2.own, atN (map_get g2), .inl ⟨rfl, _, SqL.of h2⟩, _, rfl, _, _, _, rfl, rfl, h2, by rw [sizeLine_eq]; have := hlen e.2; omega, ?_⟩
      have et : tr.take (i + 1) = tr.take i ++ [e] := take_snoc he
      have e2 : (rowOf (tr.take i) e.2).map iv ++ [iv e.1] = (rowOf (tr.take (i + 1)) e.2).map iv := by
        rw [et, rowOf_snoc, List.map_append]
        have : bit e.2 e = [e.1] := by unfold bit; rw [if_neg ne, if_pos rfl]
        rw [this]
        rfl
      refine ⟨as, _, _, _, _, rfl, same_old s3 n2 _, ?_⟩
      rw [e2]
      refine R2.put g2 fun u hu => ?_
      rw [et, rowOf_snoc]
      show rowOf (tr.take i) u ++ bit u e = if u = e.1 then rowOf (tr.take i) u ++ [e.2] else rowOf (tr.take i) u
      by_cases c : u = e.1
      · rw [if_pos c]
        unfold bit
        rw [if_pos c.symm]
      · rw [if_neg c]
        unfold bit
        rw [if_neg fun z => c z.symm, if_neg fun z => hu z.symm, List.append_nil]
    · rintro σ H' ⟨as, x2, x3, x4, x5, rfl, s2, R⟩
      have ea : tr.take (ps.map V.ref).length = tr := by rw [lp]; exact List.take_length
      rw [ea] at R
      refine ⟨_, rfl, r, rfl, ⟨_, SqL.of R.own⟩, fun D nD => ?_⟩
      refine lc_list (K := K) (a := r) (xs := as.map V.ref) (fun i H2 => ∃ ts, Rws H' H2 D i HO.tup ts (nb tr) ∧ Same H' H2) ⟨[], rws_start _ _ nD, same_upd nD _⟩ (fun i H2 _ ⟨_, _, s3⟩ => s3.seq (SqL.of R.own)) ?_ ?_
      · rintro i v H2 hv ⟨ts, R2, s3⟩
        obtain ⟨b, hb, rfl⟩ := map_got hv
        obtain ⟨h1, _, _⟩ := R.at_ i b hb
        refine ⟨rfl, ?_⟩
        refine ⟨_, rfl, b, (rowOf tr i).map Int.ofNat, rfl, by rw [ints_map]; exact s3.seq (SqL.of h1), fun ns' p hp hs np => ?_⟩
        have en' : ns'.map V.int = (nb tr i).map iv := by
          rw [srt_of hp hs, ints_map]
          rfl
        rw [en']
        refine ⟨p, _, rfl, .inl ⟨SqL.of upd_same, fun l nl => ⟨ts.map V.ref, ?_, ?_, ts ++ [l], ?_, ?_⟩⟩⟩
        · have n1 : D ≠ l := fun z => by
            rw [← z, same_upd np _ _ _ R2.own] at nl
            cases nl
          rw [upd_ne n1]
          exact same_upd np _ _ _ R2.own
        · rw [List.length_map, R2.len, sizeLine_eq]
          have := (List.getElem?_eq_some_iff.mp hb).1
          rw [R.len] at this
          omega
        · refine (R2.same (same_upd np _)).grow (s3.trans (same_upd np _)) nl (fun b hb _ => upd_ne hb) upd_same
        · exact same_old ((s3.trans (same_upd np _)).trans (same_upd nl _)) nD _
      · rintro H2 ⟨ts, R2, s3⟩
        refine k D ts H2 (s2.trans s3) ?_
        have el : (as.map V.ref).length = tr.length + 1 := by rw [List.length_map, R.len]
        rw [← el]
        exact R2.base s2
end
end TR
namespace TR
noncomputable def p0 (tr : List E2) (v : Nat) : Nat := if v = 0 then 0 else par tr v
noncomputable def kids (tr : List E2) (v : Nat) : List Nat := (nb tr v).filter fun w => decide (w ≠ p0 tr v)
noncomputable def lay (tr : List E2) : Nat → List Nat
  | 0 => [0]
  | k + 1 => (lay tr k).flatMap (kids tr)
section
variable {tr : List E2}
/-- a list without repetition of numbers up to n has at most n + 1 items -/
theorem nd_len {n : Nat} {l : List Nat} (h : l.Nodup) (hb : ∀ x ∈ l, x ≤ n) : l.length ≤ n + 1 := by
  have hs : l ⊆ List.range (n + 1) := fun x hx => List.mem_range.mpr (by have := hb x hx; omega)
  have := h.length_le_of_subset hs
  simpa using this
theorem mem_kids (T : TreeL tr) {v w : Nat} : w ∈ kids tr v ↔ 0 < w ∧ par tr w = v ∧ w ≤ tr.length := by
  unfold kids
  rw [List.mem_filter, mem_nb T.ne]
  constructor
  · rintro ⟨h, hne⟩
    have hne := of_decide_eq_true hne
    rcases adj_par T h with ⟨h1, h2, h3⟩ | ⟨h1, h2, h3⟩
    · exfalso
      apply hne
      unfold p0
      rw [if_neg (by omega)]
      exact h2
    · exact ⟨h1, h2.symm, h3⟩
  · rintro ⟨h1, h2, h3⟩
    have ha := par_adj T h1 h3
    rw [h2] at ha
    refine ⟨ha.symm, decide_eq_true ?_⟩
    intro z
    have hlt := par_dep T h1
    rw [h2] at hlt
    unfold p0 at z
    by_cases c : v = 0
    · rw [if_pos c] at z
      omega
    · rw [if_neg c] at z
      have := par_dep T (y := v) (by omega)
      rw [← z] at this
      omega
theorem mem_lay (T : TreeL tr) : ∀ {k v : Nat}, v ∈ lay tr k ↔ v ≤ tr.length ∧ dep tr v = k
  | 0, v => by
    show v ∈ [0] ↔ _
    rw [List.mem_singleton]
    constructor
    · rintro rfl
      exact ⟨Nat.zero_le _, dep_zero⟩
    · rintro ⟨_, h⟩
      by_cases c : v = 0
      · exact c
      · rw [dep_succ T (by omega)] at h
        cases h
  | k + 1, v => by
    show v ∈ (lay tr k).flatMap (kids tr) ↔ _
    rw [List.mem_flatMap]
    constructor
    · rintro ⟨u, hu, hv⟩
      obtain ⟨h1, h2, h3⟩ := (mem_kids T).mp hv
      obtain ⟨_, h5⟩ := (mem_lay T).mp hu
      exact ⟨h3, by rw [dep_succ T h1, h2, h5]⟩
    · rintro ⟨h1, h2⟩
      have hv : 0 < v := by
        by_cases c : v = 0
        · subst c
          rw [dep_zero] at h2
          cases h2
        · omega
      rw [dep_succ T hv] at h2
      exact ⟨par tr v, (mem_lay T).mpr ⟨T.par_le v, by omega⟩, (mem_kids T).mpr ⟨hv, rfl, h1⟩⟩
/-- tracks that are different as pairs of ends -/
theorem row_nd0 : ∀ {tr : List E2}, (tr.map fun e => (mn e, mx e)).Nodup → (∀ e ∈ tr, e.1 ≠ e.2) → ∀ v, (rowOf tr v).Nodup
  | [], _, _, v => List.nodup_nil
  | e :: r, hn, ne, v => by
    rw [List.map_cons, List.nodup_cons] at hn
    show (bit v e ++ rowOf r v).Nodup
    have ne' : ∀ x ∈ r, x.1 ≠ x.2 := fun x hx => ne x (List.mem_cons_of_mem _ hx)
    rw [List.nodup_append]
    refine ⟨?_, row_nd0 hn.2 ne' v, ?_⟩
    · unfold bit
      split
      · simp
      · split <;> simp
    · rintro x hx y hy rfl
      apply hn.1
      have hy2 := (mem_row ne').mp hy
      have em : (mn e, mx e) = (mn (v, x), mx (v, x)) := by
        unfold bit at hx
        split at hx
        · next h1 =>
          rw [List.mem_singleton] at hx
          unfold mx mn
          rw [← h1, hx]
        · split at hx
          · next h2 =>
            rw [List.mem_singleton] at hx
            unfold mx mn
            rw [← h2, hx]
            show (min e.1 e.2, max e.1 e.2) = (min e.2 e.1, max e.2 e.1)
            rw [Nat.max_comm, Nat.min_comm]
          · cases hx
      rw [em]
      rcases hy2 with h | h
      · exact List.mem_map_of_mem (f := fun e => (mn e, mx e)) h
      · have := List.mem_map_of_mem (f := fun e => (mn e, mx e)) h
        have e2 : (mn (x, v), mx (x, v)) = (mn (v, x), mx (v, x)) := by
          show (min x v, max x v) = (min v x, max v x)
          rw [Nat.max_comm, Nat.min_comm]
        exact e2 ▸ this
theorem TreeL.nd2 (T : TreeL tr) : (tr.map fun e => (mn e, mx e)).Nodup := by
  refine List.pairwise_iff_getElem.mpr fun i j hi hj hij z => ?_
  rw [List.length_map] at hi hj
  rw [List.getElem_map, List.getElem_map] at z
  have h1 := List.getElem?_eq_getElem hi
  have h2 := List.getElem?_eq_getElem hj
  generalize tr[i] = e at h1 z
  generalize tr[j] = d at h2 z
  have z1 := congrArg Prod.fst z
  have z2 := congrArg Prod.snd z
  have z1 : mn e = mn d := z1
  have z2 : mx e = mx d := z2
  have : ch tr e = ch tr d := by
    have q : (e.1 = d.1 ∧ e.2 = d.2) ∨ (e.1 = d.2 ∧ e.2 = d.1) := by
      simp only [mn, mx] at z1 z2
      omega
    rcases q with ⟨a, b⟩ | ⟨a, b⟩
    · unfold ch
      rw [a, b]
    · unfold ch
      rw [a, b]
      have m := List.mem_of_getElem? h2
      obtain ⟨c1, c2, c3⟩ := T.ch_bd m
      have dd := par_dep T (y := ch tr d) c1
      rw [c3] at dd
      rcases cp tr d with ⟨x, y⟩ | ⟨x, y⟩
      · rw [← x, ← y] at dd
        rw [if_pos dd, if_neg (by omega)]
      · rw [← x, ← y] at dd
        rw [if_neg (by omega), if_pos dd]
  have := T.ch_inj h1 h2 this
  omega
theorem row_nd (T : TreeL tr) (v : Nat) : (rowOf tr v).Nodup := row_nd0 T.nd2 T.ne v
theorem nb_nd (T : TreeL tr) (v : Nat) : (nb tr v).Nodup := (srt_perm _).nodup_iff.mpr (row_nd T v)
theorem flat_nd (T : TreeL tr) : ∀ {l : List Nat}, l.Nodup → (l.flatMap (kids tr)).Nodup
  | [], _ => List.nodup_nil
  | a :: l, h => by
    rw [List.nodup_cons] at h
    show (kids tr a ++ l.flatMap (kids tr)).Nodup
    rw [List.nodup_append]
    refine ⟨(nb_nd T a).filter _, flat_nd T h.2, ?_⟩
    rintro x hx y hy rfl
    obtain ⟨u, hu, hy⟩ := List.mem_flatMap.mp hy
    have h1 := ((mem_kids T).mp hx).2.1
    have h2 := ((mem_kids T).mp hy).2.1
    exact h.1 (by rw [← h1, h2]; exact hu)
theorem lay_nd (T : TreeL tr) : ∀ k, (lay tr k).Nodup
  | 0 => by
    show [0].Nodup
    simp
  | k + 1 => flat_nd T (lay_nd T k)
theorem lay_len (T : TreeL tr) (k : Nat) : (lay tr k).length ≤ tr.length + 1 := nd_len (lay_nd T k) fun x hx => ((mem_lay T).mp hx).1
/-- the ancestors of a station are different: no depth is more than the number of tracks -/
theorem dep_le (T : TreeL tr) {y : Nat} (hy : y ≤ tr.length) : dep tr y ≤ tr.length := by
  have : ∀ m y, y ≤ tr.length → dep tr y = m → ∃ l : List Nat, l.Nodup ∧ l.length = m + 1 ∧ ∀ x ∈ l, x ≤ tr.length ∧ dep tr x ≤ m := by
    intro m
    induction m with
    | zero =>
      intro y hy e
      exact ⟨[y], by simp, rfl, fun x hx => by rw [List.mem_singleton] at hx; rw [hx]; exact ⟨hy, by omega⟩⟩
    | succ m ih =>
      intro y hy e
      have h0 : 0 < y := by
        by_cases c : y = 0
        · rw [c, dep_zero] at e
          cases e
        · omega
      have d := dep_succ T h0
      obtain ⟨l, h1, h2, h3⟩ := ih (par tr y) (T.par_le y) (by omega)
      refine ⟨y :: l, List.nodup_cons.mpr ⟨fun m => ?_, h1⟩, by rw [List.length_cons, h2], fun x hx => ?_⟩
      · have := (h3 y m).2
        omega
      · rcases List.mem_cons.mp hx with rfl | hx
        · exact ⟨hy, by omega⟩
        · have := h3 x hx
          exact ⟨this.1, by omega⟩
  obtain ⟨l, h1, h2, h3⟩ := this _ y hy rfl
  have := nd_len h1 fun x hx => (h3 x hx).1
  omega
/-- a layer without stations: none deeper either -/
theorem lay_none (T : TreeL tr) {k : Nat} (h : lay tr k = []) (m v : Nat) (_ : v ≤ m) (hv : v ≤ tr.length) : dep tr v < k := by
  have key : ∀ d v, v ≤ tr.length → dep tr v = d → d < k := by
    intro d
    induction d with
    | zero =>
      intro v hv e
      by_cases c : k = 0
      · exfalso
        subst c
        cases h
      · omega
    | succ d ih =>
      intro v hv e
      have h0 : 0 < v := by
        by_cases c : v = 0
        · rw [c, dep_zero] at e
          cases e
        · omega
      have ds := dep_succ T h0
      have := ih (par tr v) (T.par_le v) (by omega)
      by_cases c2 : d + 1 = k
      · exfalso
        have : v ∈ lay tr k := (mem_lay T).mpr ⟨hv, by omega⟩
        rw [h] at this
        cases this
      · omega
  exact key _ v hv rfl
theorem lay_lt (T : TreeL tr) {k : Nat} (h : lay tr k ≠ []) : k ≤ tr.length := by
  obtain ⟨v, hv⟩ := List.exists_mem_of_ne_nil _ h
  obtain ⟨h1, h2⟩ := (mem_lay T).mp hv
  have := dep_le T h1
  omega
end
end TR
namespace TR
open PySem PySem.Spec PyProof.Rows L2 L2.TT
def vec (n : Nat) (f : Nat → Nat) : List V := (List.range n).map fun v => iv (f v)
theorem vec_len (n : Nat) (f : Nat → Nat) : (vec n f).length = n := by simp [vec]
theorem vec_get {n v : Nat} {f : Nat → Nat} (h : v < n) : (vec n f)[v]? = some (iv (f v)) := by
  unfold vec
  rw [List.getElem?_map, List.getElem?_range h]
  rfl
theorem vec_snoc (n : Nat) (f : Nat → Nat) : vec (n + 1) f = vec n f ++ [iv (f n)] := by
  unfold vec
  rw [List.range_succ, List.map_append]
  rfl
theorem vec_set {n j x : Nat} {f : Nat → Nat} : (vec n f).set j (iv x) = vec n (fun v => if v = j then x else f v) := by
  apply List.ext_getElem?
  intro i
  rw [List.getElem?_set]
  by_cases hi : i < n
  · rw [vec_get hi, vec_get hi, vec_len]
    by_cases c : j = i
    · subst c
      rw [if_pos rfl, if_pos hi, if_pos rfl]
    · rw [if_neg c, if_neg fun z => c z.symm]
  · have e1 : (vec n f)[i]? = none := by rw [List.getElem?_eq_none_iff, vec_len]; omega
    have e2 : (vec n (fun v => if v = j then x else f v))[i]? = none := by rw [List.getElem?_eq_none_iff, vec_len]; omega
    rw [e1, e2, vec_len]
    by_cases c : j = i
    · subst c
      rw [if_pos rfl, if_neg hi]
    · rw [if_neg c]
theorem vec_cong {n : Nat} {f g : Nat → Nat} (h : ∀ v, v < n → f v = g v) : vec n f = vec n g := by
  unfold vec
  refine List.map_congr_left fun v hv => ?_
  rw [h v (List.mem_range.mp hv)]
noncomputable def fA (tr : List E2) (k v : Nat) : Nat := if dep tr v ≤ k then p0 tr v else 0
noncomputable def gA (tr : List E2) (k v : Nat) : Nat := if dep tr v ≤ k then dep tr v else 0
noncomputable def fB (tr : List E2) (k : Nat) (bl : List Nat) (v : Nat) : Nat := if v ∈ bl then par tr v else fA tr k v
noncomputable def gB (tr : List E2) (k : Nat) (bl : List Nat) (v : Nat) : Nat := if v ∈ bl then dep tr v else gA tr k v
/-- the two lists under way -/
structure Two (H H' : Hp) (A L : Addr) (n : Nat) (f g : Nat → Nat) : Prop where
  same : Same H H'
  nA : H A = none
  nL : H L = none
  ne : A ≠ L
  hA : H' A = some (.lst (vec n f))
  hL : H' L = some (.lst (vec n g))
theorem Two.ext {H H' H2 : Hp} {A L : Addr} {n : Nat} {f g : Nat → Nat} (t : Two H H' A L n f g) (s : Same H' H2) : Two H H2 A L n f g := ⟨t.same.trans s, t.nA, t.nL, t.ne, s _ _ t.hA, s _ _ t.hL⟩
theorem Two.cong {H H' : Hp} {A L : Addr} {n : Nat} {f g f' g' : Nat → Nat} (t : Two H H' A L n f g) (e : ∀ v, v < n → f v = f' v) (e' : ∀ v, v < n → g v = g' v) : Two H H' A L n f' g' := ⟨t.same, t.nA, t.nL, t.ne, by rw [← vec_cong e]; exact t.hA, by rw [← vec_cong e']; exact t.hL⟩
def spPlaces (K : PySem.W.Frag) : Sp := fun vs H Q _ => ∃ (a : Addr) (ts : List Addr) (tr : List E2), vs = [.ref a] ∧ SqL K H a (ts.map V.ref) ∧ ts.length = tr.length + 1 ∧ (∀ (v : Nat) (t : Addr), ts[v]? = some t → H t = some (.tup ((nb tr v).map iv))) ∧ TreeL tr ∧ tr.length ≤ 999 ∧
  ∀ (t A L : Addr) (H' : Hp), Two H H' A L (tr.length + 1) (p0 tr) (dep tr) → H' t = some (.tup [.ref A, .ref L]) → Q (.ref t) H'
/-- the state of a layer's walk -/
structure St3 (H H' : Hp) (A L lr b : Addr) (tr : List E2) (k : Nat) (bl : List Nat) : Prop where
  two : Two H H' A L (tr.length + 1) (fB tr k bl) (gB tr k bl)
  hlr : H' lr = some (.lst ((lay tr k).map iv))
  hb : H' b = some (.lst (bl.map iv))
theorem flat_take (tr : List E2) (k i : Nat) : (((lay tr k).take i).flatMap (kids tr)).length ≤ (lay tr (k + 1)).length := by
  show _ ≤ ((lay tr k).flatMap (kids tr)).length
  rw [show (lay tr k).flatMap (kids tr) = ((lay tr k).take i).flatMap (kids tr) ++ ((lay tr k).drop i).flatMap (kids tr) by rw [← List.flatMap_append, List.take_append_drop], List.length_append]
  omega
section
variable {P : Program} {w : World} {K : PySem.W.Frag} {mg : Str → Option Value} {base : Heap}
abbrev NPl : List Str := ["neighbours", "station", "above", "levels", "layer", "below", "near"]
theorem sc_pl : FnScope NPl ["neighbours"] (defScope s_places_below_first) := ⟨rfl, rfl, rfl, by decide +kernel, rfl, by decide +kernel, by decide +kernel⟩
theorem ok_places {f : Addr} {fd : FuncData} (F : Fun K "_places_below_first" "_places_below_first" s_places_below_first f fd) (N : Nm mg) : FnOk P w K mg base CX0 1 f fd ["neighbours"] (spPlaces K) := by
  refine F.ok sc_pl (fun vs H Q E h => ?_) (fun cdv A outer s H vs Q E hr h => ?_)
  · obtain ⟨a, ts, tr, rfl, _⟩ := h
    rfl
  · obtain ⟨a, ts, tr, rfl, hS, hts, hT, T, hl, k⟩ := h
    refine ⟨_, pss_cons (ps_setLc (i := 2) (own := [("station", 1)]) (g := gName 1) (tt := tYes) (by rfl) sc_pl.nd rfl rfl (sw_true rfl rfl rfl (by decide +kernel))
        (pi_list (pv 0)) (blkOk_by (N := NPl) (sc := defScope s_places_below_first) (by decide +kernel))
        (fun _ _ _ _ _ => pg_name (i := 1) sc_pl.nd rfl (Or.inl rfl)) (fun _ _ _ _ _ => pts_nil) (fun _ _ _ _ _ => pe_int))
      (pss_cons (ps_setLc (i := 3) (own := [("station", 1)]) (g := gName 1) (tt := tYes) (by rfl) sc_pl.nd rfl rfl (sw_true rfl rfl rfl (by decide +kernel))
        (pi_list (pv 0)) (blkOk_by (N := NPl) (sc := defScope s_places_below_first) (by decide +kernel))
        (fun _ _ _ _ _ => pg_name (i := 1) sc_pl.nd rfl (Or.inl rfl)) (fun _ _ _ _ _ => pts_nil) (fun _ _ _ _ _ => pe_int))
      (pss_cons (ps_set (i := 4) sc_pl.nd rfl (.inl rfl) (pe_lst (pa_cons pe_int pa_nil)))
      (pss_cons (ps_while PassesOwn.never (pt_truth (pv 4) (by intro _; rfl))
        (pss_cons (ps_set (i := 5) sc_pl.nd rfl (.inl rfl) (pe_lst pa_nil))
        (pss_cons (ps_for PassesOwn.never rfl (pi_list (pv 4)) (pg_name (i := 1) sc_pl.nd rfl (.inl rfl))
          (pss_one (ps_for PassesOwn.never rfl (pi_tup (pe_ix ix_list (pv 0) (pv 1) (fun _ _ => rfl))) (pg_name (i := 6) sc_pl.nd rfl (.inl rfl))
            (pss_one (ps_if (pt_cmpR op_ne (pv 6) (pe_ix ix_list (pv 2) (pv 1) (fun _ _ => rfl)) (nomark _))
              (pss_cons (ps_asg (pv 1) (pg_sub (pv 2) (pv 6) set_list))
              (pss_cons (ps_asg (pe_op op_add (pe_ix ix_list (pv 3) (pv 1) (fun _ _ => rfl)) pe_int) (pg_sub (pv 3) (pv 6) set_list))
              (pss_one (ps_expr (pe_bm PySem.F.plainAttrs_list PySem.F.slot_list_append PySem.F.type_list_append mt_append (pv 5) (pa_cons (pv 6) pa_nil)))))) pss_nil)))))
        (pss_one (ps_set (i := 4) sc_pl.nd rfl (.inl rfl) (pv 5))))))
      (pss_one (ps_ret (pe_tup (pa_cons (pv 2) (pa_cons (pv 3) pa_nil)))))))), ?_⟩
    have lts : (ts.map V.ref).length = tr.length + 1 := by rw [List.length_map, hts]
    refine ⟨_, rfl, a, rfl, ⟨_, hS⟩, fun Aa nA => ?_⟩
    refine lc_list (K := K) (a := a) (xs := ts.map V.ref) (fun i H' => H' = upd H Aa (.lst (vec i fun _ => 0))) rfl (fun i H' _ e => by rw [e]; exact (same_upd nA _).seq hS) (fun i v H' hv e => ?_) fun H1 e => ?_
    · subst e
      have hi := (List.getElem?_eq_some_iff.mp hv).1
      exact ⟨rfl, _, upd_same, by rw [vec_len, sizeLine_eq]; omega, by rw [upd_upd, vec_snoc]; rfl⟩
    have s1 : Same H H1 := e ▸ same_upd nA _
    have hA1 : H1 Aa = some (.lst (vec (tr.length + 1) fun _ => 0)) := by rw [e, lts]; exact upd_same
    clear e
    refine ⟨_, rfl, a, rfl, ⟨_, s1.seq hS⟩, fun L nL1 => ?_⟩
    refine lc_list (K := K) (a := a) (xs := ts.map V.ref) (fun i H' => H' = upd H1 L (.lst (vec i fun _ => 0))) rfl (fun i H' _ e => by rw [e]; exact (same_upd nL1 _).seq (s1.seq hS)) (fun i v H' hv e => ?_) fun H2 e => ?_
    · subst e
      have hi := (List.getElem?_eq_some_iff.mp hv).1
      exact ⟨rfl, _, upd_same, by rw [vec_len, sizeLine_eq]; omega, by rw [upd_upd, vec_snoc]; rfl⟩
    have s2 : Same H1 H2 := e ▸ same_upd nL1 _
    have hL2 : H2 L = some (.lst (vec (tr.length + 1) fun _ => 0)) := by rw [e, lts]; exact upd_same
    clear e
    have nAL : Aa ≠ L := fun z => by rw [← z, hA1] at nL1; cases nL1
    have tw0 : Two H H2 Aa L (tr.length + 1) (fun _ => 0) (fun _ => 0) := ⟨s1.trans s2, nA, s1.free nL1, nAL, s2 _ _ hA1, hL2⟩
    clear s1 s2 hA1 hL2 nL1
    refine ⟨by show 1 ≤ sizeLine; rw [sizeLine_eq]; decide, fun lr nlr => ?_⟩
    have l0A : lr ≠ Aa := fun z => by rw [z, tw0.hA] at nlr; cases nlr
    have l0L : lr ≠ L := fun z => by rw [z, tw0.hL] at nlr; cases nlr
    have tw1 := tw0.ext (same_upd nlr (.lst [V.int 0]))
    have hlr1 := upd_same (H := H2) (a := lr) (o := .lst [V.int 0])
    have nlrH := tw0.same.free nlr
    generalize upd H2 lr (.lst [V.int 0]) = H3 at tw1 hlr1
    clear tw0 nlr H1 H2
    have tw2 : Two H H3 Aa L (tr.length + 1) (fA tr 0) (gA tr 0) := tw1.cong (fun v hv => by
        show 0 = if dep tr v ≤ 0 then p0 tr v else 0
        by_cases c : v = 0
        · subst c
          rw [if_pos (by rw [dep_zero]; exact Nat.le_refl _)]
          unfold p0
          rw [if_pos rfl]
        · rw [if_neg (by rw [dep_succ T (by omega)]; omega)]) (fun v hv => by
        show 0 = if dep tr v ≤ 0 then dep tr v else 0
        split <;> omega)
    refine ⟨fun m σ H' => ∃ (k : Nat) (lr : Addr) (x1 x5 x6 : Option V), m = tr.length + 1 - k ∧ k ≤ tr.length + 1 ∧ σ = [some (.ref a), x1, some (.ref Aa), some (.ref L), some (.ref lr), x5, x6] ∧ Two H H' Aa L (tr.length + 1) (fA tr k) (gA tr k) ∧ H' lr = some (.lst ((lay tr k).map iv)) ∧ lr ≠ Aa ∧ lr ≠ L ∧ H lr = none,
      ⟨tr.length + 1, 0, lr, none, none, none, rfl, Nat.zero_le _, rfl, tw2, hlr1, l0A, l0L, nlrH⟩, ?_⟩
    clear tw1 tw2 hlr1 l0A l0L nlrH lr H3
    rintro m σ H1 ⟨kk, lr, x1, x5, x6, rfl, hk, rfl, tw, hlr, lA, lL, nlr⟩
    refine ⟨_, rfl, _, .inl ⟨_, SqL.of hlr, rfl⟩, ?_⟩
    refine ite2 (fun hc => ?_) (fun hc => ?_)
    · have hne : lay tr kk ≠ [] := fun z => by rw [z] at hc; cases hc
      have hkl := lay_lt T hne
      refine ⟨fun σ' H' => ∃ (lr : Addr) (x1 x5 x6 : Option V), σ' = [some (.ref a), x1, some (.ref Aa), some (.ref L), some (.ref lr), x5, x6] ∧ Two H H' Aa L (tr.length + 1) (fA tr (kk + 1)) (gA tr (kk + 1)) ∧ H' lr = some (.lst ((lay tr (kk + 1)).map iv)) ∧ lr ≠ Aa ∧ lr ≠ L ∧ H lr = none,
        fun σ' H' ⟨lr, x1, x5, x6, e, t, h1, h2, h3, h4⟩ => ⟨tr.length + 1 - (kk + 1), by omega, kk + 1, lr, x1, x5, x6, rfl, by omega, e, t, h1, h2, h3, h4⟩, ?_⟩
      refine ⟨by show 0 ≤ sizeLine; exact Nat.zero_le _, fun b nb1 => ?_⟩
      have bA : b ≠ Aa := fun z => by rw [z, tw.hA] at nb1; cases nb1
      have bL : b ≠ L := fun z => by rw [z, tw.hL] at nb1; cases nb1
      have bl : b ≠ lr := fun z => by rw [z, hlr] at nb1; cases nb1
      have nbH := tw.same.free nb1
      have tw1 := tw.ext (same_upd nb1 (.lst []))
      have hb1 := upd_same (H := H1) (a := b) (o := .lst [])
      have hlr1 := same_upd nb1 (.lst []) _ _ hlr
      generalize upd H1 b (.lst []) = H2 at tw1 hb1 hlr1
      clear tw hlr nb1 H1
      have S0 : St3 H H2 Aa L lr b tr kk [] := ⟨tw1.cong (fun v _ => by simp [fB]) (fun v _ => by simp [gB]), hlr1, hb1⟩
      clear tw1 hb1 hlr1
      refine ⟨_, rfl, lr, rfl, ⟨_, SqL.of S0.hlr⟩, for_list (K := K) (a := lr) (xs := (lay tr kk).map iv) (fun i σ H' => ∃ (x1 x6 : Option V), σ = [some (.ref a), x1, some (.ref Aa), some (.ref L), some (.ref lr), some (.ref b), x6] ∧ St3 H H' Aa L lr b tr kk (((lay tr kk).take i).flatMap (kids tr)))
        ⟨_, _, rfl, S0⟩ (fun i σ H' _ ⟨_, _, _, S⟩ => SqL.of S.hlr) ?_ ?_⟩
      · rintro i v σ H' hv ⟨x1, x6, rfl, S⟩
        obtain ⟨st, hst, rfl⟩ := map_got hv
        obtain ⟨hst1, hst2⟩ := (mem_lay T).mp (List.mem_of_getElem? hst)
        obtain ⟨t, ht⟩ : ∃ t, ts[st]? = some t := ⟨_, List.getElem?_eq_getElem (by omega)⟩
        have hHt := hT st t ht
        have blk : ∀ w ∈ ((lay tr kk).take i).flatMap (kids tr), dep tr w = kk + 1 := fun w hw => by
          obtain ⟨u, hu, hw⟩ := List.mem_flatMap.mp hw
          obtain ⟨w1, w2, w3⟩ := (mem_kids T).mp hw
          rw [dep_succ T w1, w2, ((mem_lay T).mp (List.mem_of_mem_take hu)).2]
        have bll := flat_take tr kk i
        have bl2 := lay_len T (kk + 1)
        generalize hbl : ((lay tr kk).take i).flatMap (kids tr) = B at S blk bll
        refine ⟨_, rfl, _, rfl, a, _, _, _, rfl, rfl, S.two.same.seq hS, atN (map_get ht), t, rfl, ⟨_, SqT.of (S.two.same _ _ hHt)⟩, for_tup (K := K) (a := t) (xs := (nb tr st).map iv) (fun j σ H' => ∃ (x6 : Option V), σ = [some (.ref a), some (iv st), some (.ref Aa), some (.ref L), some (.ref lr), some (.ref b), x6] ∧ St3 H H' Aa L lr b tr kk (B ++ ((nb tr st).take j).filter fun w => decide (w ≠ p0 tr st)))
          ⟨_, rfl, by simpa using S⟩ (fun j σ H' _ ⟨_, _, S⟩ => SqT.of (S.two.same _ _ hHt)) ?_ ?_⟩
        · rintro j v σ H' hv ⟨x6, rfl, S⟩
          obtain ⟨nw, hw, rfl⟩ := map_got hv
          have hnb : ((nb tr st).take (j + 1)).filter (fun w => decide (w ≠ p0 tr st)) = ((nb tr st).take j).filter (fun w => decide (w ≠ p0 tr st)) ++ [nw].filter (fun w => decide (w ≠ p0 tr st)) := by
            rw [take_snoc hw, List.filter_append]
          have blk2 : ∀ w ∈ B ++ ((nb tr st).take j).filter (fun w => decide (w ≠ p0 tr st)), dep tr w = kk + 1 := fun w hw => by
            rcases List.mem_append.mp hw with hw | hw
            · exact blk w hw
            · have hw2 : w ∈ kids tr st := by
                have := List.mem_filter.mp hw
                exact List.mem_filter.mpr ⟨List.mem_of_mem_take this.1, this.2⟩
              obtain ⟨w1, w2, w3⟩ := (mem_kids T).mp hw2
              rw [dep_succ T w1, w2, hst2]
          have len2 : ((B ++ ((nb tr st).take j).filter (fun w => decide (w ≠ p0 tr st))).map iv).length < sizeLine := by
            rw [List.length_map, List.length_append, sizeLine_eq]
            have h1 := List.length_filter_le (fun w => decide (w ≠ p0 tr st)) ((nb tr st).take j)
            rw [List.length_take] at h1
            have h2 := nb_len tr st
            omega
          generalize hB2 : B ++ ((nb tr st).take j).filter (fun w => decide (w ≠ p0 tr st)) = B2 at S blk2 len2
          have stB : st ∉ B2 := fun z => by have := blk2 st z; omega
          have fst : fB tr kk B2 st = p0 tr st := by
            unfold fB fA
            rw [if_neg stB, if_pos (by omega)]
          have gst : gB tr kk B2 st = kk := by
            unfold gB gA
            rw [if_neg stB, if_pos (by omega), hst2]
          have hA := S.two.hA
          refine ⟨_, rfl, _, rfl, _, rfl, Aa, _, _, _, rfl, rfl, SqL.of hA, atN (vec_get (by omega)), rfl, _, rfl, ?_⟩
          rw [fst]
          refine ite2 (fun hd => ?_) (fun hd => ?_)
          · have hne : nw ≠ p0 tr st := fun z => by rw [z] at hd; simp at hd
            have hkid : nw ∈ kids tr st := List.mem_filter.mpr ⟨List.mem_of_getElem? hw, decide_eq_true hne⟩
            obtain ⟨w1, w2, w3⟩ := (mem_kids T).mp hkid
            have dw : dep tr nw = kk + 1 := by rw [dep_succ T w1, w2, hst2]
            refine ⟨_, rfl, _, rfl, _, rfl, Aa, _, _, nw, rfl, rfl, hA, by rw [vec_len]; exact ixN_lt (by omega), ?_⟩
            rw [vec_set]
            have hL := S.two.hL
            have hb := S.hb
            have hlr := S.hlr
            have sm := same_old S.two.same S.two.nA (.lst (vec (tr.length + 1) fun v => if v = nw then st else fB tr kk B2 v))
            have hL' : upd H' Aa (.lst (vec (tr.length + 1) fun v => if v = nw then st else fB tr kk B2 v)) L = some (.lst (vec (tr.length + 1) (gB tr kk B2))) := by rw [upd_ne nAL.symm]; exact hL
            have hb' : upd H' Aa (.lst (vec (tr.length + 1) fun v => if v = nw then st else fB tr kk B2 v)) b = some (.lst (B2.map iv)) := by rw [upd_ne bA]; exact hb
            have hlr' : upd H' Aa (.lst (vec (tr.length + 1) fun v => if v = nw then st else fB tr kk B2 v)) lr = some (.lst ((lay tr kk).map iv)) := by rw [upd_ne lA]; exact hlr
            have hA' := upd_same (H := H') (a := Aa) (o := .lst (vec (tr.length + 1) fun v => if v = nw then st else fB tr kk B2 v))
            generalize upd H' Aa (.lst (vec (tr.length + 1) fun v => if v = nw then st else fB tr kk B2 v)) = H4 at sm hL' hb' hlr' hA'
            refine ⟨_, rfl, _, rfl, L, _, _, _, rfl, rfl, SqL.of hL', atN (vec_get (by omega)), _, _, rfl, rfl, _, rfl, _, rfl, L, _, _, nw, rfl, rfl, hL', by rw [vec_len]; exact ixN_lt (by omega), ?_⟩
            have ev : V.int (((gB tr kk B2 st : Nat) : Int) + 1) = iv (dep tr nw) := by
              rw [gst, dw]
              rfl
            generalize hz : (fun i j : Int => V.int (i + j)) ((gB tr kk B2 st : Nat) : Int) 1 = z
            have hz2 : z = iv (dep tr nw) := by rw [← hz]; exact ev
            subst hz2
            rw [vec_set]
            have sm2 := same_old sm S.two.nL (.lst (vec (tr.length + 1) fun v => if v = nw then dep tr nw else gB tr kk B2 v))
            have hA2 : upd H4 L (.lst (vec (tr.length + 1) fun v => if v = nw then dep tr nw else gB tr kk B2 v)) Aa = some (.lst (vec (tr.length + 1) fun v => if v = nw then st else fB tr kk B2 v)) := by rw [upd_ne nAL]; exact hA'
            have hb2 : upd H4 L (.lst (vec (tr.length + 1) fun v => if v = nw then dep tr nw else gB tr kk B2 v)) b = some (.lst (B2.map iv)) := by rw [upd_ne bL]; exact hb'
            have hlr2 : upd H4 L (.lst (vec (tr.length + 1) fun v => if v = nw then dep tr nw else gB tr kk B2 v)) lr = some (.lst ((lay tr kk).map iv)) := by rw [upd_ne lL]; exact hlr'
            have hL2 := upd_same (H := H4) (a := L) (o := .lst (vec (tr.length + 1) fun v => if v = nw then dep tr nw else gB tr kk B2 v))
            generalize upd H4 L (.lst (vec (tr.length + 1) fun v => if v = nw then dep tr nw else gB tr kk B2 v)) = H5 at sm2 hA2 hb2 hlr2 hL2
            refine ⟨_, rfl, .inl ⟨rfl, _, SqL.of hb2⟩, _, rfl, _, _, _, rfl, rfl, hb2, len2, ?_⟩
            have eB : B ++ ((nb tr st).take (j + 1)).filter (fun w => decide (w ≠ p0 tr st)) = B2 ++ [nw] := by
              rw [hnb, ← List.append_assoc, hB2]
              simp [hne]
            refine ⟨_, rfl, ?_⟩
            rw [eB]
            have cf : ∀ v, v < tr.length + 1 → (if v = nw then st else fB tr kk B2 v) = fB tr kk (B2 ++ [nw]) v := fun v _ => by
              unfold fB
              by_cases c : v = nw
              · subst c
                rw [if_pos rfl, if_pos (by simp), w2]
              · rw [if_neg c]
                by_cases c2 : v ∈ B2
                · rw [if_pos c2, if_pos (by simp [c2])]
                · rw [if_neg c2, if_neg (by simp [c, c2])]
            have cg : ∀ v, v < tr.length + 1 → (if v = nw then dep tr nw else gB tr kk B2 v) = gB tr kk (B2 ++ [nw]) v := fun v _ => by
              unfold gB
              by_cases c : v = nw
              · subst c
                rw [if_pos rfl, if_pos (by simp)]
              · rw [if_neg c]
                by_cases c2 : v ∈ B2
                · rw [if_pos c2, if_pos (by simp [c2])]
                · rw [if_neg c2, if_neg (by simp [c, c2])]
            refine ⟨⟨same_old sm2 nbH _, nA, S.two.nL, nAL, by rw [upd_ne bA.symm, ← vec_cong cf]; exact hA2, by rw [upd_ne bL.symm, ← vec_cong cg]; exact hL2⟩, by rw [upd_ne bl.symm]; exact hlr2, by rw [upd_same, List.map_append]; rfl⟩
          · have he : nw = p0 tr st := by
              by_cases c : nw = p0 tr st
              · exact c
              · exfalso
                apply hd
                have : ¬ (iv nw = iv (p0 tr st)) := fun z => c (iv_inj.mp z)
                simp [this]
            have eB : B ++ ((nb tr st).take (j + 1)).filter (fun w => decide (w ≠ p0 tr st)) = B2 := by
              rw [hnb, ← List.append_assoc, hB2]
              simp [he]
            refine ⟨_, rfl, ?_⟩
            rw [eB]
            exact S
        · rintro σ H' ⟨x6, rfl, S⟩
          refine ⟨_, _, rfl, ?_⟩
          rw [take_snoc hst, List.flatMap_append, hbl]
          have e1 : (nb tr st).take ((nb tr st).map iv).length = nb tr st := List.take_of_length_le (by rw [List.length_map]; exact Nat.le_refl _)
          rw [e1] at S
          have e2 : [st].flatMap (kids tr) = kids tr st := by simp
          rw [e2]
          exact S
      · rintro σ H' ⟨x1, x6, rfl, S⟩
        have e1 : (lay tr kk).take ((lay tr kk).map iv).length = lay tr kk := List.take_of_length_le (by rw [List.length_map]; exact Nat.le_refl _)
        rw [e1] at S
        have S : St3 H H' Aa L lr b tr kk (lay tr (kk + 1)) := S
        refine ⟨_, rfl, b, _, _, _, rfl, S.two.cong (fun v hv => ?_) (fun v hv => ?_), S.hb, bA, bL, nbH⟩
        · unfold fB fA
          by_cases c : v ∈ lay tr (kk + 1)
          · obtain ⟨c1, c2⟩ := (mem_lay T).mp c
            rw [if_pos c, if_pos (by omega)]
            unfold p0
            rw [if_neg]
            rintro rfl
            rw [dep_zero] at c2
            cases c2
          · rw [if_neg c]
            have c2 : dep tr v ≠ kk + 1 := fun z => c ((mem_lay T).mpr ⟨by omega, z⟩)
            by_cases c3 : dep tr v ≤ kk
            · rw [if_pos c3, if_pos (by omega)]
            · rw [if_neg c3, if_neg (by omega)]
        · unfold gB gA
          by_cases c : v ∈ lay tr (kk + 1)
          · obtain ⟨c1, c2⟩ := (mem_lay T).mp c
            rw [if_pos c, if_pos (by omega)]
          · rw [if_neg c]
            have c2 : dep tr v ≠ kk + 1 := fun z => c ((mem_lay T).mpr ⟨by omega, z⟩)
            by_cases c3 : dep tr v ≤ kk
            · rw [if_pos c3, if_pos (by omega)]
            · rw [if_neg c3, if_neg (by omega)]
    · have he : lay tr kk = [] := by
        cases e : lay tr kk with
        | nil => rfl
        | cons x r =>
          exfalso
          apply hc
          rw [e]
          rfl
      have hd := fun v (hv : v < tr.length + 1) => lay_none T he v v (Nat.le_refl _) (by omega)
      refine ⟨_, rfl, _, rfl, by show 2 ≤ sizeLine; rw [sizeLine_eq]; decide, fun t nt => ?_⟩
      refine k t Aa L _ ((tw.ext (same_upd nt _)).cong (fun v hv => ?_) (fun v hv => ?_)) upd_same
      · have := hd v hv
        unfold fA
        rw [if_pos (by omega)]
      · have := hd v hv
        unfold gA
        rw [if_pos (by omega)]
end
end TR
namespace TR
/-- tr2: the same tracks, each with the smaller end first, in some order -/
structure Norm (tr tr2 : List E2) : Prop where
  pm : tr2.Perm (tr.map fun e => (mn e, mx e))
namespace Norm
variable {tr tr2 : List E2}
theorem len (n : Norm tr tr2) : tr2.length = tr.length := by rw [n.pm.length_eq, List.length_map]
theorem adj (n : Norm tr tr2) {a b : Nat} : Adj tr2 a b ↔ Adj tr a b := by
  have key : ∀ {x y : Nat}, (x, y) ∈ tr2 → Adj tr x y := fun {x y} h => by
    have h2 := n.pm.mem_iff.mp h
    obtain ⟨e, he, q⟩ := List.mem_map.mp h2
    have q1 : mn e = x := congrArg Prod.fst q
    have q2 : mx e = y := congrArg Prod.snd q
    rcases ends e with ⟨e1, e2⟩ | ⟨e1, e2⟩
    · exact .inr (by rw [← q1, ← q2, ← e1, ← e2]; exact he)
    · exact .inl (by rw [← q1, ← q2, ← e1, ← e2]; exact he)
  have back : ∀ {x y : Nat}, (x, y) ∈ tr → Adj tr2 x y := fun {x y} h => by
    have h2 : (mn (x, y), mx (x, y)) ∈ tr2 := n.pm.mem_iff.mpr (List.mem_map.mpr ⟨_, h, rfl⟩)
    rcases ends (x, y) with ⟨e1, e2⟩ | ⟨e1, e2⟩
    · have e1 : x = mx (x, y) := e1
      have e2 : y = mn (x, y) := e2
      exact .inr (by rw [← e1, ← e2] at h2; exact h2)
    · have e1 : x = mn (x, y) := e1
      have e2 : y = mx (x, y) := e2
      exact .inl (by rw [← e1, ← e2] at h2; exact h2)
  constructor
  · rintro (h | h)
    · exact key h
    · exact (key h).symm
  · rintro (h | h)
    · exact back h
    · exact (back h).symm
theorem wn (n : Norm tr tr2) : ∀ {k v : Nat}, WN tr k v → WN tr2 k v
  | 0, _, h => h
  | _ + 1, _, ⟨u, h, a⟩ => ⟨u, n.wn h, n.adj.mpr a⟩
theorem tree (n : Norm tr tr2) (T : TreeL tr) : TreeL tr2 := by
  have key : ∀ e ∈ tr2, ∃ d ∈ tr, e = (mn d, mx d) := fun e he => by
    obtain ⟨d, hd, q⟩ := List.mem_map.mp (n.pm.mem_iff.mp he)
    exact ⟨d, hd, q.symm⟩
  refine ⟨fun e he => ?_, fun e he => ?_, fun v hv => ?_⟩
  · obtain ⟨d, hd, rfl⟩ := key e he
    have := mn_lt (T.ne d hd)
    show mn d ≠ mx d
    omega
  · obtain ⟨d, hd, rfl⟩ := key e he
    have := T.le d hd
    rw [n.len]
    show mn d ≤ _ ∧ mx d ≤ _
    unfold mn mx
    omega
  · rw [n.len] at hv
    obtain ⟨k, h⟩ := T.co v hv
    exact ⟨k, n.wn h⟩
end Norm
theorem idxOf_get {l : List Nat} (nd : l.Nodup) {i p : Nat} (h : l[i]? = some p) : l.idxOf p = i := by
  have hm := List.mem_of_getElem? h
  have hl := List.idxOf_lt_length_of_mem hm
  have h2 : l[l.idxOf p]? = some p := by
    rw [List.getElem?_eq_getElem hl]
    exact congrArg some (List.getElem_idxOf hl)
  exact (List.getElem?_inj hl nd).mp (h2.trans h.symm)
end TR
namespace TR
section
variable {tr : List E2}
/-- a walk along tracks -/
def Wk (tr : List E2) : List Nat → Prop
  | a :: b :: r => Adj tr a b ∧ Wk tr (b :: r)
  | _ => True
theorem Wk.tail {a : Nat} {l : List Nat} (h : Wk tr (a :: l)) : Wk tr l := by
  cases l with
  | nil => exact trivial
  | cons b r => exact h.2
theorem Wk.snoc : ∀ {l : List Nat} {x y : Nat}, Wk tr (l ++ [x]) → Adj tr x y → Wk tr (l ++ [x] ++ [y])
  | [], x, y, _, h => ⟨h, trivial⟩
  | [a], x, y, h, k => ⟨h.1, k, trivial⟩
  | a :: b :: r, x, y, h, k => ⟨h.1, Wk.snoc (l := b :: r) h.2 k⟩
theorem Wk.glue : ∀ {l r : List Nat} {x : Nat}, Wk tr (l ++ [x]) → Wk tr (x :: r) → Wk tr (l ++ x :: r)
  | [], r, x, _, h => h
  | [a], r, x, h, k => ⟨h.1, k⟩
  | a :: b :: l, r, x, h, k => ⟨h.1, Wk.glue (l := b :: l) h.2 k⟩
theorem Wk.rev : ∀ {l : List Nat}, Wk tr l → Wk tr l.reverse
  | [], _ => trivial
  | [a], _ => trivial
  | a :: b :: r, h => by
    have ih := Wk.rev (l := b :: r) h.2
    rw [List.reverse_cons, List.reverse_cons]
    rw [List.reverse_cons] at ih
    exact Wk.snoc ih h.1.sym
structure SW (tr : List E2) (a b : Nat) (l : List Nat) : Prop where
  wk : Wk tr l
  nd : l.Nodup
  hd : l.head? = some a
  lt : l.getLast? = some b
theorem SW.one (a : Nat) : SW tr a a [a] := ⟨trivial, by simp, rfl, rfl⟩
theorem SW.mem {a b : Nat} {l : List Nat} (s : SW tr a b l) : b ∈ l := List.mem_of_getLast? s.lt
theorem SW.snoc {a b c : Nat} {l : List Nat} (s : SW tr a b l) (h : Adj tr b c) (hn : c ∉ l) : SW tr a c (l ++ [c]) := by
  obtain ⟨wk, nd, hd, lt⟩ := s
  have hne : l ≠ [] := by rintro rfl; cases hd
  obtain ⟨l', e⟩ : ∃ l', l = l' ++ [b] := by
    rw [List.getLast?_eq_some_iff] at lt
    exact lt
  refine ⟨?_, ?_, ?_, by simp⟩
  · rw [e] at wk ⊢
    exact wk.snoc h
  · rw [List.nodup_append]
    refine ⟨nd, by simp, fun x hx y hy => ?_⟩
    rw [List.mem_singleton] at hy
    rintro rfl
    exact hn (hy ▸ hx)
  · rw [List.head?_append, hd]
    rfl
theorem desc_lin {p : Nat → Nat} {x y b : Nat} (h : Desc p x b) (k : Desc p y b) : Desc p x y ∨ Desc p y x := by
  induction h with
  | self => exact .inr k
  | @up b hb d ih =>
    cases k with
    | self => exact .inl (.up hb d)
    | up _ k => exact ih k
theorem desc_tr {p : Nat → Nat} {a x b : Nat} (hx : 0 < x) (e : p x = a) (h : Desc p x b) : Desc p a b := by
  induction h with
  | self => exact .up hx (e ▸ .self)
  | up hb _ ih => exact .up hb ih
theorem sib (T : TreeL tr) {x y b : Nat} (hx : 0 < x) (hy : 0 < y) (e : par tr x = par tr y) (h : Desc (par tr) x b) (k : Desc (par tr) y b) : x = y := by
  have key : ∀ {x y : Nat}, 0 < x → 0 < y → par tr x = par tr y → Desc (par tr) x y → x = y := fun {x y} hx hy e d => by
    by_cases c : y = x
    · exact c.symm
    · have d2 := (Desc.step hy c).mp d
      rw [← e] at d2
      have := Desc.dep T d2
      have := par_dep T hx
      omega
  rcases desc_lin h k with d | d
  · exact key hx hy e d
  · exact (key hy hx e.symm d).symm
theorem walk_out (T : TreeL tr) {a : Nat} : ∀ {l : List Nat} {x : Nat}, Wk tr (x :: l) → a ∉ x :: l → ¬ Desc (par tr) a x → ∀ z ∈ x :: l, ¬ Desc (par tr) a z
  | [], x, _, _, h, z, hz => by
    rw [List.mem_singleton] at hz
    rw [hz]
    exact h
  | y :: l, x, w, na, h, z, hz => by
    rcases List.mem_cons.mp hz with rfl | hz
    · exact h
    · refine walk_out T (x := y) w.2 (fun m => na (List.mem_cons_of_mem _ m)) ?_ z hz
      have nya : y ≠ a := fun e => na (by simp [e])
      intro d
      rcases adj_par T w.1 with ⟨h1, h2, _⟩ | ⟨h1, h2, _⟩
      · exact h (.up h1 (h2 ▸ d))
      · exact h (h2 ▸ (Desc.step h1 nya).mp d)
theorem walk_in (T : TreeL tr) {c : Nat} : ∀ {l : List Nat} {x : Nat}, Wk tr (x :: l) → par tr c ∉ x :: l → Desc (par tr) c x → ∀ z ∈ x :: l, Desc (par tr) c z
  | [], x, _, _, h, z, hz => by
    rw [List.mem_singleton] at hz
    rw [hz]
    exact h
  | y :: l, x, w, na, h, z, hz => by
    rcases List.mem_cons.mp hz with rfl | hz
    · exact h
    · refine walk_in T (x := y) w.2 (fun m => na (List.mem_cons_of_mem _ m)) ?_ z hz
      rcases adj_par T w.1 with ⟨h1, h2, _⟩ | ⟨h1, h2, _⟩
      · by_cases e : x = c
        · exfalso
          apply na
          rw [← e, ← h2]
          simp
        · rw [h2]
          exact (Desc.step h1 e).mp h
      · exact .up h1 (h2 ▸ h)
/-- between two stations there is one walk without repetition -/
theorem SW.uniq (T : TreeL tr) {b : Nat} : ∀ {l l' : List Nat} {a : Nat}, SW tr a b l → SW tr a b l' → l = l'
  | [], _, _, s, _ => by cases s.hd
  | _, [], _, _, s => by cases s.hd
  | a0 :: t, a1 :: t', a, s, s' => by
    have e0 : a0 = a := Option.some.inj s.hd
    have e1 : a1 = a := Option.some.inj s'.hd
    subst e0 e1
    have one : ∀ {t : List Nat}, SW tr a1 b (a1 :: t) → a1 = b → t = [] := fun {t} s e => by
      cases t with
      | nil => rfl
      | cons x r =>
        exfalso
        have hb : b ∈ x :: r := by
          have := s.lt
          rw [List.getLast?_cons_cons] at this
          exact List.mem_of_getLast? this
        rw [← e] at hb
        exact (List.nodup_cons.mp s.nd).1 hb
    by_cases c : a1 = b
    · rw [one s c, one s' c]
    · cases t with
      | nil => exact absurd (Option.some.inj s.lt) c
      | cons x r =>
        cases t' with
        | nil => exact absurd (Option.some.inj s'.lt) c
        | cons x' r' =>
          have sub : ∀ {x : Nat} {r : List Nat}, SW tr a1 b (a1 :: x :: r) → SW tr x b (x :: r) ∧ a1 ∉ x :: r ∧ Adj tr a1 x := fun {x r} s =>
            ⟨⟨s.wk.2, (List.nodup_cons.mp s.nd).2, rfl, by have := s.lt; rw [List.getLast?_cons_cons] at this; exact this⟩, (List.nodup_cons.mp s.nd).1, s.wk.1⟩
          obtain ⟨s1, n1, j1⟩ := sub s
          obtain ⟨s2, n2, j2⟩ := sub s'
          have out : ∀ {x : Nat} {r : List Nat}, SW tr x b (x :: r) → a1 ∉ x :: r → 0 < a1 → x = par tr a1 → ¬ Desc (par tr) a1 b := fun {x r} s n h e => by
            refine walk_out T s.wk n ?_ b s.mem
            intro d
            rw [e] at d
            have := Desc.dep T d
            have := par_dep T h
            omega
          have inn : ∀ {x : Nat} {r : List Nat}, SW tr x b (x :: r) → a1 ∉ x :: r → a1 = par tr x → Desc (par tr) x b := fun {x r} s n e => walk_in T s.wk (e ▸ n) .self b s.mem
          have exx : x = x' := by
            rcases adj_par T j1 with ⟨h1, h2, _⟩ | ⟨h1, h2, _⟩
            · rcases adj_par T j2 with ⟨k1, k2, _⟩ | ⟨k1, k2, _⟩
              · rw [h2, k2]
              · exact absurd (desc_tr k1 k2.symm (inn s2 n2 k2)) (out s1 n1 h1 h2)
            · rcases adj_par T j2 with ⟨k1, k2, _⟩ | ⟨k1, k2, _⟩
              · exact absurd (desc_tr h1 h2.symm (inn s1 n1 h2)) (out s2 n2 k1 k2)
              · exact sib T h1 k1 (h2.symm.trans k2) (inn s1 n1 h2) (inn s2 n2 k2)
          subst exx
          rw [SW.uniq T s1 s2]
end
end TR
namespace TR
section
variable {tr : List E2}
/-- two ways up, from a and from b, at x and y -/
structure Clb (tr : List E2) (a b x y : Nat) (F B : List Nat) : Prop where
  wf : Wk tr (F ++ [x])
  wb : Wk tr (B ++ [y])
  hf : (F ++ [x]).head? = some a
  hb : (B ++ [y]).head? = some b
  nf : (F ++ [x]).Nodup
  nb : (B ++ [y]).Nodup
  k1 : ∀ z ∈ F, z ∉ B ++ [y]
  k2 : ∀ w ∈ B, w ∉ F ++ [x]
  k3 : ∀ w ∈ B, dep tr x ≤ dep tr w
  k4 : ∀ z ∈ F, dep tr y < dep tr z
  fx : ∀ z ∈ F, dep tr x < dep tr z
  by_ : ∀ w ∈ B, dep tr y < dep tr w
  lx : x ≤ tr.length
  ly : y ≤ tr.length
  lf : ∀ z ∈ F, z ≤ tr.length
  lb : ∀ z ∈ B, z ≤ tr.length
theorem Clb.start {a b : Nat} (ha : a ≤ tr.length) (hb : b ≤ tr.length) : Clb tr a b a b [] [] :=
  ⟨trivial, trivial, rfl, rfl, by simp, by simp, (fun _ h => nomatch h), (fun _ h => nomatch h), (fun _ h => nomatch h), (fun _ h => nomatch h), (fun _ h => nomatch h), (fun _ h => nomatch h), ha, hb, (fun _ h => nomatch h), (fun _ h => nomatch h)⟩
theorem head_app {l : List Nat} {x y a : Nat} (h : (l ++ [x]).head? = some a) : (l ++ [x] ++ [y]).head? = some a := by
  rw [List.head?_append, h]
  rfl
theorem nd_snoc {l : List Nat} {x : Nat} (h : l.Nodup) (hx : x ∉ l) : (l ++ [x]).Nodup := by
  rw [List.nodup_append]
  refine ⟨h, by simp, fun u hu v hv => ?_⟩
  rw [List.mem_singleton] at hv
  rintro rfl
  exact hx (hv ▸ hu)
theorem mem_snoc {l : List Nat} {x z : Nat} : z ∈ l ++ [x] ↔ z ∈ l ∨ z = x := by simp
theorem Clb.up1 (T : TreeL tr) {a b x y : Nat} {F B : List Nat} (c : Clb tr a b x y F B) (ne : x ≠ y) (h : dep tr y < dep tr x) : 0 < x ∧ dep tr (par tr x) < dep tr x ∧ Clb tr a b (par tr x) y (F ++ [x]) B := by
  have hx : 0 < x := by
    by_cases z : x = 0
    · rw [z, dep_zero] at h
      omega
    · omega
  have ds := dep_succ T hx
  refine ⟨hx, by omega, c.wf.snoc (par_adj T hx c.lx), c.wb, head_app c.hf, c.hb, nd_snoc c.nf ?_, c.nb, ?_, ?_, ?_, ?_, ?_, c.by_, T.par_le x, c.ly, ?_, c.lb⟩
  · intro m
    rcases mem_snoc.mp m with m | m
    · have := c.fx _ m
      omega
    · rw [m] at ds
      omega
  · intro z hz
    rcases mem_snoc.mp hz with hz | rfl
    · exact c.k1 z hz
    · intro m
      rcases mem_snoc.mp m with m | m
      · exact c.k2 z m (by simp)
      · exact ne m
  · intro w hw m
    rcases mem_snoc.mp m with m | m
    · exact c.k2 w hw m
    · have := c.k3 w hw
      rw [m] at this
      omega
  · intro w hw
    have := c.k3 w hw
    omega
  · intro z hz
    rcases mem_snoc.mp hz with hz | rfl
    · exact c.k4 z hz
    · exact h
  · intro z hz
    rcases mem_snoc.mp hz with hz | rfl
    · have := c.fx z hz
      omega
    · omega
  · intro z hz
    rcases mem_snoc.mp hz with hz | rfl
    · exact c.lf z hz
    · exact c.lx
theorem Clb.up2 (T : TreeL tr) {a b x y : Nat} {F B : List Nat} (c : Clb tr a b x y F B) (ne : x ≠ y) (h : ¬ dep tr y < dep tr x) : 0 < y ∧ dep tr (par tr y) < dep tr y ∧ Clb tr a b x (par tr y) F (B ++ [y]) := by
  have hy : 0 < y := by
    by_cases z : y = 0
    · exfalso
      subst z
      rw [dep_zero] at h
      have : 0 < x := by omega
      rw [dep_succ T this] at h
      omega
    · omega
  have ds := dep_succ T hy
  refine ⟨hy, by omega, c.wf, c.wb.snoc (par_adj T hy c.ly), c.hf, head_app c.hb, c.nf, nd_snoc c.nb ?_, ?_, ?_, ?_, ?_, c.fx, ?_, c.lx, T.par_le y, c.lf, ?_⟩
  · intro m
    rcases mem_snoc.mp m with m | m
    · have := c.by_ _ m
      omega
    · rw [m] at ds
      omega
  · intro z hz m
    rcases mem_snoc.mp m with m | m
    · exact c.k1 z hz m
    · have := c.k4 z hz
      rw [m] at this
      omega
  · intro w hw
    rcases mem_snoc.mp hw with hw | rfl
    · exact c.k2 w hw
    · intro m
      rcases mem_snoc.mp m with m | m
      · exact c.k1 w m (by simp)
      · exact ne m.symm
  · intro w hw
    rcases mem_snoc.mp hw with hw | rfl
    · exact c.k3 w hw
    · omega
  · intro z hz
    have := c.k4 z hz
    omega
  · intro w hw
    rcases mem_snoc.mp hw with hw | rfl
    · have := c.by_ w hw
      omega
    · omega
  · intro z hz
    rcases mem_snoc.mp hz with hz | rfl
    · exact c.lb z hz
    · exact c.ly
theorem Clb.done {a b x : Nat} {F B : List Nat} (c : Clb tr a b x x F B) : SW tr a b (F ++ [x] ++ B.reverse) := by
  have hr : Wk tr (x :: B.reverse) := by
    have := c.wb.rev
    rw [List.reverse_append] at this
    exact this
  refine ⟨?_, ?_, ?_, ?_⟩
  · rw [List.append_assoc]
    exact c.wf.glue hr
  · rw [List.nodup_append]
    refine ⟨c.nf, ?_, fun u hu v hv => ?_⟩
    · exact (List.reverse_perm B).nodup_iff.mpr (List.nodup_append.mp c.nb).1
    · rintro rfl
      exact c.k2 u (List.mem_reverse.mp hv) hu
  · rw [List.head?_append, c.hf]
    rfl
  · cases B with
    | nil =>
      have e : x = b := Option.some.inj c.hb
      rw [e]
      simp
    | cons w r =>
      have e : w = b := Option.some.inj c.hb
      rw [List.getLast?_append, List.getLast?_reverse, e]
      rfl
end
end TR
namespace TR
section
variable {tr : List E2}
/-- the search's state: found, still to be looked at -/
structure Bf (tr : List E2) (st : Nat) (xs qs : List Nat) : Prop where
  st_ : st ∈ xs
  nd : xs.Nodup
  le : ∀ x ∈ xs, x ≤ tr.length
  sub : ∀ q ∈ qs, q ∈ xs
  cl : ∀ x ∈ xs, x ∉ qs → ∀ y, Adj tr x y → y ∈ xs
theorem Bf.start {st : Nat} (h : st ≤ tr.length) : Bf tr st [st] [st] :=
  ⟨by simp, by simp, fun x hx => by rw [List.mem_singleton] at hx; omega, fun q hq => hq, fun x hx hn => absurd hx hn⟩
/-- one station is being looked at, j of its neighbours have been -/
structure Bg (tr : List E2) (st sp j : Nat) (xs qs : List Nat) : Prop where
  st_ : st ∈ xs
  nd : xs.Nodup
  le : ∀ x ∈ xs, x ≤ tr.length
  sub : ∀ q ∈ qs, q ∈ xs
  cl : ∀ x ∈ xs, x ∉ qs → x ≠ sp → ∀ y, Adj tr x y → y ∈ xs
  sp_ : sp ∈ xs
  dn : ∀ y ∈ (nb tr sp).take j, y ∈ xs
theorem Bg.skip {st sp j y : Nat} {xs qs : List Nat} (b : Bg tr st sp j xs qs) (hy : (nb tr sp)[j]? = some y) (h : y ∈ xs) : Bg tr st sp (j + 1) xs qs := by
  refine ⟨b.st_, b.nd, b.le, b.sub, b.cl, b.sp_, fun z hz => ?_⟩
  rw [List.take_succ, hy] at hz
  rcases List.mem_append.mp hz with hz | hz
  · exact b.dn z hz
  · have : z = y := by simpa using hz
    rw [this]
    exact h
theorem Bg.add (T : TreeL tr) {st sp j y : Nat} {xs qs : List Nat} (b : Bg tr st sp j xs qs) (hy : (nb tr sp)[j]? = some y) (h : y ∉ xs) : Bg tr st sp (j + 1) (xs ++ [y]) (qs ++ [y]) := by
  have ha : Adj tr sp y := (mem_nb T.ne).mp (List.mem_of_getElem? hy)
  have hl : y ≤ tr.length := by
    exact (T.adj_le ha).2
  refine ⟨List.mem_append_left _ b.st_, nd_snoc b.nd h, fun x hx => ?_, fun q hq => ?_, fun x hx hn ne z hz => ?_, List.mem_append_left _ b.sp_, fun z hz => ?_⟩
  · rcases mem_snoc.mp hx with hx | rfl
    · exact b.le x hx
    · exact hl
  · rcases mem_snoc.mp hq with hq | rfl
    · exact List.mem_append_left _ (b.sub q hq)
    · simp
  · rcases mem_snoc.mp hx with hx | rfl
    · exact List.mem_append_left _ (b.cl x hx (fun m => hn (List.mem_append_left _ m)) ne z hz)
    · exact absurd (by simp) hn
  · rw [List.take_succ, hy] at hz
    rcases List.mem_append.mp hz with hz | hz
    · exact List.mem_append_left _ (b.dn z hz)
    · have : z = y := by simpa using hz
      rw [this]
      simp
theorem Bg.back (T : TreeL tr) {st sp : Nat} {xs qs : List Nat} (b : Bg tr st sp (nb tr sp).length xs qs) : Bf tr st xs qs := by
  refine ⟨b.st_, b.nd, b.le, b.sub, fun x hx hn y hy => ?_⟩
  by_cases c : x = sp
  · subst c
    apply b.dn
    rw [List.take_length]
    exact (mem_nb T.ne).mpr hy
  · exact b.cl x hx hn c y hy
theorem Bf.all (T : TreeL tr) {st : Nat} {xs : List Nat} (b : Bf tr st xs []) : ∀ x, x ≤ tr.length → x ∈ xs := by
  have cl : ∀ x ∈ xs, ∀ y, Adj tr x y → y ∈ xs := fun x hx => b.cl x hx (by simp)
  have up : ∀ (k x : Nat), dep tr x ≤ k → x ∈ xs → 0 ∈ xs := by
    intro k
    induction k with
    | zero =>
      intro x hx h
      by_cases c : x = 0
      · rw [← c]
        exact h
      · have := dep_succ T (y := x) (by omega)
        omega
    | succ k ih =>
      intro x hx h
      by_cases c : x = 0
      · rw [← c]
        exact h
      · have hlt := dep_succ T (y := x) (by omega)
        exact ih (par tr x) (by omega) (cl x h _ (par_adj T (by omega) (b.le x h)))
  have h0 := up _ st (Nat.le_refl _) b.st_
  have dn : ∀ (k x : Nat), dep tr x ≤ k → x ≤ tr.length → x ∈ xs := by
    intro k
    induction k with
    | zero =>
      intro x hx _
      by_cases c : x = 0
      · rw [c]
        exact h0
      · have := dep_succ T (y := x) (by omega)
        omega
    | succ k ih =>
      intro x hx hl
      by_cases c : x = 0
      · rw [c]
        exact h0
      · have hlt := dep_succ T (y := x) (by omega)
        exact cl _ (ih (par tr x) (by omega) (T.par_le x)) _ (par_adj T (by omega) hl).sym
  exact fun x hx => dn _ x (Nat.le_refl _) hx
theorem Bf.len {st : Nat} {xs qs : List Nat} (b : Bf tr st xs qs) : xs.length ≤ tr.length + 1 := nd_len b.nd b.le
theorem Bg.len {st sp j : Nat} {xs qs : List Nat} (b : Bg tr st sp j xs qs) : xs.length ≤ tr.length + 1 := nd_len b.nd b.le
end
end TR
namespace TR
section
variable {tr : List E2}
/-- the stations of a layer, each with where it was entered from -/
def nxt (tr : List E2) (x : Nat × Option Nat) : List (Nat × Option Nat) := ((nb tr x.1).filter fun w => decide (some w ≠ x.2)).map fun w => (w, some x.1)
def lyr (tr : List E2) (s : Nat) (b : Option Nat) : Nat → List (Nat × Option Nat)
  | 0 => [(s, b)]
  | k + 1 => (lyr tr s b k).flatMap (nxt tr)
theorem mem_nxt (T : TreeL tr) {x y : Nat × Option Nat} : y ∈ nxt tr x ↔ Adj tr x.1 y.1 ∧ some y.1 ≠ x.2 ∧ y.2 = some x.1 := by
  unfold nxt
  rw [List.mem_map]
  constructor
  · rintro ⟨w, hw, rfl⟩
    rw [List.mem_filter, mem_nb T.ne] at hw
    exact ⟨hw.1, of_decide_eq_true hw.2, rfl⟩
  · rintro ⟨h1, h2, h3⟩
    refine ⟨y.1, ?_, ?_⟩
    · rw [List.mem_filter, mem_nb T.ne]
      exact ⟨h1, decide_eq_true h2⟩
    · rw [← h3]
noncomputable def ms (tr : List E2) (x : Nat × Option Nat) : Nat := if 0 < x.1 ∧ x.2 = some (par tr x.1) then tr.length + 1 - dep tr x.1 else tr.length + 1 + dep tr x.1
theorem ms_nxt (T : TreeL tr) {x y : Nat × Option Nat} (hx : x.1 ≤ tr.length) (h : y ∈ nxt tr x) : ms tr y < ms tr x ∧ y.1 ≤ tr.length := by
  obtain ⟨v, e⟩ := x
  obtain ⟨w, e'⟩ := y
  obtain ⟨h1, h2, h3⟩ := (mem_nxt T).mp h
  have h3 : e' = some v := h3
  subst h3
  have h2 : some w ≠ e := h2
  have hx : v ≤ tr.length := hx
  have h1 : Adj tr v w := h1
  unfold ms
  rcases adj_par T h1 with ⟨a1, a2, a3⟩ | ⟨a1, a2, a3⟩
  · have lt := dep_succ T a1
    rw [← a2] at lt
    have c1 : ¬ (0 < v ∧ e = some (par tr v)) := fun z => h2 (by rw [z.2, a2])
    have c2 : ¬ (0 < w ∧ some v = some (par tr w)) := fun z => by
      have e1 := Option.some.inj z.2
      have := dep_succ T z.1
      rw [← e1] at this
      omega
    show (if 0 < w ∧ some v = some (par tr w) then _ else _) < (if 0 < v ∧ e = some (par tr v) then _ else _) ∧ w ≤ tr.length
    rw [if_neg c1, if_neg c2]
    refine ⟨?_, (T.adj_le h1).2⟩
    show tr.length + 1 + dep tr w < tr.length + 1 + dep tr v
    omega
  · have lt := dep_succ T a1
    rw [← a2] at lt
    have dv := dep_le T a3
    have c2 : 0 < w ∧ some v = some (par tr w) := ⟨a1, by rw [a2]⟩
    show (if 0 < w ∧ some v = some (par tr w) then _ else _) < (if 0 < v ∧ e = some (par tr v) then _ else _) ∧ w ≤ tr.length
    rw [if_pos c2]
    refine ⟨?_, a3⟩
    show tr.length + 1 - dep tr w < _
    split
    · show _ < tr.length + 1 - dep tr v
      omega
    · show _ < tr.length + 1 + dep tr v
      omega
theorem lyr_ms (T : TreeL tr) {s : Nat} {b : Option Nat} (hs : s ≤ tr.length) : ∀ (k : Nat) (x : Nat × Option Nat), x ∈ lyr tr s b k → ms tr x + k ≤ 2 * tr.length + 2 ∧ x.1 ≤ tr.length
  | 0, x, h => by
    have e : x = (s, b) := by simpa [lyr] using h
    subst e
    refine ⟨?_, hs⟩
    have := dep_le T hs
    unfold ms
    split <;> (simp only; omega)
  | k + 1, x, h => by
    have h : x ∈ (lyr tr s b k).flatMap (nxt tr) := h
    obtain ⟨y, hy, hx⟩ := List.mem_flatMap.mp h
    obtain ⟨i1, i2⟩ := lyr_ms T hs k y hy
    obtain ⟨j1, j2⟩ := ms_nxt T i2 hx
    exact ⟨by omega, j2⟩
theorem lyr_le (T : TreeL tr) {s : Nat} {b : Option Nat} (hs : s ≤ tr.length) {k : Nat} (h : lyr tr s b k ≠ []) : k ≤ 2 * tr.length + 2 := by
  obtain ⟨x, hx⟩ := List.exists_mem_of_ne_nil _ h
  have := (lyr_ms T hs k x hx).1
  omega
/-- a part of a walk without repetition -/
theorem SW.part {a b : Nat} {l r : List Nat} {w : Nat} (s : SW tr a b (l ++ w :: r)) : SW tr w b (w :: r) := by
  refine ⟨?_, (List.nodup_append.mp s.nd).2.1, rfl, ?_⟩
  · have : ∀ {l : List Nat}, Wk tr (l ++ w :: r) → Wk tr (w :: r) := by
      intro l
      induction l with
      | nil => exact fun h => h
      | cons c l ih => exact fun h => ih h.tail
    exact this s.wk
  · have := s.lt
    rw [List.getLast?_append] at this
    cases e : (w :: r).getLast? with
    | none => simp at e
    | some z =>
      rw [e] at this
      exact this
/-- a walk is gone on with, not back -/
theorem SW.on (T : TreeL tr) {a v w : Nat} {l : List Nat} {e : Option Nat} (s : SW tr a v l) (he : ∀ l', l = l' ++ [v] → l' ≠ [] → l'.getLast? = e) (h : Adj tr v w) (hw : some w ≠ e) : SW tr a w (l ++ [w]) := by
  refine s.snoc h fun hm => ?_
  have hvw : v ≠ w := fun z => by
    subst z
    rcases h with h | h
    · exact T.ne _ h rfl
    · exact T.ne _ h rfl
  obtain ⟨p, r, rfl⟩ := List.append_of_mem hm
  have s1 := s.part
  have s2 : SW tr w v [w, v] := ⟨⟨h.symm, trivial⟩, by simp; exact fun z => hvw z.symm, rfl, rfl⟩
  have e1 := SW.uniq T s1 s2
  have e2 : r = [v] := by
    have := List.cons.inj e1
    exact this.2
  subst e2
  have := he (p ++ [w]) (by simp) (by simp)
  rw [List.getLast?_append] at this
  exact hw this
/-- each station of a layer is reached by a walk of its own -/
theorem lyr_sw (T : TreeL tr) {s : Nat} {b : Option Nat} : ∀ (k : Nat) (x : Nat × Option Nat), x ∈ lyr tr s b k → ∃ l, SW tr s x.1 l ∧ l.length = k + 1 ∧ (∀ l', l = l' ++ [x.1] → l' ≠ [] → l'.getLast? = x.2)
  | 0, x, h => by
    have e : x = (s, b) := by simpa [lyr] using h
    subst e
    refine ⟨[s], SW.one s, rfl, fun l' h1 h2 => ?_⟩
    exfalso
    have := congrArg List.length h1
    rw [List.length_append] at this
    have : l'.length = 0 := by
      simp at this
      exact this ▸ rfl
    exact h2 (List.length_eq_zero_iff.mp this)
  | k + 1, x, h => by
    have h : x ∈ (lyr tr s b k).flatMap (nxt tr) := h
    obtain ⟨y, hy, hx⟩ := List.mem_flatMap.mp h
    obtain ⟨l, i1, i2, i3⟩ := lyr_sw T k y hy
    obtain ⟨h1, h2, h3⟩ := (mem_nxt T).mp hx
    refine ⟨l ++ [x.1], i1.on T i3 h1 h2, by rw [List.length_append, i2]; rfl, fun l' e1 e2 => ?_⟩
    have := (List.append_inj' e1 rfl).1
    rw [← this, h3]
    exact i1.lt
end
end TR
namespace TR
section
variable {tr : List E2}
theorem nxt_fst {x : Nat × Option Nat} : (nxt tr x).map Prod.fst = (nb tr x.1).filter fun w => decide (some w ≠ x.2) := by
  unfold nxt
  rw [List.map_map]
  have : (Prod.fst ∘ fun w => ((w, some x.1) : Nat × Option Nat)) = id := rfl
  rw [this, List.map_id]
/-- the stations of a layer are different -/
theorem lyr_nd (T : TreeL tr) {s : Nat} {b : Option Nat} : ∀ k, ((lyr tr s b k).map Prod.fst).Nodup
  | 0 => by
    show [s].Nodup
    simp
  | k + 1 => by
    have key : ∀ {L : List (Nat × Option Nat)}, (∀ x ∈ L, x ∈ lyr tr s b k) → (L.map Prod.fst).Nodup → ((L.flatMap (nxt tr)).map Prod.fst).Nodup := by
      intro L
      induction L with
      | nil => exact fun _ _ => List.nodup_nil
      | cons x L ih =>
        intro hL hn
        rw [List.map_cons, List.nodup_cons] at hn
        have e : (x :: L).flatMap (nxt tr) = nxt tr x ++ L.flatMap (nxt tr) := rfl
        rw [e, List.map_append, List.nodup_append]
        refine ⟨?_, ih (fun y hy => hL y (List.mem_cons_of_mem _ hy)) hn.2, ?_⟩
        · rw [nxt_fst]
          exact (nb_nd T _).filter _
        · rintro w hw w' hw' rfl
          obtain ⟨y, hy, ey⟩ := List.mem_map.mp hw
          obtain ⟨y', hy', ey'⟩ := List.mem_map.mp hw'
          obtain ⟨z, hz, hyz⟩ := List.mem_flatMap.mp hy'
          have m1 : y ∈ lyr tr s b (k + 1) := List.mem_flatMap.mpr ⟨x, hL x (by simp), hy⟩
          have m2 : y' ∈ lyr tr s b (k + 1) := List.mem_flatMap.mpr ⟨z, hL z (List.mem_cons_of_mem _ hz), hyz⟩
          obtain ⟨l, a1, a2, a3⟩ := lyr_sw T (k + 1) y m1
          obtain ⟨l', b1, b2, b3⟩ := lyr_sw T (k + 1) y' m2
          rw [ey] at a1 a3
          rw [ey'] at b1 b3
          have el := SW.uniq T a1 b1
          subst el
          obtain ⟨q, hq⟩ : ∃ q, l = q ++ [w] := by
            have := a1.lt
            rw [List.getLast?_eq_some_iff] at this
            exact this
          have qne : q ≠ [] := by
            rintro rfl
            rw [hq] at a2
            simp at a2
          have e1 := a3 q hq qne
          have e2 := b3 q hq qne
          rw [((mem_nxt T).mp hy).2.2] at e1
          rw [((mem_nxt T).mp hyz).2.2] at e2
          have exz : x.1 = z.1 := Option.some.inj (e1.symm.trans e2)
          exact hn.1 (by rw [exz]; exact List.mem_map_of_mem hz)
    exact key (fun x hx => hx) (lyr_nd T k)
theorem lyr_len (T : TreeL tr) {s : Nat} {b : Option Nat} (hs : s ≤ tr.length) (k : Nat) : (lyr tr s b k).length ≤ tr.length + 1 := by
  have h := nd_len (n := tr.length) (lyr_nd T (s := s) (b := b) k) (fun x hx => by
    obtain ⟨y, hy, rfl⟩ := List.mem_map.mp hx
    exact (lyr_ms T hs k y hy).2)
  rw [List.length_map] at h
  exact h
end
end TR
namespace TR
def nrm (e : E2) : E2 := (mn e, mx e)
/-- pairs in their order -/
def lexle (a b : E2) : Bool := decide (a.1 < b.1) || (decide (a.1 = b.1) && decide (a.2 ≤ b.2))
theorem lexle_iff {a b : E2} : lexle a b = true ↔ a.1 < b.1 ∨ (a.1 = b.1 ∧ a.2 ≤ b.2) := by
  unfold lexle
  simp
def srt2 (l : List E2) : List E2 := l.mergeSort lexle
theorem srt2_perm (l : List E2) : (srt2 l).Perm l := List.mergeSort_perm l _
theorem srt2_le (l : List E2) : (srt2 l).Pairwise (fun a b => lexle a b = true) :=
  List.pairwise_mergeSort (le := lexle) (fun a b c h k => by
    rw [lexle_iff] at h k ⊢
    omega) (fun a b => by
    rw [Bool.or_eq_true, lexle_iff, lexle_iff]
    omega) l
theorem srt2_of {l l' : List E2} (hp : l'.Perm l) (hs : l'.Pairwise (fun a b => lexle a b = true)) : l' = srt2 l := by
  refine List.Perm.eq_of_pairwise (le := fun a b => lexle a b = true) (fun a b _ _ h1 h2 => ?_) hs (srt2_le l) (hp.trans (srt2_perm l).symm)
  rw [lexle_iff] at h1 h2
  have e1 : a.1 = b.1 := by omega
  have e2 : a.2 = b.2 := by omega
  exact Prod.ext e1 e2
/-- the tracks as a railway tells them -/
def nrmS (tr : List E2) : List E2 := srt2 (tr.map nrm)
theorem nrmS_len (tr : List E2) : (nrmS tr).length = tr.length := by
  unfold nrmS
  rw [(srt2_perm _).length_eq, List.length_map]
theorem nrmS_norm (tr : List E2) : Norm tr (nrmS tr) := ⟨srt2_perm _⟩
theorem TreeL.nS {tr : List E2} (T : TreeL tr) : TreeL (nrmS tr) := (nrmS_norm tr).tree T
/-- tracks as they are drawn: each greater end once -/
theorem tree_drawn {tr : List E2} (ne : ∀ e ∈ tr, e.1 ≠ e.2) (pm : (tr.map mx).Perm (List.range' 1 tr.length)) : TreeL tr := by
  have bd : ∀ e ∈ tr, mx e ≤ tr.length := fun e h => by
    have := pm.mem_iff.mp (List.mem_map_of_mem (f := mx) h)
    rw [List.mem_range'] at this
    obtain ⟨i, h1, h2⟩ := this
    omega
  refine ⟨ne, fun e h => by have := bd e h; unfold mx at this; omega, ?_⟩
  intro v
  induction v using Nat.strongRecOn with
  | ind v ih =>
    intro hv
    by_cases c : v = 0
    · exact ⟨0, c⟩
    · have : v ∈ tr.map mx := pm.mem_iff.mpr (by rw [List.mem_range']; exact ⟨v - 1, by omega, by omega⟩)
      obtain ⟨e, he, q⟩ := List.mem_map.mp this
      have h1 := mn_lt (ne e he)
      obtain ⟨k, hk⟩ := ih (mn e) (by omega) (by omega)
      refine ⟨k + 1, mn e, hk, ?_⟩
      rw [← q]
      rcases ends e with ⟨e1, e2⟩ | ⟨e1, e2⟩
      · exact .inr (by rw [← e1, ← e2]; exact he)
      · exact .inl (by rw [← e1, ← e2]; exact he)
theorem tree_nil : TreeL [] := tree_drawn (fun _ h => nomatch h) (List.Perm.refl _)
theorem wn_app {tr tr' : List E2} : ∀ {k v}, WN tr k v → WN (tr ++ tr') k v
  | 0, v, h => h
  | k + 1, v, ⟨u, h1, h2⟩ => ⟨u, wn_app h1, h2.imp (List.mem_append_left _) (List.mem_append_left _)⟩
/-- a new station -/
theorem TreeL.push {tr : List E2} (T : TreeL tr) {x : Nat} (h : x ≤ tr.length) : TreeL (tr ++ [(x, tr.length + 1)]) := by
  refine ⟨fun d hd => ?_, fun d hd => ?_, fun v hv => ?_⟩
  · rcases List.mem_append.mp hd with h1 | h1
    · exact T.ne d h1
    · rw [List.mem_singleton.mp h1]
      show x ≠ tr.length + 1
      omega
  · rw [List.length_append, List.length_singleton]
    rcases List.mem_append.mp hd with h1 | h1
    · have := T.le d h1
      omega
    · rw [List.mem_singleton.mp h1]
      show x ≤ _ ∧ tr.length + 1 ≤ _
      omega
  · rw [List.length_append, List.length_singleton] at hv
    by_cases c : v ≤ tr.length
    · obtain ⟨k, hk⟩ := T.co v c
      exact ⟨k, wn_app hk⟩
    · have : v = tr.length + 1 := by omega
      subst this
      obtain ⟨k, hk⟩ := T.co x h
      exact ⟨k + 1, x, wn_app hk, .inl (by simp)⟩
end TR
namespace TR
open PySem PySem.Spec PyProof.Rows L2 L2.TT StX ClX
theorem f12 : ¬ (("_neighbours" : Str) = "_above") := by decide +kernel
theorem f13 : ¬ (("_neighbours" : Str) = "_levels") := by decide +kernel
theorem f23 : ¬ (("_above" : Str) = "_levels") := by decide +kernel
def flR (tt na A L : Addr) : List (Str × V) := putF "_levels" (.ref L) (putF "_above" (.ref A) (putF "_neighbours" (.ref na) (putF "_tracks" (.ref tt) [])))
theorem flR_n {tt na A L : Addr} : (flR tt na A L).lookup ("_neighbours" : Str) = some (.ref na) := by
  unfold flR
  rw [lookup_putF, if_neg f13, lookup_putF, if_neg f12, lookup_putF, if_pos rfl]
theorem flR_a {tt na A L : Addr} : (flR tt na A L).lookup ("_above" : Str) = some (.ref A) := by
  unfold flR
  rw [lookup_putF, if_neg f23, lookup_putF, if_pos rfl]
theorem flR_l {tt na A L : Addr} : (flR tt na A L).lookup ("_levels" : Str) = some (.ref L) := by
  unfold flR
  rw [lookup_putF, if_pos rfl]
theorem flR_no {tt na A L : Addr} {m : Str} (h0 : ¬ m = "_tracks") (h1 : ¬ m = "_neighbours") (h2 : ¬ m = "_above") (h3 : ¬ m = "_levels") : (flR tt na A L).lookup m = none := by
  unfold flR
  rw [lookup_putF, if_neg h3, lookup_putF, if_neg h2, lookup_putF, if_neg h1, lookup_putF, if_neg h0]
  rfl
/-- at r: a railway with the tracks tr (normed) -/
structure RailAt (C : Addr) (H : Hp) (r : Addr) (tr : List E2) : Prop where
  T : TreeL tr
  few : tr.length ≤ 99
  ex : ∃ (dx tt na A L : Addr) (ps ts : List Addr), H r = some (.ins C dx (flR tt na A L)) ∧ H tt = some (.tup (ps.map V.ref)) ∧ Prs H ps tr ∧ H na = some (.lst (ts.map V.ref)) ∧ ts.length = tr.length + 1 ∧
    (∀ (v : Nat) (t : Addr), ts[v]? = some t → H t = some (.tup ((nb tr v).map iv))) ∧ H A = some (.lst (vec (tr.length + 1) (p0 tr))) ∧ H L = some (.lst (vec (tr.length + 1) (dep tr)))
theorem RailAt.same {C : Addr} {H H' : Hp} {r : Addr} {tr : List E2} (R : RailAt C H r tr) (s : Same H H') : RailAt C H' r tr := by
  obtain ⟨T, few, dx, tt, na, A, L, ps, ts, h1, h2, h3, h4, h5, h6, h7, h8⟩ := R
  exact ⟨T, few, dx, tt, na, A, L, ps, ts, s _ _ h1, s _ _ h2, h3.same s, s _ _ h4, h5, fun v t h => s _ _ (h6 v t h), s _ _ h7, s _ _ h8⟩
/-- what the top has made of the class -/
structure TxtR (K : PySem.W.Frag) (mg : Str → Option Value) (C : Addr) : Prop where
  cl : Cls K C
  nT : NoAttr K C "_tracks"
  nN : NoAttr K C "_neighbours"
  nA : NoAttr K C "_above"
  nL : NoAttr K C "_levels"
  mgC : mg "Railway" = some (.ref C)
  cr : ∃ mc t, CRead K C mc ∧ CVal K C mc "MOST_STATIONS" (.int 100) (.int 100 t)
theorem maxK {X : Cx} {K : PySem.W.Frag} (h : X.K = K) (hc : X.calm = true) : CallR X (.builtin "max") (rMaxP K) := by
  subst h
  exact cr_maxP hc
theorem minK {X : Cx} {K : PySem.W.Frag} (h : X.K = K) (hc : X.calm = true) : CallR X (.builtin "min") (rMinP K) := by
  subst h
  exact cr_minP hc
theorem Prs.snoc {H : Hp} {qs : List Addr} {l : List E2} {q : Addr} {e : E2} (h : Prs H qs l) (hq : H q = some (.tup [iv e.1, iv e.2])) : Prs H (qs ++ [q]) (l ++ [e]) := by
  refine ⟨by rw [List.length_append, List.length_append, h.1]; rfl, fun i p d hp hd => ?_⟩
  rcases get_snoc hp with hp | ⟨e1, e2⟩
  · rcases get_snoc hd with hd | ⟨e3, e4⟩
    · exact h.2 i p d hp hd
    · exfalso
      have := (List.getElem?_eq_some_iff.mp hp).1
      rw [h.1] at this
      omega
  · rcases get_snoc hd with hd | ⟨e3, e4⟩
    · exfalso
      have := (List.getElem?_eq_some_iff.mp hd).1
      rw [h.1] at e1
      omega
    · rw [e2, e4]
      exact hq
def unref : V → Addr
  | .ref p => p
  | _ => 0
theorem refs_perm {ys : List V} {qs : List Addr} (h : ys.Perm (qs.map V.ref)) : ∃ ps : List Addr, ys = ps.map V.ref ∧ ps.Perm qs := by
  refine ⟨ys.map unref, ?_, ?_⟩
  · rw [List.map_map]
    symm
    calc ys.map (V.ref ∘ unref) = ys.map id := List.map_congr_left fun y hy => by
          obtain ⟨q, _, rfl⟩ := List.mem_map.mp (h.mem_iff.mp hy)
          rfl
      _ = ys := List.map_id _
  · have := h.map unref
    rw [List.map_map] at this
    have e : qs.map (unref ∘ V.ref) = qs := by
      calc qs.map (unref ∘ V.ref) = qs.map id := List.map_congr_left fun _ _ => rfl
        _ = qs := List.map_id _
    rw [e] at this
    exact this
def edOf (qs : List Addr) (l : List E2) (p : Addr) : E2 := l.getD (qs.idxOf p) (0, 0)
theorem ed_get {H : Hp} {qs : List Addr} {l : List E2} (h : Prs H qs l) (nd : qs.Nodup) {i : Nat} {p : Addr} (hp : qs[i]? = some p) : l[i]? = some (edOf qs l p) := by
  have hl := (List.getElem?_eq_some_iff.mp hp).1
  rw [h.1] at hl
  unfold edOf
  rw [idxOf_get nd hp, List.getD_eq_getElem?_getD, List.getElem?_eq_getElem hl]
  rfl
theorem ed_heap {H : Hp} {qs : List Addr} {l : List E2} (h : Prs H qs l) (nd : qs.Nodup) {p : Addr} (hp : p ∈ qs) : H p = some (.tup [iv (edOf qs l p).1, iv (edOf qs l p).2]) := by
  obtain ⟨i, hi⟩ := List.mem_iff_getElem?.mp hp
  exact h.2 i p _ hi (ed_get h nd hi)
theorem ed_map {H : Hp} {qs : List Addr} {l : List E2} (h : Prs H qs l) (nd : qs.Nodup) : qs.map (edOf qs l) = l := by
  apply List.ext_getElem?
  intro i
  cases e : qs[i]? with
  | none =>
    rw [List.getElem?_map, e]
    have hl := List.getElem?_eq_none_iff.mp e
    rw [h.1] at hl
    exact (List.getElem?_eq_none_iff.mpr hl).symm
  | some p => rw [List.getElem?_map, e, ed_get h nd e]; rfl
def kfOf (qs : List Addr) (l : List E2) : V → Int × Int
  | .ref p => (((edOf qs l p).1 : Nat), ((edOf qs l p).2 : Nat))
  | _ => (0, 0)
def spRI (C : Addr) (K : PySem.W.Frag) : Sp := fun vs H Q _ => ∃ (r dx a : Addr) (ps : List Addr) (tr : List E2), vs = [.ref r, .ref a] ∧ H r = some (.ins C dx []) ∧ SqT K H a (ps.map V.ref) ∧ Prs H ps tr ∧ TreeL tr ∧ tr.length ≤ 99 ∧
  ∀ (H' : Hp), (∀ b o, H b = some o → b ≠ r → H' b = some o) → RailAt C H' r (nrmS tr) → Q .non H'
section
variable {P : Program} {w : World} {K : PySem.W.Frag} {mg : Str → Option Value} {base : Heap}
abbrev NRi : List Str := ["self", "tracks", "wrong", "track"]
theorem sc_ri : FnScope NRi ((["self"] : List Str) ++ (["tracks"] : List Str)) (defScope s_Railway_init) := ⟨rfl, rfl, rfl, by decide +kernel, rfl, by decide +kernel, by decide +kernel⟩
theorem body_ri {f fF fN fP C : Addr} {fdF fdN fdP : FuncData} (N : Nm mg) (X : TxtR K mg C) (UF : Use P w K mg base CX0 4 "first_wrong_track" fF fdF ["tracks"] (spFirst K)) (UN : Use P w K mg base CX0 1 "_neighbours_of" fN fdN ["tracks"] (spNbs K))
    (UP : Use P w K mg base CX0 1 "_places_below_first" fP fdP ["neighbours"] (spPlaces K)) (cdv : Value) (A : Around) (outer : List Env) (s : Shared) (H : Hp) (vs : List V) (Q : VK) (E : XK)
    (hr : Room 4 (A.deeper (envOfC "Railway.__init__" (defScope s_Railway_init) s.heap.objs.size f cdv))) (h : spRI C K vs H Q E) :
    ∃ t, PSs (cxOf CX0 P w K mg base NRi "Railway.__init__" (defScope s_Railway_init) f cdv A outer s H E).nox (defBody s_Railway_init) t ∧ t { nx := fun _ H' => Q .non H', rt := Q } (start NRi vs) H := by
  obtain ⟨r, dx, a, ps, tr, rfl, hr0, hS, hP, T, hl, k⟩ := h
  obtain ⟨mc, ct, hcr, hcv⟩ := X.cr
  have hr1 : Room 1 (A.deeper (envOfC "Railway.__init__" (defScope s_Railway_init) s.heap.objs.size f cdv)) := hr.mono (by decide)
  refine ⟨_, pss_cons (ps_if (pt_cmpR op_ge (pe_callB call_len_seq (by rfl) N.len PySem.boot_len (pa_cons (pv 1) pa_nil)) (pe_cval (pe_glob (v := .ref C) (by rfl) X.mgC rfl)) (nomark _)) pss_never pss_nil)
    (pss_cons (ps_set (i := 2) sc_ri.nd rfl (.inl rfl) (pe_use UF hr rfl (pa_cons (pv 1) pa_nil)))
    (pss_cons (ps_if (pt_cmpR op_notN (pv 2) pe_non (nomark _)) pss_never pss_nil)
    (pss_cons (ps_fld (pv 0) (pe_callTy call_tuple_of (by rfl) N.tuple boot_tuple (pa_cons (pe_callB cr_sortedPO (by rfl) N.sorted boot_sorted (pa_cons
        (pe_lc (own := [("track", 3)]) (g := gName 3) (tt := tYes) rfl sc_ri.nd (pi_tup (pv 1)) (blkOk_by (N := NRi) (sc := defScope s_Railway_init) (by decide +kernel))
          (fun _ _ _ _ _ => pg_name (i := 3) sc_ri.nd rfl (Or.inl rfl)) (fun _ _ _ _ _ => pts_nil)
          (fun _ _ _ _ _ => pe_tup (pa_cons (pe_callB (minK (K := K) rfl rfl) (by rfl) N.min PyProof.Rows.boot_min (pa_cons (pv 3) pa_nil)) (pa_cons (pe_callB (maxK (K := K) rfl rfl) (by rfl) N.max PyProof.Rows.boot_max (pa_cons (pv 3) pa_nil)) pa_nil)))) pa_nil)) pa_nil)) rfl)
    (pss_cons (ps_fld (pv 0) (pe_use UN hr1 rfl (pa_cons (pe_fld (pv 0) rfl) pa_nil)) rfl)
    (pss_one (ps_asg (pe_use UP hr1 rfl (pa_cons (pe_fld (pv 0) rfl) pa_nil)) (pg_tup rfl (pgs_cons (pg_fld (pv 0)) (pgs_cons (pg_fld (pv 0)) pgs_nil)))))))))  , ?_⟩
  have lp : (ps.map V.ref).length = tr.length := by rw [List.length_map, hP.1]
  refine ⟨_, rfl, a, _, rfl, .inr hS, C, mc, .int 100, _, rfl, hcr, hcv, _, _, rfl, rfl, _, rfl, ?_⟩
  refine iteF' (decide_eq_false (by rw [lp]; omega)) ?_
  refine ⟨_, rfl, a, ps, tr, rfl, hS, hP, T, by omega, fun H1 s1 => ?_⟩
  refine ⟨_, rfl, rfl, _, rfl, ?_⟩
  refine iteNS rfl ?_
  -- the normed tracks
  refine ⟨_, rfl, a, rfl, ⟨_, s1.tp hS⟩, fun D nD => ?_⟩
  have hP1 := hP.same s1
  refine lc_tup (K := K) (a := a) (xs := ps.map V.ref) (fun i H' => ∃ qs, H' D = some (.lst (qs.map V.ref)) ∧ Same H1 H' ∧ Prs H' qs ((tr.take i).map nrm) ∧ qs.Nodup) ⟨[], upd_same, same_upd nD _, ⟨rfl, fun _ _ _ h => by cases h⟩, List.nodup_nil⟩ (fun i H' _ ⟨_, _, s2, _⟩ => s2.tp (s1.tp hS)) ?_ ?_
  · rintro i v H' hv ⟨qs, hD, s2, hQ, nd⟩
    obtain ⟨p, e, rfl, hp, he, hH⟩ := hP1.get hv
    have hH2 := s2 _ _ hH
    refine ⟨rfl, _, rfl, p, _, _, rfl, SqT.of hH2, _, rfl, p, _, _, rfl, SqT.of hH2, by show 2 ≤ sizeLine; rw [sizeLine_eq]; decide, fun q nq => ⟨qs.map V.ref, ?_, ?_, qs ++ [q], ?_, ?_, ?_, ?_⟩⟩
    · have nD2 : D ≠ q := fun z => by rw [← z, hD] at nq; cases nq
      rw [upd_ne nD2]
      exact hD
    · rw [List.length_map, hQ.1, List.length_map, List.length_take, sizeLine_eq]
      omega
    · rw [upd_same, List.map_append]
      rfl
    · exact same_old (s2.trans (same_upd nq _)) nD _
    · have e1 : min (e.1 : Int) (e.2 : Int) = ((nrm e).1 : Nat) := by show _ = ((mn e : Nat) : Int); unfold mn; omega
      have e2 : max (e.1 : Int) (e.2 : Int) = ((nrm e).2 : Nat) := by show _ = ((mx e : Nat) : Int); unfold mx; omega
      have et : (tr.take (i + 1)).map nrm = (tr.take i).map nrm ++ [nrm e] := by rw [take_snoc he, List.map_append]; rfl
      rw [et]
      have qD : q ≠ D := fun z => by rw [z, hD] at nq; cases nq
      have hq1 : upd H' q (.tup [V.int (min (e.1 : Int) (e.2 : Int)), V.int (max (e.1 : Int) (e.2 : Int))]) q = some (.tup [iv (nrm e).1, iv (nrm e).2]) := by rw [upd_same, e1, e2]
      have hQ2 := (hQ.same (same_upd nq (.tup [V.int (min (e.1 : Int) (e.2 : Int)), V.int (max (e.1 : Int) (e.2 : Int))]))).snoc hq1
      refine ⟨hQ2.1, fun j x y hx hy => ?_⟩
      have hxy := hQ2.2 j x y hx hy
      have xD : x ≠ D := fun z => by
        rw [z, upd_ne qD.symm, hD] at hxy
        cases hxy
      exact (upd_ne xD).trans hxy
    · refine nodup_snoc nd fun hm => ?_
      obtain ⟨j, hj⟩ := List.mem_iff_getElem?.mp hm
      have hl := (List.getElem?_eq_some_iff.mp hj).1
      rw [hQ.1] at hl
      have := hQ.2 j q _ hj (List.getElem?_eq_getElem hl)
      rw [nq] at this
      cases this
  rintro H2 ⟨qs, hD, s2, hQ, nd⟩
  have et : (tr.take (ps.map V.ref).length).map nrm = tr.map nrm := by rw [lp, List.take_length]
  rw [et] at hQ
  refine ⟨D, _, kfOf qs (tr.map nrm), rfl, SqL.of hD, fun x hx => ?_, fun ys p hsr hst np => ?_⟩
  · obtain ⟨q, hq, rfl⟩ := List.mem_map.mp hx
    exact ⟨q, rfl, ed_heap hQ nd hq⟩
  obtain ⟨ps2, rfl, hpm⟩ := refs_perm hst.perm
  refine ⟨p, _, rfl, .inl ⟨SqL.of upd_same, fun l nl => ?_⟩⟩
  have s3 := same_upd np (.lst (ps2.map V.ref))
  have s4 := s3.trans (same_upd nl (.tup (ps2.map V.ref)))
  have hl4 := upd_same (H := upd H2 p (.lst (ps2.map V.ref))) (a := l) (o := .tup (ps2.map V.ref))
  generalize upd (upd H2 p (.lst (ps2.map V.ref))) l (.tup (ps2.map V.ref)) = H4 at s4 hl4
  have s04 : Same H H4 := (s1.trans s2).trans s4
  have nm : Norm tr (ps2.map (edOf qs (tr.map nrm))) := by
    refine ⟨?_⟩
    have := hpm.map (edOf qs (tr.map nrm))
    rw [ed_map hQ nd] at this
    exact this
  have enS : ps2.map (edOf qs (tr.map nrm)) = nrmS tr := by
    refine srt2_of nm.pm ?_
    have h0 : (ps2.map V.ref).Pairwise (fun x y => ltP (kfOf qs (tr.map nrm)) y x = false) := hsr
    rw [List.pairwise_map] at h0 ⊢
    refine h0.imp fun {a b} h => ?_
    have h2 := SrtO.lexB_no.mp h
    rw [lexle_iff]
    simp only [kfOf] at h2
    omega
  have hQ4 : Prs H4 ps2 (ps2.map (edOf qs (tr.map nrm))) := by
    refine ⟨(List.length_map _).symm, fun i x y hx hy => ?_⟩
    obtain ⟨x', hx', rfl⟩ := map_got hy
    rw [hx] at hx'
    cases hx'
    exact s4 _ _ (ed_heap hQ nd (hpm.mem_iff.mp (List.mem_of_getElem? hx)))
  generalize ps2.map (edOf qs (tr.map nrm)) = tr2 at nm hQ4 enS
  have T2 := nm.tree T
  have len2 := nm.len
  have hr4 := s04 _ _ hr0
  have lr : l ≠ r := ne_of hl4 hr4 (by intro z; cases z)
  refine ⟨_, rfl, r, C, dx, [], rfl, hr4, X.cl, X.nT, by show 0 < 1000; decide, ?_⟩
  have hr5 := upd_same (H := H4) (a := r) (o := .ins C dx (putF "_tracks" (.ref l) []))
  have k5 : ∀ b o, H4 b = some o → b ≠ r → upd H4 r (.ins C dx (putF "_tracks" (.ref l) [])) b = some o := fun b o e ne => by rw [upd_ne ne]; exact e
  generalize upd H4 r (.ins C dx (putF "_tracks" (.ref l) [])) = H5 at hr5 k5
  have hl5 := k5 _ _ hl4 lr
  have hQ5 : Prs H5 ps2 tr2 := ⟨hQ4.1, fun i x y hx hy => k5 _ _ (hQ4.2 i x y hx hy) (ne_of (hQ4.2 i x y hx hy) hr4 (by intro z; cases z))⟩
  refine ⟨_, rfl, r, C, dx, _, _, rfl, hr5, X.cl, X.nT, by rw [lookup_putF, if_pos rfl], l, ps2, tr2, rfl, SqT.of hl5, hQ5, fun e he => ⟨T2.ne e he, T2.lt1 he⟩, by omega, fun D2 ts H6 s6 R => ?_⟩
  refine ⟨_, rfl, r, C, dx, _, rfl, s6 _ _ hr5, X.cl, X.nN, by show 1 < 1000; decide, ?_⟩
  have hr6 := s6 _ _ hr5
  have hr7 := upd_same (H := H6) (a := r) (o := .ins C dx (putF "_neighbours" (.ref D2) (putF "_tracks" (.ref l) [])))
  have k7 : ∀ b o, H6 b = some o → b ≠ r → upd H6 r (.ins C dx (putF "_neighbours" (.ref D2) (putF "_tracks" (.ref l) []))) b = some o := fun b o e ne => by rw [upd_ne ne]; exact e
  generalize upd H6 r (.ins C dx (putF "_neighbours" (.ref D2) (putF "_tracks" (.ref l) []))) = H7 at hr7 k7
  have hD7 := k7 _ _ R.own (ne_of R.own hr6 (by intro z; cases z))
  have ht7 : ∀ (v : Nat) (t : Addr), ts[v]? = some t → H7 t = some (.tup ((nb tr2 v).map iv)) := fun v t h => k7 _ _ (R.at_ v t h).1 (ne_of (R.at_ v t h).1 hr6 (by intro z; cases z))
  refine ⟨_, rfl, r, C, dx, _, _, rfl, hr7, X.cl, X.nN, by rw [lookup_putF, if_pos rfl], D2, ts, tr2, rfl, SqL.of hD7, R.len, ht7, T2, by omega, fun t Aa L H8 tw ht => ?_⟩
  have hr8 := tw.same _ _ hr7
  refine ⟨t, _, rfl, SqT.of ht, rfl, ?_⟩
  refine ⟨_, _, rfl, _, rfl, r, C, dx, _, rfl, hr8, X.cl, X.nA, by show 2 < 1000; decide, ?_⟩
  refine ⟨_, _, rfl, _, rfl, r, C, dx, _, rfl, upd_same, X.cl, X.nL, by show 3 < 1000; decide, rfl, ?_⟩
  rw [upd_upd]
  have hrF := upd_same (H := H8) (a := r) (o := .ins C dx (putF "_levels" (.ref L) (putF "_above" (.ref Aa) (putF "_neighbours" (.ref D2) (putF "_tracks" (.ref l) [])))))
  have kF : ∀ b o, H8 b = some o → b ≠ r → upd H8 r (.ins C dx (putF "_levels" (.ref L) (putF "_above" (.ref Aa) (putF "_neighbours" (.ref D2) (putF "_tracks" (.ref l) []))))) b = some o := fun b o e ne => by rw [upd_ne ne]; exact e
  generalize upd H8 r (.ins C dx (putF "_levels" (.ref L) (putF "_above" (.ref Aa) (putF "_neighbours" (.ref D2) (putF "_tracks" (.ref l) []))))) = HF at hrF kF
  have all : ∀ b o, H4 b = some o → b ≠ r → HF b = some o := fun b o e ne => kF _ _ (tw.same _ _ (k7 _ _ (s6 _ _ (k5 _ _ e ne)) ne)) ne
  have all7 : ∀ b o, H7 b = some o → b ≠ r → HF b = some o := fun b o e ne => kF _ _ (tw.same _ _ e) ne
  refine k HF (fun b o e ne => all b o (s04 _ _ e) ne) (enS ▸ ⟨T2, by omega, dx, l, D2, Aa, L, ps2, ts, hrF, all _ _ hl4 lr, ⟨hQ4.1, fun i x y hx hy => all _ _ (hQ4.2 i x y hx hy) (ne_of (hQ4.2 i x y hx hy) hr4 (by intro z; cases z))⟩,
    all7 _ _ hD7 (ne_of hD7 hr7 (by intro z; cases z)), R.len, fun v t h => all7 _ _ (ht7 v t h) (ne_of (ht7 v t h) hr7 (by intro z; cases z)), kF _ _ tw.hA (ne_of tw.hA hr8 (by intro z; cases z)), kF _ _ tw.hL (ne_of tw.hL hr8 (by intro z; cases z))⟩)
end
end TR
namespace TR
open PySem PySem.Spec PyProof.Rows L2 L2.TT StX ClX
def spRail (C : Addr) : Sp := fun vs H Q _ => ∃ (r dx : Addr) (ps : List Addr) (tr : List E2), vs = .ref r :: ps.map V.ref ∧ H r = some (.ins C dx []) ∧ Prs H ps tr ∧ TreeL tr ∧ tr.length ≤ 99 ∧
  ∀ (H' : Hp), (∀ b o, H b = some o → b ≠ r → H' b = some o) → RailAt C H' r (nrmS tr) → Q .non H'
def spRof (C : Addr) : Sp := fun vs H Q _ => ∃ (a : Addr) (ps : List Addr) (tr : List E2), vs = [.ref C, .ref a] ∧ H a = some (.tup (ps.map V.ref)) ∧ Prs H ps tr ∧ TreeL tr ∧ tr.length ≤ 99 ∧
  ∀ (r : Addr) (H' : Hp), H r = none → Same H H' → RailAt C H' r (nrmS tr) → Q (.ref r) H'
def spSize (C : Addr) : Sp := fun vs H Q _ => ∃ (r : Addr) (tr : List E2), vs = [.ref r] ∧ RailAt C H r tr ∧ Q (.int ((tr.length : Int) + 1)) H
def spIsSt (C : Addr) (K : PySem.W.Frag) : Sp := fun vs H Q _ => ∃ (r : Addr) (tr : List E2) (v : V), vs = [.ref r, v] ∧ RailAt C H r tr ∧ IV K H v ∧ Q (.bl (inR v 0 tr.length)) H
def spChkSt (C : Addr) : Sp := fun vs H Q _ => ∃ (r : Addr) (tr : List E2) (v : Nat), vs = [.ref r, iv v] ∧ RailAt C H r tr ∧ v ≤ tr.length ∧ Q .non H
section
variable {P : Program} {w : World} {K : PySem.W.Frag} {mg : Str → Option Value} {base : Heap}
theorem fn_init {f fF fN fP C : Addr} {fd fdF fdN fdP : FuncData} (F : Fun K "__init__" "Railway.__init__" s_Railway_init f fd) (N : Nm mg) (X : TxtR K mg C) (UF : Use P w K mg base CX0 4 "first_wrong_track" fF fdF ["tracks"] (spFirst K)) (UN : Use P w K mg base CX0 1 "_neighbours_of" fN fdN ["tracks"] (spNbs K))
    (UP : Use P w K mg base CX0 1 "_places_below_first" fP fdP ["neighbours"] (spPlaces K)) : FnR P w K mg base CX0 5 f (spRail C) := by
  obtain ⟨oc, od, kV, doc, pm, an, cdv, ct, osl, rfl, lk, hcd⟩ := F.ex
  have G := fn_star (P := P) (w := w) (mg := mg) (base := base) (CX := CX0) (k := 4) (ps := ["self"]) (pv := "tracks") (N := NRi) (sp := spRI C K) lk hcd sc_ri cxUp_none (bind_star1 (B := fun vs => bindArgs (PySem.W.fnOf "__init__" "Railway.__init__" (defArgs s_Railway_init) (defBody s_Railway_init) (defScope s_Railway_init) .none kV doc pm an cdv ct) ⟨vs, []⟩) (p1 := "self") (pv := "tracks") (fun a => rfl) (fun a r rs => rfl))
    (fun A outer s H vs Q E hr h => by
      obtain ⟨t, h1, h2⟩ := body_ri (f := f) N X UF UN UP cdv A outer s H vs Q E hr h
      exact ⟨t, h1.nox, h2⟩)
  refine G.imp fun vs H Q E h => ?_
  obtain ⟨r, dx, ps, tr, rfl, hr, hP, T, hl, k⟩ := h
  refine ⟨[.ref r], ps.map V.ref, rfl, rfl, by rw [List.length_map, hP.1, sizeLine_eq]; omega, fun p np => ?_⟩
  have s0 := same_upd np (.tup (ps.map V.ref))
  have rp : r ≠ p := ne_of_none hr np
  refine ⟨r, dx, p, ps, tr, rfl, s0 _ _ hr, SqT.of upd_same, hP.same s0, T, hl, fun H' kp R => ?_⟩
  exact k H' (fun b o e ne => kp b o (s0 _ _ e) ne) R
theorem sc_rof : FnScope ["cls", "tracks"] ["cls", "tracks"] (defScope s_Railway_of) := ⟨rfl, rfl, rfl, by decide +kernel, rfl, by decide +kernel, by decide +kernel⟩
theorem ok_rof {f fI C : Addr} {fd : FuncData} (F : Fun K "of" "Railway.of" s_Railway_of f fd) (N : Nm mg) (M : Mk K C fI) (FI : FnR P w K mg base CX0 5 fI (spRail C)) : FnOk P w K mg base CX0 7 f fd ["cls", "tracks"] (spRof C) := by
  refine F.ok sc_rof (fun vs H Q E h => ?_) (fun cdv A outer s H vs Q E hr h => ?_)
  · obtain ⟨a, ps, tr, rfl, _⟩ := h
    rfl
  · obtain ⟨a, ps, tr, rfl, ha, hP, T, hl, k⟩ := h
    refine ⟨_, pss_cons (ps_if (pt_not (pt_val (pe_callB call_isi (by rfl) N.isi boot_isinstance (pa_cons (pv 1) (pa_cons (pe_bltn (v := .ty "tuple") (by rfl) N.tuple (by decide +kernel) rfl) pa_nil))))) pss_never pss_nil)
      (pss_one (ps_ret (pe_makeLS (i := 0) M FI hr rfl (.inl rfl) pass0 (pv 1)))), ?_⟩
    refine ⟨_, rfl, _, _, _, _, true, rfl, .ty _, .base (.tup ha), tup_tup, true, rfl, ?_⟩
    refine iteF ?_
    refine ⟨rfl, _, rfl, a, _, rfl, .inl (SqT.of ha), fun o dx no ndx ne => ?_⟩
    have s1 : Same H (upd (upd H dx (.own o)) o (.ins C dx [])) := fun b u e => by
      rw [upd_ne (ne_of_none e no), upd_ne (ne_of_none e ndx)]
      exact e
    refine ⟨o, dx, ps, tr, rfl, upd_same, hP.same s1, T, hl, fun H' kp R => ⟨rfl, ?_⟩⟩
    exact k o H' no (fun b u e => kp b u (s1 _ _ e) (ne_of_none e no)) R
theorem sc_size : FnScope ["self"] ["self"] (defScope s_Railway_size) := ⟨rfl, rfl, rfl, by decide +kernel, rfl, by decide +kernel, by decide +kernel⟩
theorem ok_size {f C : Addr} {fd : FuncData} (F : Fun K "size" "Railway.size" s_Railway_size f fd) (N : Nm mg) (X : TxtR K mg C) : FnOk P w K mg base CX0 1 f fd ["self"] (spSize C) := by
  refine F.ok sc_size (fun vs H Q E h => ?_) (fun cdv A outer s H vs Q E hr h => ?_)
  · obtain ⟨r, tr, rfl, _⟩ := h
    rfl
  · obtain ⟨r, tr, rfl, R, k⟩ := h
    obtain ⟨T, few, dx, tt, na, Aa, L, ps, ts, h1, h2, h3, h4, h5, h6, h7, h8⟩ := R
    refine ⟨_, pss_one (ps_ret (pe_callB call_len_seq (by rfl) N.len PySem.boot_len (pa_cons (pe_fld (pv 0) rfl) pa_nil))), ?_⟩
    refine ⟨_, rfl, r, C, dx, _, _, rfl, h1, X.cl, X.nN, flR_n, na, _, rfl, .inl (SqL.of h4), ?_⟩
    rw [List.length_map, h5]
    exact k
/-- the property size as a rule -/
structure SizeOf (P : Program) (w : World) (K : PySem.W.Frag) (mg : Str → Option Value) (base : Heap) (C p g : Addr) (fd : FuncData) : Prop where
  cl : Cls K C
  hp : PropOf K C "size" p g
  G : FnOk P w K mg base CX0 1 g fd ["self"] (spSize C)
  b : Binds K fd ["self"] []
theorem sc_isst : FnScope ["railway", "value"] ["railway", "value"] (defScope s_is_station) := ⟨rfl, rfl, rfl, by decide +kernel, rfl, by decide +kernel, by decide +kernel⟩
theorem ok_isst {f fI C p g : Addr} {fd fdI fdS : FuncData} (F : Fun K "is_station" "is_station" s_is_station f fd) (U : Use P w K mg base CX0 2 "is_number_from" fI fdI ["value", "least", "greatest"] (spNumFrom K)) (Z : SizeOf P w K mg base C p g fdS) : FnOk P w K mg base CX0 3 f fd ["railway", "value"] (spIsSt C K) := by
  refine F.ok sc_isst (fun vs H Q E h => ?_) (fun cdv A outer s H vs Q E hr h => ?_)
  · obtain ⟨r, tr, v, rfl, _⟩ := h
    rfl
  · obtain ⟨r, tr, v, rfl, R, hv, k⟩ := h
    refine ⟨_, pss_one (ps_ret (pe_use U hr rfl (pa_cons (pv 1) (pa_cons pe_int (pa_cons (pe_op op_sub (pe_prop (pv 0) Z.cl Z.hp Z.G (hr.mono (by decide)) Z.b .nil pass0 rfl) pe_int) pa_nil))))), ?_⟩
    obtain ⟨T, few, dx, tt, na, Aa, L, ps, ts, h1, h2⟩ := id R
    refine ⟨_, rfl, _, rfl, r, dx, _, rfl, h1, r, tr, rfl, R, _, _, rfl, rfl, v, 0, _, rfl, hv, ?_⟩
    rw [show (tr.length : Int) + 1 - 1 = tr.length by omega]
    exact k
theorem sc_chk : FnScope ["railway", "station"] ["railway", "station"] (defScope s_check_station) := ⟨rfl, rfl, rfl, by decide +kernel, rfl, by decide +kernel, by decide +kernel⟩
theorem ok_chk {f fI C : Addr} {fd fdI : FuncData} (F : Fun K "check_station" "check_station" s_check_station f fd) (U : Use P w K mg base CX0 3 "is_station" fI fdI ["railway", "value"] (spIsSt C K)) : FnOk P w K mg base CX0 4 f fd ["railway", "station"] (spChkSt C) := by
  refine F.ok sc_chk (fun vs H Q E h => ?_) (fun cdv A outer s H vs Q E hr h => ?_)
  · obtain ⟨r, tr, v, rfl, _⟩ := h
    rfl
  · obtain ⟨r, tr, v, rfl, R, hv, k⟩ := h
    refine ⟨_, pss_one (ps_if (pt_not (pt_val (pe_use U hr rfl (pa_cons (pv 0) (pa_cons (pv 1) pa_nil))))) pss_never pss_nil), ?_⟩
    refine ⟨_, rfl, _, rfl, r, tr, _, rfl, R, .inl ⟨_, rfl⟩, _, rfl, ?_⟩
    have e : inR (iv v) 0 tr.length = true := by
      show (decide ((0 : Int) ≤ (v : Int)) && decide ((v : Int) ≤ (tr.length : Int))) = true
      rw [Bool.and_eq_true]
      exact ⟨decide_eq_true (by omega), decide_eq_true (by omega)⟩
    rw [e]
    exact iteF k
end
end TR
namespace TR
open PySem PySem.Spec PyProof.Rows L2 L2.TT StX ClX
theorem at_last {l : List Nat} {x : Nat} : atI ((l ++ [x]).map iv) (-1) = some (iv x) := by
  have e : ixN ((l ++ [x]).map iv).length (-1) = some l.length := by
    unfold ixN
    rw [if_neg (by omega), if_pos (by rw [List.length_map, List.length_append, List.length_singleton]; omega), List.length_map, List.length_append, List.length_singleton]
    have : ((-1 : Int) + ((l.length + 1 : Nat) : Int)).toNat = l.length := by omega
    rw [this]
  unfold atI
  rw [e]
  show ((l ++ [x]).map iv)[l.length]? = _
  rw [List.map_append, List.getElem?_append_right (by rw [List.length_map]; exact Nat.le_refl _), List.length_map, Nat.sub_self]
  rfl
def spPath (C : Addr) : Sp := fun vs H Q _ => ∃ (r : Addr) (tr : List E2) (a b : Nat), vs = [.ref r, iv a, iv b] ∧ RailAt C H r tr ∧ a ≤ tr.length ∧ b ≤ tr.length ∧
  ∀ (l : List Nat) (p : Addr) (H' : Hp), SW tr a b l → Same H H' → H p = none → H' p = some (.tup (l.map iv)) → Q (.ref p) H'
section
variable {P : Program} {w : World} {K : PySem.W.Frag} {mg : Str → Option Value} {base : Heap}
theorem sc_path : FnScope ["self", "one", "other", "front", "back"] ["self", "one", "other"] (defScope s_Railway_path) := ⟨rfl, rfl, rfl, by decide +kernel, rfl, by decide +kernel, by decide +kernel⟩
theorem ok_path {f fc C : Addr} {fd fdc : FuncData} (F : Fun K "path" "Railway.path" s_Railway_path f fd) (N : Nm mg) (X : TxtR K mg C) (U : Use P w K mg base CX0 4 "check_station" fc fdc ["railway", "station"] (spChkSt C)) : FnOk P w K mg base CX0 5 f fd ["self", "one", "other"] (spPath C) := by
  refine F.ok sc_path (fun vs H Q E h => ?_) (fun cdv A outer s H vs Q E hr h => ?_)
  · obtain ⟨r, tr, a, b, rfl, _⟩ := h
    rfl
  · obtain ⟨r, tr, a, b, rfl, R, ha, hb, k⟩ := h
    refine ⟨_, pss_cons (ps_expr (pe_use U hr rfl (pa_cons (pv 0) (pa_cons (pv 1) pa_nil))))
      (pss_cons (ps_expr (pe_use U hr rfl (pa_cons (pv 0) (pa_cons (pv 2) pa_nil))))
      (pss_cons (ps_set (i := 3) sc_path.nd rfl (.inl rfl) (pe_lst (pa_cons (pv 1) pa_nil)))
      (pss_cons (ps_set (i := 4) sc_path.nd rfl (.inl rfl) (pe_lst (pa_cons (pv 2) pa_nil)))
      (pss_cons (ps_while PassesOwn.never (pt_cmpR op_ne (pe_ix ix_list (pv 3) (pe_un un_neg pe_int) (fun _ _ => rfl)) (pe_ix ix_list (pv 4) (pe_un un_neg pe_int) (fun _ _ => rfl)) (nomark _))
        (pss_one (ps_if (pt_cmpR op_gt (pe_ix ix_list (pe_fld (pv 0) rfl) (pe_ix ix_list (pv 3) (pe_un un_neg pe_int) (fun _ _ => rfl)) (fun _ _ => rfl)) (pe_ix ix_list (pe_fld (pv 0) rfl) (pe_ix ix_list (pv 4) (pe_un un_neg pe_int) (fun _ _ => rfl)) (fun _ _ => rfl)) (nomark _))
          (pss_one (ps_expr (pe_bm PySem.F.plainAttrs_list PySem.F.slot_list_append PySem.F.type_list_append mt_append (pv 3) (pa_cons (pe_ix ix_list (pe_fld (pv 0) rfl) (pe_ix ix_list (pv 3) (pe_un un_neg pe_int) (fun _ _ => rfl)) (fun _ _ => rfl)) pa_nil))))
          (pss_one (ps_expr (pe_bm PySem.F.plainAttrs_list PySem.F.slot_list_append PySem.F.type_list_append mt_append (pv 4) (pa_cons (pe_ix ix_list (pe_fld (pv 0) rfl) (pe_ix ix_list (pv 4) (pe_un un_neg pe_int) (fun _ _ => rfl)) (fun _ _ => rfl)) pa_nil)))))))
      (pss_cons (ps_expr (pe_bm0 PySem.F.plainAttrs_list PySem.F.slot_list_pop PySem.F.type_list_pop mt_pop (pv 4)))
      (pss_one (ps_ret (pe_callTy call_tuple_of (by rfl) N.tuple boot_tuple (pa_cons (pe_op op_cat (pv 3) (pe_revL (pv 4))) pa_nil)))))))))
      , ?_⟩
    obtain ⟨T, few, dx, tt, na, Aa, L, ps, ts, h1, h2, h3, h4, h5, h6, h7, h8⟩ := id R
    refine ⟨_, rfl, _, rfl, r, tr, a, rfl, R, ha, ?_⟩
    refine ⟨_, rfl, _, rfl, r, tr, b, rfl, R, hb, ?_⟩
    refine ⟨_, rfl, by show 1 ≤ sizeLine; rw [sizeLine_eq]; decide, fun fa nfa => ?_⟩
    refine ⟨_, rfl, by show 1 ≤ sizeLine; rw [sizeLine_eq]; decide, fun ba nba1 => ?_⟩
    have sf := same_upd nfa (.lst [iv a])
    have nba := sf.free nba1
    have s0 := sf.trans (same_upd nba1 (.lst [iv b]))
    have nfb : fa ≠ ba := fun z => by rw [← z, upd_same] at nba1; cases nba1
    have hf0 : upd (upd H fa (.lst [iv a])) ba (.lst [iv b]) fa = some (.lst [iv a]) := by rw [upd_ne nfb, upd_same]
    have hb0 := upd_same (H := upd H fa (.lst [iv a])) (a := ba) (o := .lst [iv b])
    generalize upd (upd H fa (.lst [iv a])) ba (.lst [iv b]) = H0 at s0 hf0 hb0
    refine ⟨fun m σ H' => ∃ (x y : Nat) (F B : List Nat), m = dep tr x + dep tr y ∧ σ = [some (.ref r), some (iv a), some (iv b), some (.ref fa), some (.ref ba)] ∧ Clb tr a b x y F B ∧ Same H H' ∧ H' fa = some (.lst ((F ++ [x]).map iv)) ∧ H' ba = some (.lst ((B ++ [y]).map iv)),
      ⟨_, a, b, [], [], rfl, rfl, Clb.start ha hb, s0, hf0, hb0⟩, ?_⟩
    clear sf nba1 s0 hf0 hb0 H0
    rintro m σ H1 ⟨x, y, F, B, rfl, rfl, c, s1, hf, hb1⟩
    have lx := c.lx
    have ly := c.ly
    refine ⟨_, rfl, _, rfl, fa, _, _, _, rfl, rfl, SqL.of hf, at_last, _, rfl, _, rfl, ba, _, _, _, rfl, rfl, SqL.of hb1, at_last, rfl, _, rfl, ?_⟩
    have hr1 := s1 _ _ h1
    have hA1 := s1 _ _ h7
    have hL1 := s1 _ _ h8
    refine ite2 (fun hc => ?_) (fun hc => ?_)
    · have ne : x ≠ y := fun z => by rw [z] at hc; simp at hc
      refine ⟨fun σ' H' => ∃ (x' y' : Nat) (F B : List Nat), dep tr x' + dep tr y' < dep tr x + dep tr y ∧ σ' = [some (.ref r), some (iv a), some (iv b), some (.ref fa), some (.ref ba)] ∧ Clb tr a b x' y' F B ∧ Same H H' ∧ H' fa = some (.lst ((F ++ [x']).map iv)) ∧ H' ba = some (.lst ((B ++ [y']).map iv)),
        fun σ' H' ⟨x', y', F, B, lt, e⟩ => ⟨_, lt, x', y', F, B, rfl, e⟩, ?_⟩
      refine ⟨_, rfl, r, C, dx, _, _, rfl, hr1, X.cl, X.nL, flR_l, _, rfl, _, rfl, fa, _, _, _, rfl, rfl, SqL.of hf, at_last, L, _, _, _, rfl, rfl, SqL.of hL1, atN (vec_get (by omega)), ?_⟩
      refine ⟨_, rfl, r, C, dx, _, _, rfl, hr1, X.cl, X.nL, flR_l, _, rfl, _, rfl, ba, _, _, _, rfl, rfl, SqL.of hb1, at_last, L, _, _, _, rfl, rfl, SqL.of hL1, atN (vec_get (by omega)), _, _, rfl, rfl, _, rfl, ?_⟩
      refine ite2 (fun hd => ?_) (fun hd => ?_)
      · have hlt : dep tr y < dep tr x := by
          have := of_decide_eq_true hd
          omega
        obtain ⟨q1, q2, c2⟩ := c.up1 T ne hlt
        have ep : p0 tr x = par tr x := by unfold p0; rw [if_neg (by omega)]
        refine ⟨_, rfl, .inl ⟨rfl, _, SqL.of hf⟩, _, rfl, r, C, dx, _, _, rfl, hr1, X.cl, X.nA, flR_a, _, rfl, _, rfl, fa, _, _, _, rfl, rfl, SqL.of hf, at_last, Aa, _, _, _, rfl, rfl, SqL.of hA1, atN (vec_get (by omega)), _, _, _, rfl, rfl, hf, ?_, ?_⟩
        · have h9 : (F ++ [x]).length ≤ tr.length + 1 := nd_len c.nf fun z hz => by
            rcases mem_snoc.mp hz with hz | rfl
            · exact c.lf z hz
            · exact lx
          rw [List.length_map, sizeLine_eq]
          omega
        · refine ⟨par tr x, y, F ++ [x], B, by omega, rfl, c2, same_old s1 nfa _, ?_, by rw [upd_ne nfb.symm]; exact hb1⟩
          rw [upd_same, ep, List.map_append (l₁ := F ++ [x])]
          rfl
      · have hlt : ¬ dep tr y < dep tr x := by
          intro z
          apply hd
          exact decide_eq_true (by show ((dep tr y : Nat) : Int) < ((dep tr x : Nat) : Int); omega)
        obtain ⟨q1, q2, c2⟩ := c.up2 T ne hlt
        have ep : p0 tr y = par tr y := by unfold p0; rw [if_neg (by omega)]
        refine ⟨_, rfl, .inl ⟨rfl, _, SqL.of hb1⟩, _, rfl, r, C, dx, _, _, rfl, hr1, X.cl, X.nA, flR_a, _, rfl, _, rfl, ba, _, _, _, rfl, rfl, SqL.of hb1, at_last, Aa, _, _, _, rfl, rfl, SqL.of hA1, atN (vec_get (by omega)), _, _, _, rfl, rfl, hb1, ?_, ?_⟩
        · have h9 : (B ++ [y]).length ≤ tr.length + 1 := nd_len c.nb fun z hz => by
            rcases mem_snoc.mp hz with hz | rfl
            · exact c.lb z hz
            · exact ly
          rw [List.length_map, sizeLine_eq]
          omega
        · refine ⟨x, par tr y, F, B ++ [y], by omega, rfl, c2, same_old s1 nba _, by rw [upd_ne nfb]; exact hf, ?_⟩
          rw [upd_same, ep, List.map_append (l₁ := B ++ [y])]
          rfl
    · have e : x = y := by
        by_cases z : x = y
        · exact z
        · exfalso
          apply hc
          have : ¬ (iv x = iv y) := fun q => z (iv_inj.mp q)
          simp [this]
      subst e
      have sw := c.done
      have hlen : (F ++ [x] ++ B.reverse).length ≤ tr.length + 1 := nd_len sw.nd fun z hz => by
        rcases List.mem_append.mp hz with hz | hz
        · rcases mem_snoc.mp hz with hz | rfl
          · exact c.lf z hz
          · exact lx
        · exact c.lb z (List.mem_reverse.mp hz)
      rw [List.length_append, List.length_reverse] at hlen
      have e1 : ((B ++ [x]).map iv).dropLast = B.map iv := by rw [List.map_append]; exact List.dropLast_concat
      have e2 : ((B ++ [x]).map iv)[((B ++ [x]).map iv).length - 1]? = some (iv x) := by
        rw [List.length_map, List.length_append, List.length_singleton, Nat.add_sub_cancel, List.map_append, List.getElem?_append_right (by rw [List.length_map]; exact Nat.le_refl _), List.length_map, Nat.sub_self]
        rfl
      refine ⟨_, rfl, .inl ⟨rfl, _, SqL.of hb1⟩, ba, _, _, rfl, rfl, hb1, e2, ?_⟩
      rw [e1]
      have s2 := same_old s1 nba (.lst (B.map iv))
      have hf2 : upd H1 ba (.lst (B.map iv)) fa = some (.lst ((F ++ [x]).map iv)) := by rw [upd_ne nfb]; exact hf
      have hb2 := upd_same (H := H1) (a := ba) (o := .lst (B.map iv))
      generalize upd H1 ba (.lst (B.map iv)) = H2 at s2 hf2 hb2
      refine ⟨_, rfl, _, rfl, ba, _, rfl, SqL.of hb2, fun p np => ?_⟩
      refine ⟨fa, p, _, _, rfl, rfl, same_upd np _ _ _ hf2, upd_same, ?_, fun q nq => ?_⟩
      · rw [List.length_map, List.length_reverse, List.length_map, sizeLine_eq]
        omega
      refine ⟨q, _, rfl, .inl ⟨SqL.of upd_same, fun t nt => ?_⟩⟩
      refine k (F ++ [x] ++ B.reverse) t _ sw (((s2.trans (same_upd np _)).trans (same_upd nq _)).trans (same_upd nt _)) ?_ ?_
      · exact (s2.trans ((same_upd np _).trans (same_upd nq _))).free nt
      · rw [upd_same, List.map_append (l₁ := F ++ [x]), List.map_reverse]
end
end TR
namespace TR
open PySem PySem.Spec PyProof.Rows L2 L2.TT StX ClX
def spIsStd (C : Addr) (K : PySem.W.Frag) : Sp := fun vs H Q _ => ∃ (r : Addr) (tr : List E2) (v : V) (o : Option (V × V)), vs = [.ref r, v] ∧ RailAt C H r tr ∧ PV K H v o ∧ Q (.bl (isPr o ((tr.length : Int) + 1))) H
def spChkStd (C : Addr) : Sp := fun vs H Q _ => ∃ (r t : Addr) (tr : List E2) (a b : Nat), vs = [.ref r, .ref t] ∧ RailAt C H r tr ∧ H t = some (.tup [iv a, iv b]) ∧ a ≤ tr.length ∧ b ≤ tr.length ∧ a ≠ b ∧ Q .non H
def spBody (C : Addr) : Sp := fun vs H Q _ => ∃ (r t : Addr) (tr : List E2) (a b : Nat), vs = [.ref r, .ref t] ∧ RailAt C H r tr ∧ H t = some (.tup [iv a, iv b]) ∧ a ≤ tr.length ∧ b ≤ tr.length ∧ a ≠ b ∧
  ∀ (l : List Nat) (p : Addr) (H' : Hp), SW tr a b l → Same H H' → H p = none → H' p = some (.tup (l.map iv)) → Q (.ref p) H'
section
variable {P : Program} {w : World} {K : PySem.W.Frag} {mg : Str → Option Value} {base : Heap}
theorem sc_isstd : FnScope ["railway", "value"] ["railway", "value"] (defScope s_is_standing) := ⟨rfl, rfl, rfl, by decide +kernel, rfl, by decide +kernel, by decide +kernel⟩
theorem ok_isstd {f fI C p g : Addr} {fd fdI fdS : FuncData} (F : Fun K "is_standing" "is_standing" s_is_standing f fd) (U : Use P w K mg base CX0 3 "is_pair_of_stations" fI fdI ["value", "size"] (spPair K)) (Z : SizeOf P w K mg base C p g fdS) : FnOk P w K mg base CX0 4 f fd ["railway", "value"] (spIsStd C K) := by
  refine F.ok sc_isstd (fun vs H Q E h => ?_) (fun cdv A outer s H vs Q E hr h => ?_)
  · obtain ⟨r, tr, v, o, rfl, _⟩ := h
    rfl
  · obtain ⟨r, tr, v, o, rfl, R, hv, k⟩ := h
    refine ⟨_, pss_one (ps_ret (pe_use U hr rfl (pa_cons (pv 1) (pa_cons (pe_prop (pv 0) Z.cl Z.hp Z.G (hr.mono (by decide)) Z.b .nil pass0 rfl) pa_nil)))), ?_⟩
    obtain ⟨T, few, dx, tt, na, Aa, L, ps, ts, h1, h2⟩ := id R
    exact ⟨_, rfl, _, rfl, r, dx, _, rfl, h1, r, tr, rfl, R, v, _, o, rfl, hv, k⟩
theorem sc_chkstd : FnScope ["railway", "standing"] ["railway", "standing"] (defScope s_check_standing) := ⟨rfl, rfl, rfl, by decide +kernel, rfl, by decide +kernel, by decide +kernel⟩
theorem ok_chkstd {f fI C : Addr} {fd fdI : FuncData} (F : Fun K "check_standing" "check_standing" s_check_standing f fd) (U : Use P w K mg base CX0 4 "is_standing" fI fdI ["railway", "value"] (spIsStd C K)) : FnOk P w K mg base CX0 5 f fd ["railway", "standing"] (spChkStd C) := by
  refine F.ok sc_chkstd (fun vs H Q E h => ?_) (fun cdv A outer s H vs Q E hr h => ?_)
  · obtain ⟨r, t, tr, a, b, rfl, _⟩ := h
    rfl
  · obtain ⟨r, t, tr, a, b, rfl, R, ht, ha, hb, ne, k⟩ := h
    refine ⟨_, pss_one (ps_if (pt_not (pt_val (pe_use U hr rfl (pa_cons (pv 0) (pa_cons (pv 1) pa_nil))))) pss_never pss_nil), ?_⟩
    refine ⟨_, rfl, _, rfl, r, tr, _, _, rfl, R, .two ht (.inl ⟨_, rfl⟩) (.inl ⟨_, rfl⟩), _, rfl, ?_⟩
    rw [show isPr (some (iv a, iv b)) ((tr.length : Int) + 1) = true from isPr_ok (n := tr.length + 1) (by omega) (by omega) ne]
    exact iteF k
abbrev NSt : List Str := ["railway", "standing", "head", "tail"]
theorem sc_body : FnScope NSt ["railway", "standing"] (defScope s_body_of) := ⟨rfl, rfl, rfl, by decide +kernel, rfl, by decide +kernel, by decide +kernel⟩
theorem ok_body {f fI fp C : Addr} {fd fdI fdp : FuncData} (F : Fun K "body_of" "body_of" s_body_of f fd) (X : TxtR K mg C) (U : Use P w K mg base CX0 5 "check_standing" fI fdI ["railway", "standing"] (spChkStd C)) (m : Meth K C "path" fp) (G : FnOk P w K mg base CX0 5 fp fdp ["self", "one", "other"] (spPath C)) (bp : Binds K fdp ["self", "one", "other"] []) :
    FnOk P w K mg base CX0 6 f fd ["railway", "standing"] (spBody C) := by
  refine F.ok sc_body (fun vs H Q E h => ?_) (fun cdv A outer s H vs Q E hr h => ?_)
  · obtain ⟨r, t, tr, a, b, rfl, _⟩ := h
    rfl
  · obtain ⟨r, t, tr, a, b, rfl, R, ht, ha, hb, ne, k⟩ := h
    refine ⟨_, pss_cons (ps_expr (pe_use U hr rfl (pa_cons (pv 0) (pa_cons (pv 1) pa_nil))))
      (pss_cons (ps_asg (pv 1) (pg_tup rfl (pgs_cons (pg_name (i := 2) sc_body.nd rfl (.inl rfl)) (pgs_cons (pg_name (i := 3) sc_body.nd rfl (.inl rfl)) pgs_nil))))
      (pss_one (ps_ret (pe_meth (pv 0) X.cl m G hr bp .nil pass0 (pa_cons (pv 2) (pa_cons (pv 3) pa_nil)))))), ?_⟩
    obtain ⟨T, few, dx, tt, na, Aa, L, ps, ts, h1, h2⟩ := id R
    refine ⟨_, rfl, _, rfl, r, t, tr, a, b, rfl, R, ht, ha, hb, ne, ?_⟩
    refine ⟨_, rfl, t, _, rfl, SqT.of ht, rfl, ?_⟩
    refine ⟨_, _, rfl, _, _, rfl, rfl, ?_⟩
    exact ⟨_, rfl, r, dx, _, rfl, h1, flR_no (by decide +kernel) (by decide +kernel) (by decide +kernel) (by decide +kernel), _, rfl, _, rfl, r, tr, a, b, rfl, R, ha, hb, k⟩
end
end TR
namespace L2.TT
open PySem PySem.Spec PyProof.Rows PySem.W
end L2.TT
namespace L2.TT
open PySem PySem.Spec PyProof.Rows PySem.W
open Builtin
end L2.TT
namespace L2.TT
open PySem PySem.Spec PyProof.Rows PySem.W
section
variable {X : Cx} {e : Expr} {te : TE} {n : Str} {pos : Pos}
/-- what the written part says of object's __class__ -/
structure KCls (K : Frag) : Prop where
  gt : specialIn K (.builtin "object.__class__") "__get__" = some (some (.builtin "getset_descriptor.__get__"))
  tk : takesIn K (.builtin "object.__class__") = some true
end
end L2.TT
namespace L2.TT
open PySem PySem.Spec PyProof.Rows PySem.W
def keyD : Key → PyData
  | .inl i => .int i
  | .inr x => .str x
/-- a flat value -/
inductive FlatD : V → PyData → Prop
  | non : FlatD .non .none
  | bl (b : Bool) : FlatD (.bl b) (.bool b)
  | int (i : Int) : FlatD (.int i) (.int i)
  | str (x : Str) : FlatD (.str x) (.str x)
abbrev KvD : List (Key × V) → List (PyData × PyData) → Prop := Paired fun p q => q.1 = keyD p.1 ∧ FlatD p.2 q.2
/-- flat, or a dict of flat things -/
inductive FD (H : Hp) : V → PyData → Prop
  | flat {v : V} {d : PyData} : FlatD v d → FD H v d
  | dic {a : Addr} {kvs : List (Key × V)} {es : List (PyData × PyData)} : H a = some (.dK kvs) → KvD kvs es → FD H (.ref a) (.dict es)
inductive DS (K : Frag) (H : Hp) : V → PyData → Prop
  | fd {v : V} {d : PyData} : FD H v d → DS K H v d
  | tup {a : Addr} {xs : List V} {ds : List PyData} : SqT K H a xs → Paired (FD H) xs ds → DS K H (.ref a) (.tuple ds)
/-- the items of a list that may be shown -/
def DL (K : Frag) (H : Hp) (vs : List V) (ds : List PyData) : Prop := (DpAll K H vs ds ∧ PyData.canLayAll0 ds = true) ∨ Paired (DS K H) vs ds
section
variable {X : Cx} {pins : List (Addr × Obj)} {σ : St} {H : Hp} {s : Shared}
theorem FlatD.reads {v : V} {d : PyData} {u : Value} (f : FlatD v d) (r : RelV v u) (h : Heap) : Reads h u d [] := by
  cases f with
  | non => cases r; exact .none
  | bl b => cases r; exact .bool b
  | int i => obtain ⟨t, rfl⟩ := r; exact .int i t
  | str x => obtain ⟨t, rfl⟩ := r; exact .str x t
theorem reads_vals : ∀ {kvs : List (Key × V)} {es : List (PyData × PyData)} {vs : List (Key × Value)} {ds : List DictEntry} {h : Heap} {P : Program} {w : World}, KvD kvs es → KV kvs vs → Pairs (mixKind P w) ds vs →
    ReadsAll h (ds.map (·.key)) (es.map (·.1)) [] ∧ ReadsAll h (ds.map (·.val)) (es.map (·.2)) []
  | _, _, _, _, _, _, _, .nil, .nil, .nil => ⟨.nil, .nil⟩
  | _, _, _, _, h, _, _, .cons (a := p) (b := q) ⟨e1, f⟩ t, .cons (b := z) ⟨e2, r⟩ t2, .cons (e := e) (kv := _) i v t3 => by
    obtain ⟨h1, h2⟩ := reads_vals (h := h) t t2 t3
    have rk : Reads h e.key q.1 [] := by
      rw [e1, e2]
      have i' : keyIs z.1 e.key = true := i
      rcases keyIs_shape i' with ⟨n, tk, ek, ev⟩ | ⟨x, tk, ek, ev⟩
      · rw [ek, ev]; exact .int n tk
      · rw [ek, ev]; exact .str x tk
    have rv : Reads h e.val q.2 [] := by rw [v]; exact f.reads r h
    exact ⟨ReadsAll.cons rk h1, ReadsAll.cons rv h2⟩
theorem FD.reads (I : Inv X pins σ H s) {v : V} {d : PyData} {u : Value} (f : FD H v d) (r : RelV v u) : ∃ as, Reads s.heap u d as ∧ sysModules ∉ as := by
  cases f with
  | flat f => exact ⟨[], f.reads r _, fun z => nomatch z⟩
  | dic e k =>
    rename_i a kvs es
    cases r
    obtain ⟨_, hs, vs, rel, o, eo, ep, ho, hx, hd, _, hp, _⟩ := dk_of I.hok e
    obtain ⟨h1, h2⟩ := reads_vals (h := s.heap) k rel hp
    refine ⟨_, Reads.dict ho hx.1 hd h1 h2, ?_⟩
    intro z
    have z' : sysModules = a := by simpa using z
    rw [← z'] at hs
    simp at hs
theorem FD.readsAll (I : Inv X pins σ H s) : ∀ {vs : List V} {ds : List PyData} {us : List Value}, Paired (FD H) vs ds → Vals vs us → ∃ as, ReadsAll s.heap us ds as ∧ sysModules ∉ as
  | _, _, _, .nil, .nil => ⟨[], .nil, fun z => nomatch z⟩
  | _, _, _, .cons f t, .cons r t2 => by
    obtain ⟨as, h1, n1⟩ := f.reads I r
    obtain ⟨bs, h2, n2⟩ := FD.readsAll I t t2
    exact ⟨as ++ bs, .cons h1 h2, fun z => (List.mem_append.mp z).elim n1 n2⟩
theorem DS.reads (I : Inv X pins σ H s) {v : V} {d : PyData} {u : Value} (f : DS X.K H v d) (r : RelV v u) : ∃ as, Reads s.heap u d as ∧ sysModules ∉ as := by
  cases f with
  | fd f => exact f.reads I r
  | tup hs ha =>
    cases r
    obtain ⟨its, rv, ⟨o, ho, hc, n, hd⟩, _⟩ := I.tuple hs
    obtain ⟨as, q, n⟩ := FD.readsAll I ha rv
    exact ⟨_, .tuple ho hc hd q, n⟩
theorem DS.readsAll (I : Inv X pins σ H s) : ∀ {vs : List V} {ds : List PyData} {us : List Value}, Paired (DS X.K H) vs ds → Vals vs us → ∃ as, ReadsAll s.heap us ds as ∧ sysModules ∉ as
  | _, _, _, .nil, .nil => ⟨[], .nil, fun z => nomatch z⟩
  | _, _, _, .cons f t, .cons r t2 => by
    obtain ⟨as, h1, n1⟩ := f.reads I r
    obtain ⟨bs, h2, n2⟩ := DS.readsAll I t t2
    exact ⟨as ++ bs, .cons h1 h2, fun z => (List.mem_append.mp z).elim n1 n2⟩
theorem DL.reads (I : Inv X pins σ H s) {vs : List V} {ds : List PyData} {us : List Value} (f : DL X.K H vs ds) (r : Vals vs us) : ∃ as, ReadsAll s.heap us ds as ∧ (PyData.hasDictAll ds = true → sysModules ∉ as) := by
  rcases f with ⟨f, c⟩ | f
  · obtain ⟨as, q⟩ := Dp.readsAll I ds vs us f r
    refine ⟨as, q, fun z => ?_⟩
    rw [PyData.hasDictAll_of_canLayAll ds c] at z
    exact absurd z Bool.false_ne_true
  · obtain ⟨as, q, n⟩ := DS.readsAll I f r
    exact ⟨as, q, fun _ => n⟩
/-- repr(xs), xs a list -/
def rRepr (K : Frag) : List V → Hp → VK → Prop := fun xs H Q => ∃ (a : Addr) (vs : List V) (ds : List PyData), xs = [.ref a] ∧ SqL K H a vs ∧ DL K H vs ds ∧ PyData.showableAll ds = true ∧ PyData.leavesShortAll 13 ds = true ∧ PyData.weightAll ds ≤ 1000000 ∧ PyData.depthAll ds ≤ 20 ∧
  Q (.str (PyData.shown (.list ds))) H
theorem call_repr (hg : X.A.guards = some []) (hu : X.A.units + 64 < cLine) : CallR X (.builtin "repr") (rRepr X.K) := by
  intro pins s σ H xs us Q I r h
  obtain ⟨a, vs, ds, rfl, hl, hd, hs, hb, hw, hp, q⟩ := h
  obtain rfl := Vals.ref1 r
  obtain ⟨its, rv, ⟨o, n, ho, hc, hdn, hda⟩, hz⟩ := I.list hl
  obtain ⟨as, h4, hsm⟩ := hd.reads I rv
  have fit : (PyData.shown (.list ds)).length ≤ sizeLine := PyData.shown_fits (B := 13) (by decide) (by decide) (by simpa only [PyData.leavesShort] using hb) (by
    simp only [PyData.weight]
    omega)
  have hz' : (listText (PyData.shownAll ds)).length ≤ sizeLine := by simpa only [PyData.shown] using fit
  obtain ⟨bs, hbs, hk⟩ := ReprAllK.of_readsAll (prog := X.prog) (w := X.w) h4 hs hsm (fun t ht => Nat.le_trans (listText_mem_le ht) hz')
  have hna : a ∉ bs := not_mem_of_deeper (.list ho hc hda h4) (by simp only [PyData.depth]; omega) hbs
  simp only [PyData.shown] at q
  refine call_repr_slot (by omega) ⟨o, ho, hc⟩ F.slot_list_repr.toG ?_
  cases its with
  | nil =>
    cases h4
    simp only [PyData.shownAll, listText_nil] at q
    refine call_list_repr_empty (s := s) ⟨o, ho, hc⟩ ho hda ?_
    exact ⟨_, _, rfl, .str "[]", H, I.tok _, ⟨_, rfl⟩, q⟩
  | cons x l =>
    refine call_list_reprK ho hc hda hna (by simpa using hk.length_eq) (fun i y e => hk.item i y (by simpa using e)) hg (fun b _ => Clear.nil b) (by show X.A.units + 1 + _ < cLine; omega) (fun _ _ e => e) (fun h' u tk k => ?_) hz'
    exact ⟨_, _, rfl, .str (listText (PyData.shownAll ds)), H, I.kept k, ⟨u, rfl⟩, q⟩
end
end L2.TT
namespace L2.TT
open PySem PySem.Spec PyProof.Rows
def NoGuard (A : Around) : Prop := A.guards = some []
structure FnG (P : Program) (w : World) (K : PySem.W.Frag) (mg : Str → Option Value) (base : Heap) (CX : CXT) (k : Nat) (f : Addr) (fd : FuncData) (ps : List Str) (sp : Sp) : Prop where
  len : ∀ vs H Q E, sp vs H Q E → vs.length = ps.length
  run : ∀ (A : Around) (outer : List Env) (s : Shared) (H : Hp) (args : Args) (us : List Value) (vs : List V) (Q : VK) (E : XK), NoGuard A → Room k A → Env0 P w K mg base A outer s H → BindsTo s fd args (ps.zip us) → Vals vs us → sp vs H Q E →
    codeAny (model P w) A (.call (.ref f) args) (CR CX outer P w H s Q E) s
/-- a def by its body, where no repr is under way -/
theorem fnG_of {CX : CXT} {P : Program} {w : World} {K : PySem.W.Frag} {mg : Str → Option Value} {base : Heap} {k : Nat} {f : Addr} {name qual : Str} {params : Arguments} {body : List Stmt} {scope : Scope} {dV kV doc pm cdv ct oc : Value} {an od : Option Addr}
    {osl : Array (Option Value)} {N ps : List Str} {sp : Sp} (lk : K.lookup f = some ⟨oc, od, .func (PySem.W.fnOf name qual params body scope dV kV doc pm an cdv ct), osl⟩) (hcd : PySem.W.codeIn K cdv qual = true) (S : FnScope N ps scope)
    (len : ∀ vs H Q E, sp vs H Q E → vs.length = ps.length)
    (hbody : ∀ (A : Around) (outer : List Env) (s : Shared) (H : Hp) (vs : List V) (Q : VK) (E : XK), NoGuard (A.deeper (envOfC qual scope s.heap.objs.size f cdv)) → Room k (A.deeper (envOfC qual scope s.heap.objs.size f cdv)) → sp vs H Q E →
      ∃ t, PSs (cxOf CX P w K mg base N qual scope f cdv A outer s H E) body t ∧ t { nx := fun _ H' => Q .non H', rt := Q } (start N vs) H) :
    FnG P w K mg base CX (k + 1) f (PySem.W.fnOf name qual params body scope dV kV doc pm an cdv ct) ps sp := by
  refine ⟨len, fun A outer s H args us vs Q E hG hr e0 hb r hsp => ?_⟩
  have KX : K.In s.heap := e0.mod.kin.keeps fun b o e => (e0.bs b o e).1
  have lim : s.heap.NoLimit := e0.mod.nolimit.keeps fun b o e => (e0.bs b o e).1
  refine codeAny_call_function hr.depth (KX _ _ lk) rfl S.co S.gen rfl (PySem.W.codeRec_of KX hcd) (hb _ _ _ _ ?_)
  refine wpAny_newFunctionEnv_cells S.kind (fun ⟨n, v⟩ hy => ?_) fun env he s1 x => ?_
  · rcases S.par n (List.of_mem_zip hy).1 with q | q
    · exact .inl q
    · exact .inr ⟨q, PySem.W.cellsFrom_some _ _ _ (.inl q)⟩
  · subst he
    refine ⟨lim.keeps x.toInCall.keep, codeAny_func ?_⟩
    obtain ⟨t, ht, hq⟩ := hbody A outer s H vs Q E hG (hr.deeper _) hsp
    have I : Inv (cxOf CX P w K mg base N qual scope f cdv A outer s H E) [] (start N vs) H s1 := inv_start S hr.hd e0 (len _ _ _ _ hsp) r x
    refine wpAny_mono (ht.run [] s1 (start N vs) H _ I hq) (fun fl s' hs => ?_) fun e s' hs => hs
    cases fl with
    | ret u =>
      obtain ⟨v, σ', H', J, rv, q⟩ := hs
      exact ⟨v, H', J.os, J.bare, J.base, J.hok, rv, q⟩
    | next =>
      obtain ⟨σ', H', J, q⟩ := hs
      exact ⟨.non, H', J.os, J.bare, J.base, J.hok, rfl, q⟩
    | brk => exact hs.elim fun _ z => z.elim fun _ y => y.2.elim
    | cont => exact hs.elim fun _ z => z.elim fun _ y => y.2.elim
section
variable {P : Program} {w : World} {K : PySem.W.Frag} {mg : Str → Option Value} {base : Heap}
theorem Fun.okG {x qual : Str} {st : Stmt} {f : Addr} {fd : FuncData} {N ps : List Str} {k : Nat} {sp : Sp} (F : Fun K x qual st f fd) (S : FnScope N ps (defScope st)) (len : ∀ vs H Q E, sp vs H Q E → vs.length = ps.length)
    (hbody : ∀ (cdv : Value) (A : Around) (outer : List Env) (s : Shared) (H : Hp) (vs : List V) (Q : VK) (E : XK), NoGuard (A.deeper (envOfC qual (defScope st) s.heap.objs.size f cdv)) → Room k (A.deeper (envOfC qual (defScope st) s.heap.objs.size f cdv)) → sp vs H Q E →
      ∃ t, PSs (cxOf CX0 P w K mg base N qual (defScope st) f cdv A outer s H E).nox (defBody st) t ∧ t { nx := fun _ H' => Q .non H', rt := Q } (start N vs) H) : FnG P w K mg base CX0 (k + 1) f fd ps sp := by
  obtain ⟨oc, od, kV, doc, pm, an, cdv, ct, osl, rfl, lk, hcd⟩ := F.ex
  refine fnG_of lk hcd S len fun A outer s H vs Q E hG hr hsp => ?_
  obtain ⟨t, h, q⟩ := hbody cdv A outer s H vs Q E hG hr hsp
  exact ⟨t, h.nox, q⟩
end
/-- what the script's object is taken for: known, or an object of the module -/
def scriptHp (K : PySem.W.Frag) (a : Addr) (o : Obj) (xs : List V) : Hp := fun b => if b = a ∧ K.lookup a = none then some (.frz o (.lst xs)) else none
theorem lawG_call {P : Program} {w : World} {K : PySem.W.Frag} {mg mb : Str → Option Value} {k : Nat} {fa a : Addr} {fd : FuncData} {x : Str} {sp : Sp} {s₁ : Shared} {vs : List Value} {ns : List Int}
    (KX : K.In s₁.heap) (hns : s₁.heap.Ns mainGlobals mg) (hb : s₁.heap.Ns builtinsNs mb) (hbb : ∀ x : Str, x ≠ "__name__" → mb x = bootBuiltins x) (hlim : s₁.heap.NoLimit) (hg : s₁.gens = #[])
    (ha : s₁.heap.get? a = some { cls := .type "list", data := .seq vs.toArray }) (hi : IntsAre vs ns) (hl : ns.length ≤ sizeLine) (hr : Room k callerA)
    (F : ∀ base : Heap, K.In base → base.Ns mainGlobals mg → FnG P w K mg base CX0 k fa fd [x] sp) (hbind : ∀ (s : Shared) (u : Value), BindsTo s fd ⟨[u], []⟩ [(x, u)])
    (hsp : ∀ H : Hp, Only H → SqL K H a (ns.map V.int) → sp [.ref a] H (fun v _ => v = .bl true) fun _ _ _ => False) :
    codeAny (model P w) callerA (.call (.ref fa) ⟨[.ref a], []⟩) (fun r s' => r = .ok (.ret (.bool true)) ∧ OldK s₁.heap s'.heap ∧ s'.os = s₁.os ∧ AllBare s'.gens) s₁ := by
  have rv := vals_ints hi
  have lenV := hi.length
  generalize eH : scriptHp K a { cls := .type "list", data := .seq vs.toArray } (ns.map V.int) = H
  have at_ : ∀ b u, H b = some u → b = a ∧ K.lookup a = none ∧ u = .frz { cls := .type "list", data := .seq vs.toArray } (.lst (ns.map V.int)) := fun b u z => by
    rw [← eH] at z
    unfold scriptHp at z
    by_cases c : b = a ∧ K.lookup a = none
    · rw [if_pos c] at z
      exact ⟨c.1, c.2, (Option.some.inj z).symm⟩
    · rw [if_neg c] at z
      cases z
  have hO : Only H := fun b => by
    cases q : H b with
    | none => exact .inl rfl
    | some u =>
      obtain ⟨_, _, e⟩ := at_ b u q
      exact .inr ⟨_, _, by rw [e]⟩
  have hok : HOk P w H s₁.heap := fun b u z => by
    obtain ⟨e1, _, e2⟩ := at_ b u z
    subst e1 e2
    exact ⟨ha, by rw [List.length_map]; exact hl, vs, _, rv, ha⟩
  have hS : SqL K H a (ns.map V.int) := by
    cases hk : K.lookup a with
    | some o =>
      have e := KX a o hk
      rw [ha] at e
      cases e
      exact .inr ⟨_, vs.toArray, _, hk, rfl, rfl, rfl, by rw [List.size_toArray, lenV]; exact hl, by simpa using rv⟩
    | none => exact .inl (.inr ⟨{ cls := .type "list", data := .seq vs.toArray }, by rw [← eH]; exact if_pos ⟨rfl, hk⟩⟩)
  -- the base: what is not tracked
  have off : ∀ {b : Addr} {o : Obj}, s₁.heap.get? b = some o → (b = a → K.lookup a ≠ none ∨ o.data ≠ .seq vs.toArray) → H b = none := fun {b o} e n => by
    cases q : H b with
    | none => rfl
    | some u =>
      obtain ⟨e1, e2, _⟩ := at_ b u q
      rcases n e1 with z | z
      · exact absurd e2 z
      · rw [e1, ha] at e
        cases e
        exact absurd rfl z
  have ns0 : ∀ {b : Addr} {m : Str → Option Value}, s₁.heap.Ns b m → (hidT s₁.heap H).Ns b m := fun {b m} ⟨o, es, ep, e, d, r⟩ =>
    ⟨o, es, ep, hidT_get e (off e fun _ => .inr (by rw [d]; intro z; cases z)), d, r⟩
  have hKb : K.In (hidT s₁.heap H) := fun b o e => hidT_get (KX b o e) (off (KX b o e) fun z => .inl (by rw [← z, e]; intro y; cases y))
  have hM : Mod K mg (hidT s₁.heap H) := ⟨hKb, ns0 hns, ⟨mb, ns0 hb, hbb⟩, let ⟨mc, h1, h2⟩ := hlim; ⟨mc, ns0 h1, h2⟩⟩
  have e0 : Env0 P w K mg (hidT s₁.heap H) callerA [] s₁ H := ⟨rfl, hM, fun b o e => of_hidT e, Nat.le_of_eq (hidT_size _ _), trivial, fun b hb => absurd (show b ∈ ([] : List Addr) from hb) (by simp), hok, .of_eq hg⟩
  refine codeAny_mono ((F _ hKb (ns0 hns)).run callerA [] s₁ H ⟨[.ref a], []⟩ [.ref a] [.ref a] _ _ rfl hr e0 (hbind s₁ (.ref a)) (.cons rfl .nil) (hsp H hO hS)) fun r s' h => ?_
  cases r with
  | error e => exact h.elim
  | ok fl =>
    cases fl with
    | next => exact False.elim h
    | brk => exact False.elim h
    | cont => exact False.elim h
    | ret u =>
      obtain ⟨v, H', os, bare, un, hok', r', q⟩ := h
      have q' : v = .bl true := q
      subst q'
      obtain rfl : u = Value.bool true := r'
      refine ⟨rfl, OldK.of_keep fun b o e => ?_, os, bare⟩
      cases q : H b with
      | none => exact un.keep b o e q (fun z => absurd (show b ∈ ([] : List Addr) from z) (by simp)) (by simp)
      | some u =>
        obtain ⟨e1, _, e2⟩ := at_ b u q
        rw [e2] at q
        obtain ⟨z, _⟩ := hok' b _ (un.frzs b _ _ q)
        rw [e1, ha] at e
        cases e
        rw [e1]
        rw [e1] at z
        exact z
theorem walkG_of {l : PySem.W.OpenLaw} {n k : Nat} {q : Program} {loose : List Str} {XP : (Str → Option Value) → Heap → Prop} {YP : World → Heap → Prop} {d : DefRec} {K : Params → PySem.W.Frag} {sp : World → Sp} {x : Str}
    (hn : l.most = some n) (hn2 : n ≤ sizeLine) (hdf : d.params.defaults = []) (hr : Room k callerA)
    (hY : ∀ (w : World) (h : Heap), YP w h → (K w.params).In h)
    (F : ∀ (w : World) (mg : Str → Option Value) (fa : Addr) (h : Heap), (K w.params).In h → h.Ns mainGlobals mg → mg d.name = some (.ref fa) →
      ∃ fd : FuncData, (∀ (s : Shared) (u : Value), BindsTo s fd ⟨[u], []⟩ [(x, u)]) ∧
        ∀ base : Heap, (K w.params).In base → base.Ns mainGlobals mg → FnG l.prog w (K w.params) mg base CX0 k fa fd [x] (sp w))
    (hsp : ∀ (w : World) (H : Hp) (a : Addr) (ns : List Int), ns.length ≤ n → Only H → SqL (K w.params) H a (ns.map V.int) → sp w [.ref a] H (fun v _ => v = .bl true) fun _ _ _ => False) :
    PySem.W.WalkO q loose XP YP l.row.toRowW d [] (fun f vs => PySem.call f vs) := by
  refine Att.attach_call hn hdf fun w s₀ s₁ mg mb fa o pm cd doc a vs ns G Y ho hd hcd hmg hobj hints hlen hg => ?_
  obtain ⟨fd, hb, hF⟩ := F w mg fa _ (hY w _ Y) G.T.g hmg
  exact lawG_call (hY w _ Y) G.T.g G.T.b G.T.builtins G.T.nolimit hg hobj hints (Nat.le_trans hlen hn2) hr hF hb fun H hO hS => hsp w H a ns hlen hO hS
end L2.TT
namespace TR
open PySem PySem.Spec PyProof.Rows L2 L2.TT
abbrev sBegin : Stmt := s_law_begin
abbrev sMixed : Stmt := s_law_mixed
abbrev sNext : Stmt := s_law_next
/-- the drawn values' state: a dict, its list of cells; no counter beyond n -/
def drawKvs (cl : Addr) (i j k : Int) : List (Key × V) := [(Sum.inr "cells", .ref cl), (Sum.inr "at", .int i), (Sum.inr "left", .int j), (Sum.inr "used", .int k)]
def DrawAt (H : Hp) (dr cl : Addr) (n : Nat) : Prop := ∃ (cs : List Int) (i j k : Int), H dr = some (.dK (drawKvs cl i j k)) ∧ H cl = some (.lst (cs.map V.int)) ∧ cs ≠ [] ∧ cs.length ≤ 64 ∧ 0 ≤ i ∧ i ≤ n ∧ 0 ≤ j ∧ 0 ≤ k ∧ k ≤ n
def spBegin (K : PySem.W.Frag) : Sp := fun vs H Q _ => ∃ (a : Addr) (ns : List Int), vs = [.ref a] ∧ SqL K H a (ns.map V.int) ∧ ns.length ≤ 63 ∧ ∀ (p c : Addr) (H' : Hp), H p = none → H c = none → Same H H' → DrawAt H' p c 0 → Q (.ref p) H'
def spMixed : Sp := fun vs H Q _ => ∃ (c k : Int), vs = [.int c, .int k] ∧ 0 ≤ k ∧ k ≤ 1000000000 ∧ ∀ r : Int, Q (.int r) H
def spNext : Sp := fun vs H Q _ => ∃ (dr cl : Addr) (b : Int) (n : Nat), vs = [.ref dr, .int b] ∧ DrawAt H dr cl n ∧ n ≤ 900000000 ∧ 0 < b ∧ b < 1073741824 ∧
  ∀ (r : Int) (H' : Hp), 0 ≤ r → r < b → DrawAt H' dr cl (n + 1) → (∀ q, q ≠ dr → H' q = H q) → Q (.int r) H'
theorem modb (x : Int) {m : Int} (h : 0 < m) : 0 ≤ x % m ∧ x % m < m := ⟨Int.emod_nonneg _ (by omega), Int.emod_lt_of_pos _ h⟩
theorem n1 : ¬ (("cells" : Str) = "at") := by decide +kernel
theorem n2 : ¬ (("cells" : Str) = "left") := by decide +kernel
theorem n3 : ¬ (("cells" : Str) = "used") := by decide +kernel
theorem n4 : ¬ (("at" : Str) = "left") := by decide +kernel
theorem n5 : ¬ (("at" : Str) = "used") := by decide +kernel
theorem n6 : ¬ (("left" : Str) = "used") := by decide +kernel
theorem dg_cells {cl : Addr} {i j k : Int} : valV (drawKvs cl i j k) (Sum.inr "cells") = some (.ref cl) := by simp [valV, drawKvs]
theorem dg_at {cl : Addr} {i j k : Int} : valV (drawKvs cl i j k) (Sum.inr "at") = some (.int i) := by simp [valV, drawKvs, n1]
theorem dg_left {cl : Addr} {i j k : Int} : valV (drawKvs cl i j k) (Sum.inr "left") = some (.int j) := by simp [valV, drawKvs, n2, n4]
theorem dg_used {cl : Addr} {i j k : Int} : valV (drawKvs cl i j k) (Sum.inr "used") = some (.int k) := by simp [valV, drawKvs, n3, n5, n6]
theorem dp_at {cl : Addr} {i j k x : Int} : putK (drawKvs cl i j k) (Sum.inr "at") (.int x) = drawKvs cl x j k := by simp [putK, drawKvs, n1, n4, n5, Ne.symm n4, Ne.symm n5]
theorem dp_left {cl : Addr} {i j k x : Int} : putK (drawKvs cl i j k) (Sum.inr "left") (.int x) = drawKvs cl i x k := by simp [putK, drawKvs, n2, n4, n6, Ne.symm n6]
theorem dp_used {cl : Addr} {i j k x : Int} : putK (drawKvs cl i j k) (Sum.inr "used") (.int x) = drawKvs cl i j x := by simp [putK, drawKvs, n3, n5, n6]
theorem atI_pos {α : Type} {xs : List α} {i : Int} {v : α} (h0 : 0 ≤ i) (h : xs[i.toNat]? = some v) : atI xs i = some v := by
  have := atI_nat h
  rwa [Int.toNat_of_nonneg h0] at this
structure TxtD (K : PySem.W.Frag) (mg : Str → Option Value) (fM : Addr) : Prop where
  len : mg "len" = none
  gM : mg "_law_mixed" = some (.ref fM)
section
variable {P : Program} {w : World} {K : PySem.W.Frag} {mg : Str → Option Value} {base : Heap}
theorem scB : FnScope ["script"] ["script"] (defScope sBegin) := ⟨rfl, rfl, rfl, by decide +kernel, rfl, by decide +kernel, by decide +kernel⟩
theorem ok_begin {f : Addr} {fd : FuncData} (F : Fun K "_law_begin" "_law_begin" sBegin f fd) : FnOk P w K mg base CX0 1 f fd ["script"] (spBegin K) := by
  refine F.ok scB (fun vs H Q E h => ?_) (fun cdv A outer s H vs Q E hr h => ?_)
  · obtain ⟨a, ns, rfl, _⟩ := h
    rfl
  · obtain ⟨a, ns, rfl, hS, hl, k⟩ := h
    refine ⟨_, pss_one (ps_ret (pe_disp (pps_cons pe_str (pe_op op_catL (pv 0) (pe_lst (pa_cons pe_int pa_nil))) (pps_cons pe_str pe_int (pps_cons pe_str pe_int (pps_cons pe_str pe_int pps_nil)))) (by rfl) (by rfl) (fun z => by cases z) (by decide))), ?_⟩
    intro p hp
    have s1 : Same H (upd H p (.dK [])) := fun b o e => by rw [upd_ne (ne_of_none e hp)]; exact e
    refine ⟨_, rfl, by rw [sizeLine_eq]; decide, fun l hl2 => ?_⟩
    have npl : p ≠ l := ne_of_none upd_same hl2
    have s2 : Same H (upd (upd H p (.dK [])) l (.lst [V.int 0])) := fun b o e => by rw [upd_ne (ne_of_none (s1 b o e) hl2)]; exact s1 b o e
    refine ⟨a, l, ns.map V.int, [V.int 0], rfl, rfl, s2.seq hS, .inl (.inl upd_same), ?_⟩
    rw [sizeLine_eq, List.length_map]
    refine ⟨by simp only [List.length_singleton]; omega, fun c hc => ?_⟩
    have ncp : p ≠ c := ne_of_none (by rw [upd_ne npl]; exact upd_same) hc
    have s3 : Same H (upd (upd (upd H p (.dK [])) l (.lst [V.int 0])) c (.lst (ns.map V.int ++ [V.int 0]))) := fun b o e => by rw [upd_ne (ne_of_none (s2 b o e) hc)]; exact s2 b o e
    refine ⟨by rw [upd_ne ncp, upd_ne npl, upd_same], drawKvs c 0 0 0, rfl, (by show 4 ≤ 15; decide), ?_⟩
    refine k p c _ hp (s2.free hc) (fun b o e => by rw [upd_ne (ne_of_none e hp)]; exact s3 b o e) ⟨ns ++ [0], 0, 0, 0, ?_, ?_, by simp, by simp; omega, by decide, by decide, by decide, by decide, by decide⟩
    · rw [upd_same]
      rfl
    · rw [upd_ne ncp.symm, upd_same, List.map_append]
      rfl
theorem scM : FnScope ["cell", "k", "mixed"] ["cell", "k"] (defScope sMixed) := ⟨rfl, rfl, rfl, by decide +kernel, rfl, by decide +kernel, by decide +kernel⟩
theorem ok_mixed {f : Addr} {fd : FuncData} (F : Fun K "_law_mixed" "_law_mixed" sMixed f fd) : FnOk P w K mg base CX0 1 f fd ["cell", "k"] spMixed := by
  refine F.ok scM (fun vs H Q E h => ?_) (fun cdv A outer s H vs Q E hr h => ?_)
  · obtain ⟨a, ns, rfl, _⟩ := h
    rfl
  · obtain ⟨c, n, rfl, h0, hn, k⟩ := h
    refine ⟨_, pss_cons (ps_set (i := 2) scM.nd rfl (Or.inl rfl) (pe_op op_mod (pe_op op_add (pe_op op_add (pe_op op_add (pe_op op_mod (pv 0) pe_int) (pe_op op_mul (pe_op op_mul pe_int (pv 1)) (pv 1))) (pe_op op_mul pe_int (pv 1))) pe_int) pe_int))
      (pss_cons (ps_set (i := 2) scM.nd rfl (Or.inl rfl) (pe_op op_mod (pe_op op_mul (pe_op op_mod (pe_op op_mul (pv 2) (pv 2)) pe_int) (pv 2)) pe_int))
      (pss_one (ps_ret (pe_op op_fdiv (pe_op op_mod (pe_op op_mul (pv 2) (pe_op op_add pe_int (pe_op op_mul pe_int (pe_op op_mod (pv 1) pe_int)))) pe_int) pe_int)))), ?_⟩
    refine ⟨_, rfl, _, _, rfl, rfl, (by show (0 : Int) < 1000000007; decide), ?_⟩
    refine ⟨_, rfl, _, _, rfl, rfl, .inl ⟨by decide, by decide⟩, _, rfl, _, _, rfl, rfl, .inr ⟨by omega, by omega⟩, _, _, rfl, rfl, ?_⟩
    refine ⟨_, rfl, _, _, rfl, rfl, .inl ⟨by decide, by decide⟩, _, _, rfl, rfl, _, _, rfl, rfl, _, _, rfl, rfl, (by show (0 : Int) < 2147483647; decide), ?_⟩
    have hm := modb (c % 1000000007 + 7919 * n * n + 31 * n + 7) (m := 2147483647) (by decide)
    generalize (c % 1000000007 + 7919 * n * n + 31 * n + 7) % 2147483647 = m at hm
    refine ⟨_, rfl, _, rfl, _, _, rfl, rfl, .inl ⟨by omega, by omega⟩, _, _, rfl, rfl, (by show (0 : Int) < 2147483647; decide), ?_⟩
    have hm2 := modb (m * m) (m := 2147483647) (by decide)
    generalize (m * m) % 2147483647 = m2 at hm2
    refine ⟨_, rfl, _, _, rfl, rfl, .inl ⟨by omega, by omega⟩, _, _, rfl, rfl, (by show (0 : Int) < 2147483629; decide), ?_⟩
    have hm3 := modb (m2 * m) (m := 2147483629) (by decide)
    generalize (m2 * m) % 2147483629 = m3 at hm3
    refine ⟨_, rfl, _, rfl, _, _, rfl, rfl, (by show (0 : Int) < 1000; decide), _, _, rfl, rfl, .inl ⟨by decide, by decide⟩, _, _, rfl, rfl, _, _, rfl, rfl, .inl ⟨by omega, by omega⟩, _, _, rfl, rfl, (by show (0 : Int) < 2147483647; decide), _, _, rfl, rfl, ⟨by decide, by decide⟩, ?_⟩
    exact k _
theorem scN : FnScope ["draw", "bound", "found", "cells", "cell"] ["draw", "bound"] (defScope sNext) := ⟨rfl, rfl, rfl, by decide +kernel, rfl, by decide +kernel, by decide +kernel⟩
theorem ok_next {f fM : Addr} {fd fdM : FuncData} (F : Fun K "_law_next" "_law_next" sNext f fd) (T : TxtD K mg fM) (FM : Fun K "_law_mixed" "_law_mixed" sMixed fM fdM) (bM : Binds K fdM ["cell", "k"] []) : FnOk P w K mg base CX0 2 f fd ["draw", "bound"] spNext := by
  have GM : FnOk P w K mg base CX0 1 fM fdM ["cell", "k"] spMixed := ok_mixed FM
  refine F.ok scN (fun vs H Q E h => ?_) (fun cdv A outer s H vs Q E hr h => ?_)
  · obtain ⟨a, cl0, ns, n, rfl, _⟩ := h
    rfl
  · obtain ⟨dr, cl, b, n, rfl, ⟨cs, i, j, k, hd, hc, hne, hcl, hi0, hin, hj0, hk0, hkn⟩, hn, hb0, hb1, q⟩ := h
    have hu := hu_of hr
    refine ⟨_, pss_cons (ps_if (pt_cmpR op_gt (pe_dget hu (pv 0) pe_str (fun _ _ => rfl)) pe_int (nomark _))
        (pss_cons (ps_set (i := 2) scN.nd rfl (Or.inl rfl) (pe_op op_modN (pe_dget hu (pv 0) pe_str (fun _ _ => rfl)) (pv 1)))
        (pss_cons (ps_dput hu (pv 0) pe_str (pe_op op_fdivN (pe_dget hu (pv 0) pe_str (fun _ _ => rfl)) (pv 1)) rfl)
        (pss_one (ps_ret (pv 2))))) pss_nil)
      (pss_cons (ps_set (i := 3) scN.nd rfl (Or.inl rfl) (pe_dget hu (pv 0) pe_str (fun _ _ => rfl)))
      (pss_cons (ps_set (i := 4) scN.nd rfl (Or.inl rfl) (pe_ix ix_list (pv 3) (pe_op op_modN (pe_dget hu (pv 0) pe_str (fun _ _ => rfl)) (pe_callB call_len_seq (by rfl) T.len PySem.boot_len (pa_cons (pv 3) pa_nil))) (fun _ _ => rfl)))
      (pss_cons (ps_dput hu (pv 0) pe_str (pe_op op_add (pe_dget hu (pv 0) pe_str (fun _ _ => rfl)) pe_int) rfl)
      (pss_cons (ps_if (PW.pt (pw_and (pt_cmpR op_ge (pv 4) (pe_op op_pow pe_int pe_int) (nomark _)) (pw_and1 (pt_cmpR op_le (pe_dget hu (pv 0) pe_str (fun _ _ => rfl)) (pe_callB call_len_seq (by rfl) T.len PySem.boot_len (pa_cons (pv 3) pa_nil)) (nomark _)))))
        (pss_cons (ps_dput hu (pv 0) pe_str (pe_op op_fdivN (pv 4) (pv 1)) rfl)
        (pss_one (ps_ret (pe_op op_modN (pv 4) (pv 1))))) pss_nil)
      (pss_cons (ps_dput hu (pv 0) pe_str (pe_op op_add (pe_dget hu (pv 0) pe_str (fun _ _ => rfl)) pe_int) rfl)
      (pss_one (ps_ret (pe_op op_modN (pe_call GM hr rfl T.gM FM.kp bM .nil pass0 (pa_cons (pe_call GM hr rfl T.gM FM.kp bM .nil pass0 (pa_cons (pv 4) (pa_cons (pe_dget hu (pv 0) pe_str (fun _ _ => rfl)) pa_nil))) (pa_cons (pe_dget hu (pv 0) pe_str (fun _ _ => rfl)) pa_nil))) (pv 1))))))))), ?_⟩
    have gA : DGet H dr (kV (Sum.inr "at")) (some (.int i)) := by rw [← dg_at]; exact DGet.k hd
    have gL : DGet H dr (kV (Sum.inr "left")) (some (.int j)) := by rw [← dg_left]; exact DGet.k hd
    have gC : DGet H dr (kV (Sum.inr "cells")) (some (.ref cl)) := by rw [← dg_cells]; exact DGet.k hd
    have ncd : cl ≠ dr := ne_of hc hd (by intro z; cases z)
    -- if draw["left"] > 0
    refine ⟨_, rfl, dr, _, rfl, gL, _, _, rfl, rfl, _, rfl, ?_⟩
    refine ite2 (fun hj => ?_) (fun hj => ?_)
    · refine ⟨_, rfl, dr, _, rfl, gL, _, rfl, _, _, rfl, rfl, by omega, ?_⟩
      refine ⟨_, rfl, dr, _, rfl, gL, _, rfl, _, _, rfl, rfl, ⟨by omega, by omega⟩, _, rfl, dr, _, rfl, DPut.k (k := Sum.inr "left") hd (by show 4 < sizeLine; rw [sizeLine_eq]; decide), ?_⟩
      refine ⟨_, rfl, ?_⟩
      rw [dp_left]
      refine q _ _ ?_ ?_ ⟨cs, i, _, k, upd_same, by rw [upd_ne ncd]; exact hc, hne, hcl, hi0, by omega, ?_, hk0, by omega⟩ fun z hz => upd_ne hz
      · rw [Int.fmod_eq_emod_of_nonneg _ (by omega)]
        exact (modb _ hb0).1
      · rw [Int.fmod_eq_emod_of_nonneg _ (by omega)]
        exact (modb _ hb0).2
      · rw [Int.fdiv_eq_ediv_of_nonneg _ (by omega)]
        exact Int.ediv_nonneg hj0 (by omega)
    · -- the next cell
      have hlp : 0 < cs.length := List.length_pos_iff.mpr hne
      have hmz : (0 : Int) ≤ i.fmod (cs.length : Int) ∧ i.fmod (cs.length : Int) < cs.length := by
        rw [Int.fmod_eq_emod_of_nonneg _ (by omega)]
        exact modb _ (by omega)
      obtain ⟨c, hcx⟩ : ∃ c, (cs.map V.int)[(i.fmod (cs.length : Int)).toNat]? = some (V.int c) := by
        have hlt : (i.fmod (cs.length : Int)).toNat < cs.length := by omega
        exact ⟨cs[(i.fmod (cs.length : Int)).toNat], by rw [List.getElem?_map, List.getElem?_eq_getElem hlt]; rfl⟩
      refine ⟨_, rfl, dr, _, rfl, gC, ?_⟩
      refine ⟨_, rfl, _, rfl, dr, _, rfl, gA, _, rfl, cl, _, rfl, .inl (SqL.of hc), _, _, rfl, rfl, by rw [List.length_map]; omega, ?_⟩
      rw [List.length_map]
      refine ⟨cl, _, _, _, rfl, rfl, SqL.of hc, atI_pos hmz.1 hcx, ?_⟩
      -- draw["at"] = draw["at"] + 1
      refine ⟨_, rfl, dr, _, rfl, gA, _, _, rfl, rfl, _, rfl, dr, _, rfl, DPut.k (k := Sum.inr "at") hd (by show 4 < sizeLine; rw [sizeLine_eq]; decide), ?_⟩
      rw [dp_at]
      have hd1 : upd H dr (.dK (drawKvs cl (i + 1) j k)) dr = some (.dK (drawKvs cl (i + 1) j k)) := upd_same
      have hc1 : upd H dr (.dK (drawKvs cl (i + 1) j k)) cl = some (.lst (cs.map V.int)) := by rw [upd_ne ncd]; exact hc
      have ke1 : ∀ z, z ≠ dr → upd H dr (.dK (drawKvs cl (i + 1) j k)) z = H z := fun z hz => upd_ne hz
      generalize upd H dr (.dK (drawKvs cl (i + 1) j k)) = H1 at hd1 hc1 ke1
      have gA1 : DGet H1 dr (kV (Sum.inr "at")) (some (.int (i + 1))) := by rw [← dg_at]; exact DGet.k hd1
      have gU1 : DGet H1 dr (kV (Sum.inr "used")) (some (.int k)) := by rw [← dg_used]; exact DGet.k hd1
      refine ⟨_, rfl, _, _, rfl, rfl, ⟨by decide, by decide, by decide⟩, _, _, rfl, rfl, _, rfl, ?_⟩
      refine ite2 (fun hg => ?_) (fun hg => ?_)
      · refine ⟨_, rfl, dr, _, rfl, gA1, _, rfl, cl, _, rfl, .inl (SqL.of hc1), _, _, rfl, rfl, _, rfl, ?_⟩
        refine ite2 (fun hg2 => ?_) (fun hg2 => ?_)
        · have hc0 : (0 : Int) ≤ c := by
            have := of_decide_eq_true hg
            have e : (10 : Int) ^ (18 : Int).toNat = 1000000000000000000 := by decide
            rw [e] at this
            omega
          refine ⟨_, rfl, _, rfl, _, _, rfl, rfl, ⟨by omega, by omega⟩, _, rfl, dr, _, rfl, DPut.k (k := Sum.inr "left") hd1 (by show 4 < sizeLine; rw [sizeLine_eq]; decide), ?_⟩
          rw [dp_left]
          refine ⟨_, rfl, _, rfl, _, _, rfl, rfl, by omega, ?_⟩
          show Q (.int (Int.fmod c b)) _
          rw [Int.fmod_eq_emod_of_nonneg _ (by omega)]
          refine q _ _ (modb _ hb0).1 (modb _ hb0).2 ⟨cs, i + 1, _, k, upd_same, by rw [upd_ne ncd]; exact hc1, hne, hcl, by omega, by omega, ?_, hk0, by omega⟩ fun z hz => by rw [upd_ne hz]; exact ke1 z hz
          rw [Int.fdiv_eq_ediv_of_nonneg _ (by omega)]
          exact Int.ediv_nonneg hc0 (by omega)
        · skip
          refine ⟨_, rfl, dr, _, rfl, gU1, _, _, rfl, rfl, _, rfl, dr, _, rfl, DPut.k (k := Sum.inr "used") hd1 (by show 4 < sizeLine; rw [sizeLine_eq]; decide), ?_⟩
          rw [dp_used]
          have hd2 : upd H1 dr (.dK (drawKvs cl (i + 1) j (k + 1))) dr = some (.dK (drawKvs cl (i + 1) j (k + 1))) := upd_same
          have hc2 : upd H1 dr (.dK (drawKvs cl (i + 1) j (k + 1))) cl = some (.lst (cs.map V.int)) := by rw [upd_ne ncd]; exact hc1
          have ke2 : ∀ z, z ≠ dr → upd H1 dr (.dK (drawKvs cl (i + 1) j (k + 1))) z = H z := fun z hz => by rw [upd_ne hz]; exact ke1 z hz
          generalize upd H1 dr (.dK (drawKvs cl (i + 1) j (k + 1))) = H2 at hd2 hc2 ke2
          have gA2 : DGet H2 dr (kV (Sum.inr "at")) (some (.int (i + 1))) := by rw [← dg_at]; exact DGet.k hd2
          have gU2 : DGet H2 dr (kV (Sum.inr "used")) (some (.int (k + 1))) := by rw [← dg_used]; exact DGet.k hd2
          refine ⟨_, rfl, _, rfl, dr, _, rfl, gA2, c, i + 1, rfl, by omega, by omega, fun r1 => ?_⟩
          refine ⟨_, rfl, dr, _, rfl, gU2, r1, k + 1, rfl, by omega, by omega, fun r2 => ?_⟩
          refine ⟨_, rfl, _, _, rfl, rfl, by omega, ?_⟩
          have hr2 := modb r2 hb0
          show Q (.int (Int.fmod r2 b)) _
          rw [Int.fmod_eq_emod_of_nonneg _ (by omega)]
          exact q _ _ hr2.1 hr2.2 ⟨cs, i + 1, j, k + 1, hd2, hc2, hne, hcl, by omega, by omega, hj0, by omega, by omega⟩ ke2
      · refine iteF ?_
        refine ⟨_, rfl, dr, _, rfl, gU1, _, _, rfl, rfl, _, rfl, dr, _, rfl, DPut.k (k := Sum.inr "used") hd1 (by show 4 < sizeLine; rw [sizeLine_eq]; decide), ?_⟩
        rw [dp_used]
        have hd2 : upd H1 dr (.dK (drawKvs cl (i + 1) j (k + 1))) dr = some (.dK (drawKvs cl (i + 1) j (k + 1))) := upd_same
        have hc2 : upd H1 dr (.dK (drawKvs cl (i + 1) j (k + 1))) cl = some (.lst (cs.map V.int)) := by rw [upd_ne ncd]; exact hc1
        have ke2 : ∀ z, z ≠ dr → upd H1 dr (.dK (drawKvs cl (i + 1) j (k + 1))) z = H z := fun z hz => by rw [upd_ne hz]; exact ke1 z hz
        generalize upd H1 dr (.dK (drawKvs cl (i + 1) j (k + 1))) = H2 at hd2 hc2 ke2
        have gA2 : DGet H2 dr (kV (Sum.inr "at")) (some (.int (i + 1))) := by rw [← dg_at]; exact DGet.k hd2
        have gU2 : DGet H2 dr (kV (Sum.inr "used")) (some (.int (k + 1))) := by rw [← dg_used]; exact DGet.k hd2
        refine ⟨_, rfl, _, rfl, dr, _, rfl, gA2, c, i + 1, rfl, by omega, by omega, fun r1 => ?_⟩
        refine ⟨_, rfl, dr, _, rfl, gU2, r1, k + 1, rfl, by omega, by omega, fun r2 => ?_⟩
        refine ⟨_, rfl, _, _, rfl, rfl, by omega, ?_⟩
        have hr2 := modb r2 hb0
        show Q (.int (Int.fmod r2 b)) _
        rw [Int.fmod_eq_emod_of_nonneg _ (by omega)]
        exact q _ _ hr2.1 hr2.2 ⟨cs, i + 1, j, k + 1, hd2, hc2, hne, hcl, by omega, by omega, hj0, by omega, by omega⟩ ke2
end
end TR
namespace TR
open PySem PySem.Spec PyProof.Rows L2 L2.TT StX ClX
theorem DrawAt.mono {H : Hp} {dr cl : Addr} {n m : Nat} (d : DrawAt H dr cl n) (h : n ≤ m) : DrawAt H dr cl m := by
  obtain ⟨cs, i, j, k, h1, h2, h3, h4, h5, h6, h7, h8, h9⟩ := d
  exact ⟨cs, i, j, k, h1, h2, h3, h4, h5, by omega, h7, h8, by omega⟩
theorem DrawAt.keep {H H' : Hp} {dr cl : Addr} {n : Nat} (d : DrawAt H dr cl n) (e1 : H' dr = H dr) (e2 : H' cl = H cl) : DrawAt H' dr cl n := by
  obtain ⟨cs, i, j, k, h1, h2, r⟩ := d
  exact ⟨cs, i, j, k, e1.trans h1, e2.trans h2, r⟩
theorem DrawAt.same {H H' : Hp} {dr cl : Addr} {n : Nat} (d : DrawAt H dr cl n) (s : Same H H') : DrawAt H' dr cl n := by
  obtain ⟨cs, i, j, k, h1, h2, r⟩ := d
  exact ⟨cs, i, j, k, s _ _ h1, s _ _ h2, r⟩
theorem DrawAt.some1 {H : Hp} {dr cl : Addr} {n : Nat} (d : DrawAt H dr cl n) : ∃ kvs, H dr = some (.dK kvs) := by
  obtain ⟨cs, i, j, k, h1, h2, r⟩ := d
  exact ⟨_, h1⟩
theorem DrawAt.some2 {H : Hp} {dr cl : Addr} {n : Nat} (d : DrawAt H dr cl n) : ∃ xs, H cl = some (.lst xs) := by
  obtain ⟨cs, i, j, k, h1, h2, r⟩ := d
  exact ⟨_, h2⟩
/-- all but the draw stands as before -/
def Fr (dr : Addr) (H H' : Hp) : Prop := ∀ b o, H b = some o → b ≠ dr → H' b = some o
theorem Fr.trans {dr : Addr} {H H1 H2 : Hp} (a : Fr dr H H1) (b : Fr dr H1 H2) : Fr dr H H2 := fun c o e n => b _ _ (a _ _ e n) n
theorem Fr.of {dr : Addr} {H H' : Hp} (h : ∀ q, q ≠ dr → H' q = H q) : Fr dr H H' := fun b o e n => by rw [h b n]; exact e
theorem Fr.sm {dr : Addr} {H H' : Hp} (h : Same H H') : Fr dr H H' := fun b o e _ => h b o e
theorem Prs.fr {dr : Addr} {H H' : Hp} {ps : List Addr} {tr : List E2} {kvs : List (Key × V)} (h : Prs H ps tr) (k : Fr dr H H') (hd : H dr = some (.dK kvs)) : Prs H' ps tr :=
  ⟨h.1, fun i p e a b => k _ _ (h.2 i p e a b) (ne_of (h.2 i p e a b) hd (by intro z; cases z))⟩
theorem Fr.free {dr : Addr} {H H' : Hp} (k : Fr dr H H') {b : Addr} (hb : b ≠ dr) (h : H' b = none) : H b = none := by
  cases e : H b with
  | none => rfl
  | some o =>
    rw [k _ _ e hb] at h
    cases h
structure TI (H H' : Hp) (dr cl fl : Addr) (i n : Nat) (ps : List Addr) (tr : List E2) : Prop where
  D : DrawAt H' dr cl n
  fr : Fr dr H H'
  hf : H' fl = some (.lst (ps.map V.ref))
  P : Prs H' ps tr
  len : tr.length = i
  mxs : tr.map mx = List.range' 1 i
  ne : ∀ e ∈ tr, e.1 ≠ e.2
theorem TI.step {H H' : Hp} {dr cl fl : Addr} {i n m : Nat} {ps : List Addr} {tr : List E2} (t : TI H H' dr cl fl i n ps tr) (nf : H fl = none) (fd : fl ≠ dr) (fc : fl ≠ cl) {H3 : Hp} (D3 : DrawAt H3 dr cl m) (k : Fr dr H' H3) {p : Addr} (np : H3 p = none)
    {e : E2} (he : mx e = i + 1) (hne : e.1 ≠ e.2) : TI H (upd (upd H3 p (.tup [iv e.1, iv e.2])) fl (.lst (ps.map V.ref ++ [.ref p]))) dr cl fl (i + 1) m (ps ++ [p]) (tr ++ [e]) := by
  obtain ⟨kvs, hd0⟩ := t.D.some1
  obtain ⟨kv3, hd3⟩ := D3.some1
  obtain ⟨xs3, hc3⟩ := D3.some2
  have hf3 := k _ _ t.hf fd
  have npf : p ≠ fl := fun z => by rw [z, hf3] at np; cases np
  have npd : p ≠ dr := fun z => by rw [z, hd3] at np; cases np
  have npc : p ≠ cl := fun z => by rw [z, hc3] at np; cases np
  have P3 := t.P.fr k hd0
  refine ⟨D3.keep (by rw [upd_ne fd.symm, upd_ne npd.symm]) (by rw [upd_ne fc.symm, upd_ne npc.symm]), fun b o eb nb => ?_, by rw [upd_same, List.map_append]; rfl, ?_, by rw [List.length_append, t.len]; rfl, ?_, ?_⟩
  · have h1 := k _ _ (t.fr _ _ eb nb) nb
    rw [upd_ne (ne_of_none eb nf), upd_ne (ne_of_none h1 np)]
    exact h1
  · have P4 : Prs (upd H3 p (.tup [iv e.1, iv e.2])) (ps ++ [p]) (tr ++ [e]) := (P3.same (same_upd np _)).snoc upd_same
    refine ⟨P4.1, fun j q d hq hd => ?_⟩
    have h1 := P4.2 j q d hq hd
    have hf4 : upd H3 p (.tup [iv e.1, iv e.2]) fl = some (.lst (ps.map V.ref)) := by rw [upd_ne npf.symm]; exact hf3
    rw [upd_ne (ne_of h1 hf4 (by intro z; cases z))]
    exact h1
  · rw [List.map_append, t.mxs, List.range'_concat]
    show _ ++ [mx e] = _ ++ [1 + 1 * i]
    rw [he]
    congr 2
    omega
  · intro d hd
    rcases List.mem_append.mp hd with hd | hd
    · exact t.ne d hd
    · rw [List.mem_singleton] at hd
      rw [hd]
      exact hne
theorem pick5 {r i : Int} (h0 : 0 ≤ r) (h1 : r < 5) {a b c d e : Int} (ha : 0 ≤ a ∧ a ≤ i) (hb : 0 ≤ b ∧ b ≤ i) (hc : 0 ≤ c ∧ c ≤ i) (hd : 0 ≤ d ∧ d ≤ i) (he : 0 ≤ e ∧ e ≤ i) : ∃ x, atI [V.int a, V.int b, V.int c, V.int d, V.int e] r = some (.int x) ∧ 0 ≤ x ∧ x ≤ i := by
  have : r = 0 ∨ r = 1 ∨ r = 2 ∨ r = 3 ∨ r = 4 := by omega
  rcases this with rfl | rfl | rfl | rfl | rfl
  · exact ⟨a, rfl, ha⟩
  · exact ⟨b, rfl, hb⟩
  · exact ⟨c, rfl, hc⟩
  · exact ⟨d, rfl, hd⟩
  · exact ⟨e, rfl, he⟩
theorem Prs.rot {H : Hp} {ps : List Addr} {tr : List E2} (h : Prs H ps tr) (k : Nat) : Prs H (ps.drop k ++ ps.take k) (tr.drop k ++ tr.take k) := by
  have hl : (ps.drop k).length = (tr.drop k).length := by rw [List.length_drop, List.length_drop, h.1]
  refine ⟨by rw [List.length_append, List.length_append, hl, List.length_take, List.length_take, h.1], fun i p e hp he => ?_⟩
  by_cases c : i < (ps.drop k).length
  · rw [List.getElem?_append_left c, List.getElem?_drop] at hp
    rw [List.getElem?_append_left (by omega), List.getElem?_drop] at he
    exact h.2 _ p e hp he
  · rw [List.getElem?_append_right (by omega)] at hp
    rw [List.getElem?_append_right (by omega)] at he
    rw [← hl] at he
    have c2 : i - (ps.drop k).length < k := by
      have := (List.getElem?_eq_some_iff.mp hp).1
      rw [List.length_take] at this
      omega
    rw [List.getElem?_take_of_lt c2] at hp he
    exact h.2 _ p e hp he
theorem tree_rot {tr : List E2} (ne : ∀ e ∈ tr, e.1 ≠ e.2) (hm : tr.map mx = List.range' 1 tr.length) (k : Nat) : TreeL (tr.drop k ++ tr.take k) := by
  have hp : (tr.drop k ++ tr.take k).Perm tr := by
    have h1 : (tr.drop k ++ tr.take k).Perm (tr.take k ++ tr.drop k) := List.perm_append_comm
    rw [List.take_append_drop] at h1
    exact h1
  refine tree_drawn (fun e he => ne e (hp.mem_iff.mp he)) ?_
  rw [hp.length_eq, ← hm]
  exact hp.map mx
def spTracks : Sp := fun vs H Q _ => ∃ (dr cl : Addr) (m : Int) (n : Nat), vs = [.ref dr, .int m] ∧ DrawAt H dr cl n ∧ n ≤ 800000000 ∧ 0 < m ∧ m ≤ 100 ∧
  ∀ (a : Addr) (ps : List Addr) (tr : List E2) (H' : Hp), DrawAt H' dr cl (n + 400) → Fr dr H H' → H' a = some (.tup (ps.map V.ref)) → Prs H' ps tr → TreeL tr → (tr.length : Int) < m → Q (.ref a) H'
section
variable {P : Program} {w : World} {K : PySem.W.Frag} {mg : Str → Option Value} {base : Heap}
theorem sc_trk : FnScope NTr ["draw", "most"] (defScope s_law_tracks) := ⟨rfl, rfl, rfl, by decide +kernel, rfl, by decide +kernel, by decide +kernel⟩
theorem ok_trk {f fn : Addr} {fd fdn : FuncData} (F : Fun K "_law_tracks" "_law_tracks" s_law_tracks f fd) (N : Nm mg) (U : Use P w K mg base CX0 2 "_law_next" fn fdn ["draw", "bound"] spNext) : FnOk P w K mg base CX0 3 f fd ["draw", "most"] spTracks := by
  refine F.ok sc_trk (fun vs H Q E h => ?_) (fun cdv A outer s H vs Q E hr h => ?_)
  · obtain ⟨dr, cl, m, n, rfl, _⟩ := h
    rfl
  · obtain ⟨dr, cl, m, n, rfl, D, hn, hm0, hm1, k⟩ := h
    refine ⟨_, pss_cons (ps_par3 (i := 2) (j := 3) (l := 4) (by rfl) sc_trk.nd rfl rfl rfl (by decide) (by decide) (by decide) rfl rfl rfl (pa_cons (pe_op op_add pe_int (pe_use U hr rfl (pa_cons (pv 0) (pa_cons (pv 1) pa_nil)))) (pa_cons (pe_use U hr rfl (pa_cons (pv 0) (pa_cons pe_int pa_nil))) (pa_cons (pe_lst pa_nil) pa_nil))) (by rfl))
      (pss_cons (ps_for PassesOwn.never rfl (pi_range2 (by rfl) N.range (pa_cons pe_int (pa_cons (pv 2) pa_nil))) (pg_name (i := 5) sc_trk.nd rfl (.inl rfl))
        (pss_cons (ps_set (i := 6) sc_trk.nd rfl (.inl rfl) (pe_ix ix_list (pe_lst (pa_cons (pe_op op_sub (pv 5) pe_int) (pa_cons pe_int (pa_cons (pe_callB (call_max2 rfl) (by rfl) N.max PyProof.Rows.boot_max (pa_cons pe_int (pa_cons (pe_op op_sub (pv 5) pe_int) pa_nil)))
            (pa_cons (pe_callB (call_max2 rfl) (by rfl) N.max PyProof.Rows.boot_max (pa_cons pe_int (pa_cons (pe_op op_sub (pv 5) pe_int) pa_nil))) (pa_cons (pe_op op_fdiv (pv 5) pe_int) pa_nil)))))) (pv 3) (fun _ _ => rfl)))
        (pss_cons (ps_set (i := 7) sc_trk.nd rfl (.inl rfl) (pe_ifExp (pt_cmpR op_gt (pe_use U hr rfl (pa_cons (pv 0) (pa_cons pe_int pa_nil))) pe_int (nomark _)) (pv 6) (pe_use U hr rfl (pa_cons (pv 0) (pa_cons (pv 5) pa_nil)))))
        (pss_one (ps_expr (pe_bm PySem.F.plainAttrs_list PySem.F.slot_list_append PySem.F.type_list_append mt_append (pv 4) (pa_cons
          (pe_ifExp (pt_cmpR op_eq (pe_use U hr rfl (pa_cons (pv 0) (pa_cons pe_int pa_nil))) pe_int (nomark _)) (pe_tup (pa_cons (pv 7) (pa_cons (pv 5) pa_nil))) (pe_tup (pa_cons (pv 5) (pa_cons (pv 7) pa_nil)))) pa_nil))))))
      )
      (pss_cons (ps_set (i := 8) sc_trk.nd rfl (.inl rfl) (pe_use U hr rfl (pa_cons (pv 0) (pa_cons (pe_op op_add (pe_callB call_len_seq (by rfl) N.len PySem.boot_len (pa_cons (pv 4) pa_nil)) pe_int) pa_nil))))
      (pss_one (ps_ret (pe_callTy call_tuple_of (by rfl) N.tuple boot_tuple (pa_cons (pe_op op_cat (pe_slice sl_list (pv 4) (po_some (pv 8)) po_none) (pe_slice sl_list (pv 4) po_none (po_some (pv 8)))) pa_nil)))))), ?_⟩
    obtain ⟨kvs0, hd0⟩ := D.some1
    obtain ⟨xs0, hc0⟩ := D.some2
    refine ⟨_, rfl, _, rfl, dr, cl, m, n, rfl, D, by omega, hm0, by omega, fun c0 Ha c00 c01 Da ka => ?_⟩
    refine ⟨_, _, rfl, rfl, _, rfl, dr, cl, 5, _, rfl, Da, by omega, by decide, by decide, fun sh Hb sh0 sh1 Db kb => ?_⟩
    refine ⟨by show 0 ≤ sizeLine; exact Nat.zero_le _, fun fl nfl => ?_⟩
    have frb : Fr dr H Hb := (Fr.of ka).trans (Fr.of kb)
    obtain ⟨kvb, hdb⟩ := Db.some1
    obtain ⟨xsb, hcb⟩ := Db.some2
    have fd : fl ≠ dr := fun z => by rw [z, hdb] at nfl; cases nfl
    have fc : fl ≠ cl := fun z => by rw [z, hcb] at nfl; cases nfl
    have nf : H fl = none := frb.free fd nfl
    refine ⟨_, _, _, rfl, ?_⟩
    have T0 : TI H (upd Hb fl (.lst [])) dr cl fl 0 (n + 2) [] [] := ⟨Db.same (same_upd nfl _), frb.trans (Fr.sm (same_upd nfl _)), upd_same, ⟨rfl, fun _ _ _ h => nomatch h⟩, rfl, rfl, fun _ h => nomatch h⟩
    have e62 : (2 : Int) ^ 62 = 4611686018427387904 := by decide
    refine ⟨_, rfl, 1, _, rfl, ⟨by rw [e62]; omega, by rw [e62]; omega, by rw [e62]; omega, by rw [e62]; omega⟩, ?_⟩
    refine for_range (lo := 1) (fun i σ H1 => ∃ (ps : List Addr) (tr : List E2) (x5 x6 x7 x8 : Option V) (q : Nat), σ = [some (.ref dr), some (.int m), some (.int (1 + c0)), some (.int sh), some (.ref fl), x5, x6, x7, x8] ∧ q ≤ n + 2 + 3 * i ∧ TI H H1 dr cl fl i q ps tr) ⟨[], [], _, _, _, _, _, rfl, by omega, T0⟩ ?_ ?_
    · rintro i σ H1 hi ⟨ps, tr, x5, x6, x7, x8, q, rfl, hq, t⟩
      have hi2 : (i : Int) < 1 + c0 - 1 := by omega
      have lenb : (ps.map V.ref).length < sizeLine := by
        rw [List.length_map, t.P.1, t.len, sizeLine_eq]
        omega
      obtain ⟨b, hb, b0, b1⟩ := pick5 (r := sh) (i := i) sh0 sh1 (a := 1 + (i : Int) - 1) (b := 0) (c := if 1 + (i : Int) - 2 > 0 then 1 + (i : Int) - 2 else 0) (d := if 1 + (i : Int) - 3 > 0 then 1 + (i : Int) - 3 else 0) (e := (1 + (i : Int)) / 2) (by omega) (by omega) (by split <;> omega) (by split <;> omega) (by omega)
      refine ⟨_, rfl, _, _, rfl, rfl, _, rfl, _, _, rfl, rfl, _, _, rfl, _, rfl, _, _, rfl, rfl, _, _, rfl, _, rfl, _, _, rfl, rfl, ⟨by decide, by decide⟩, by show 5 ≤ sizeLine; rw [sizeLine_eq]; decide, fun lq nlq => ?_⟩
      refine ⟨_, rfl, lq, _, _, _, rfl, rfl, SqL.of upd_same, hb, ?_⟩
      have sL := same_upd (H := H1) nlq
      -- other
      refine ⟨_, rfl, dr, cl, 4, q, rfl, t.D.same (sL _), by omega, by decide, by decide, fun r4 H4 r40 r41 D4 k4 => ?_⟩
      have fr4 : Fr dr H1 H4 := (Fr.sm (sL _)).trans (Fr.of k4)
      refine ⟨_, _, rfl, rfl, _, rfl, ?_⟩
      refine ite2 (fun _ => ?_) (fun _ => ?_)
      · refine ⟨_, rfl, ?_⟩
        have o0 := b0
        have D2 := D4
        have k2 := fr4
        obtain ⟨on, rfl⟩ := Int.eq_ofNat_of_zero_le o0
        have fr2 : Fr dr H1 H4 := k2
        have hf2 := fr2 _ _ t.hf fd
        refine ⟨_, rfl, .inl ⟨rfl, _, SqL.of hf2⟩, _, rfl, dr, cl, 2, _, rfl, D2, by omega, by decide, by decide, fun z H3 z0 z1 D3 k3 => ?_⟩
        have fr3 : Fr dr H1 H3 := fr2.trans (Fr.of k3)
        have hf3 := fr3 _ _ t.hf fd
        refine ⟨rfl, _, rfl, ?_⟩
        refine ite2 (fun _ => ?_) (fun _ => ?_)
        · refine ⟨_, rfl, _, rfl, by show 2 ≤ sizeLine; rw [sizeLine_eq]; decide, fun p np => ⟨fl, _, _, rfl, rfl, same_upd np _ _ _ hf3, lenb, ?_⟩⟩
          have es : V.int (1 + (i : Int)) = iv (i + 1) := by show V.int _ = V.int _; congr 1; omega
          rw [es]
          exact ⟨_, _, _, _, _, _, q + 3, rfl, by omega, t.step nf fd fc (D3.mono (by omega)) fr3 np (e := (on, i + 1)) (by unfold mx; simp only; omega) (by show on ≠ i + 1; omega)⟩
        · refine ⟨_, rfl, _, rfl, by show 2 ≤ sizeLine; rw [sizeLine_eq]; decide, fun p np => ⟨fl, _, _, rfl, rfl, same_upd np _ _ _ hf3, lenb, ?_⟩⟩
          have es : V.int (1 + (i : Int)) = iv (i + 1) := by show V.int _ = V.int _; congr 1; omega
          rw [es]
          exact ⟨_, _, _, _, _, _, q + 3, rfl, by omega, t.step nf fd fc (D3.mono (by omega)) fr3 np (e := (i + 1, on)) (by unfold mx; simp only; omega) (by show i + 1 ≠ on; omega)⟩
      · refine ⟨_, rfl, _, rfl, dr, cl, _, _, rfl, D4, by omega, by omega, by omega, fun o H2 o0 o1 D2 k2' => ?_⟩
        have k2 : Fr dr H1 H2 := fr4.trans (Fr.of k2')
        obtain ⟨on, rfl⟩ := Int.eq_ofNat_of_zero_le o0
        have fr2 : Fr dr H1 H2 := k2
        have hf2 := fr2 _ _ t.hf fd
        refine ⟨_, rfl, .inl ⟨rfl, _, SqL.of hf2⟩, _, rfl, dr, cl, 2, _, rfl, D2, by omega, by decide, by decide, fun z H3 z0 z1 D3 k3 => ?_⟩
        have fr3 : Fr dr H1 H3 := fr2.trans (Fr.of k3)
        have hf3 := fr3 _ _ t.hf fd
        refine ⟨rfl, _, rfl, ?_⟩
        refine ite2 (fun _ => ?_) (fun _ => ?_)
        · refine ⟨_, rfl, _, rfl, by show 2 ≤ sizeLine; rw [sizeLine_eq]; decide, fun p np => ⟨fl, _, _, rfl, rfl, same_upd np _ _ _ hf3, lenb, ?_⟩⟩
          have es : V.int (1 + (i : Int)) = iv (i + 1) := by show V.int _ = V.int _; congr 1; omega
          rw [es]
          exact ⟨_, _, _, _, _, _, q + 3, rfl, by omega, t.step nf fd fc (D3.mono (by omega)) fr3 np (e := (on, i + 1)) (by unfold mx; simp only; omega) (by show on ≠ i + 1; omega)⟩
        · refine ⟨_, rfl, _, rfl, by show 2 ≤ sizeLine; rw [sizeLine_eq]; decide, fun p np => ⟨fl, _, _, rfl, rfl, same_upd np _ _ _ hf3, lenb, ?_⟩⟩
          have es : V.int (1 + (i : Int)) = iv (i + 1) := by show V.int _ = V.int _; congr 1; omega
          rw [es]
          exact ⟨_, _, _, _, _, _, q + 3, rfl, by omega, t.step nf fd fc (D3.mono (by omega)) fr3 np (e := (i + 1, on)) (by unfold mx; simp only; omega) (by show i + 1 ≠ on; omega)⟩
    · rintro σ H1 ⟨ps, tr, x5, x6, x7, x8, q, rfl, hq, t⟩
      have hcl : ((1 + c0 - 1).toNat : Int) = c0 := by omega
      have lps : (ps.map V.ref).length = ps.length := List.length_map _
      have lpt : ps.length = tr.length := t.P.1
      have ltr : tr.length = (1 + c0 - 1).toNat := t.len
      refine ⟨_, rfl, _, rfl, fl, _, rfl, .inl (SqL.of t.hf), _, _, rfl, rfl, dr, cl, _, q, rfl, t.D, by omega, by omega, by omega, fun z H2 z0 z1 D2 k2 => ?_⟩
      obtain ⟨zn, rfl⟩ := Int.eq_ofNat_of_zero_le z0
      obtain ⟨kv1, hd1⟩ := t.D.some1
      have hf2 := Fr.of k2 _ _ t.hf fd
      have P2 := t.P.fr (Fr.of k2) hd1
      have zl : zn ≤ ps.length := by omega
      refine ⟨_, rfl, _, rfl, _, rfl, fl, _, rfl, SqL.of hf2, fun p np => ?_⟩
      have s3 := same_upd np (.lst (cutV (ps.map V.ref) (some (zn : Int)) none))
      refine ⟨_, rfl, _, rfl, _, rfl, fl, _, rfl, SqL.of (s3 _ _ hf2), fun p2 np2 => ?_⟩
      have s4 := same_upd np2 (.lst (cutV (ps.map V.ref) none (some (zn : Int))))
      have e1 : cutV (ps.map V.ref) (some (zn : Int)) none = (ps.drop zn).map V.ref := by
        unfold cutV
        rw [HT.sIx_nat, HT.sIx_none, Nat.min_eq_left (by omega), List.map_drop]
        exact List.take_of_length_le (by rw [List.length_drop]; exact Nat.le_refl _)
      have e2 : cutV (ps.map V.ref) none (some (zn : Int)) = (ps.take zn).map V.ref := by
        unfold cutV
        rw [HT.sIx_nat, HT.sIx_none, Nat.min_eq_left (by omega), List.drop_zero, Nat.sub_zero, List.map_take]
      refine ⟨p, p2, _, _, rfl, rfl, s4 _ _ upd_same, upd_same, by rw [e1, e2, List.length_map, List.length_map, List.length_drop, List.length_take, sizeLine_eq]; omega, fun p3 np3 => ?_⟩
      have s5 := same_upd np3 (.lst (cutV (ps.map V.ref) (some (zn : Int)) none ++ cutV (ps.map V.ref) none (some (zn : Int))))
      refine ⟨p3, _, rfl, .inl ⟨SqL.of upd_same, fun p4 np4 => ?_⟩⟩
      have s6 := ((s3.trans s4).trans s5).trans (same_upd np4 (.tup (cutV (ps.map V.ref) (some (zn : Int)) none ++ cutV (ps.map V.ref) none (some (zn : Int)))))
      have e3 : cutV (ps.map V.ref) (some (zn : Int)) none ++ cutV (ps.map V.ref) none (some (zn : Int)) = (ps.drop zn ++ ps.take zn).map V.ref := by rw [e1, e2, List.map_append]
      have hl2 : (tr.drop zn ++ tr.take zn).length = tr.length := by
        rw [List.length_append, List.length_drop, List.length_take]
        omega
      refine k p4 (ps.drop zn ++ ps.take zn) (tr.drop zn ++ tr.take zn) _ ((D2.same s6).mono (by omega)) ((t.fr.trans (Fr.of k2)).trans (Fr.sm s6)) ?_ ((P2.rot zn).same s6) (tree_rot t.ne (by rw [t.mxs, t.len]) zn) (by rw [hl2]; omega)
      rw [upd_same, e3]
end
end TR
namespace TR
open PySem PySem.Spec PyProof.Rows L2 L2.TT StX ClX
def spStand : Sp := fun vs H Q _ => ∃ (dr cl : Addr) (c : Nat) (n : Nat), vs = [.ref dr, iv c] ∧ DrawAt H dr cl n ∧ n ≤ 800000000 ∧ 2 ≤ c ∧ c ≤ 1000 ∧
  ∀ (x y : Nat) (p : Addr) (H' : Hp), x < c → y < c → x ≠ y → DrawAt H' dr cl (n + 2) → Fr dr H H' → H p = none → H' p = some (.tup [iv x, iv y]) → Q (.ref p) H'
end TR
namespace TR
open PySem PySem.Spec PyProof.Rows L2 L2.TT StX ClX
section
variable {P : Program} {w : World} {K : PySem.W.Frag} {mg : Str → Option Value} {base : Heap}
abbrev N_sc_par : List Str := ["draw", "count", "one", "two"]
theorem sc_par : FnScope N_sc_par ["draw", "count"] (defScope s_law_pair) := ⟨rfl, rfl, rfl, by decide +kernel, rfl, by decide +kernel, by decide +kernel⟩
theorem ok_par {f fn : Addr} {fd fdn : FuncData} (F : Fun K "_law_pair" "_law_pair" s_law_pair f fd) (N : Nm mg) (U : Use P w K mg base CX0 2 "_law_next" fn fdn ["draw", "bound"] spNext) : FnOk P w K mg base CX0 3 f fd ["draw", "count"] spStand := by
  refine F.ok sc_par (fun vs H Q E h => ?_) (fun cdv A outer s H vs Q E hr h => ?_)
  · obtain ⟨dr, cl, c, n, rfl, _⟩ := h
    rfl
  · obtain ⟨dr, cl, c, n, rfl, D, hn, hc0, hc1, k⟩ := h
    refine ⟨_, (pss_cons (ps_par (i := 2) (j := 3) (by rfl) sc_par.nd rfl rfl (by decide) rfl rfl (pa_cons (pe_use U hr (by rfl) (pa_cons (pv 0) (pa_cons (pv 1) pa_nil))) (pa_cons (pe_use U hr (by rfl) (pa_cons (pv 0) (pa_cons (pe_op op_sub (pv 1) pe_int) pa_nil))) pa_nil)) (by rfl))
        (pss_one (ps_ret (pe_tup (pa_cons (pv 2) (pa_cons (pe_op op_add (pv 3) (pe_callTy call_int1 (by rfl) N.int boot_int (pa_cons (pe_cmpR op_ge (pv 3) (pv 2) (nomark _)) pa_nil))) pa_nil)))))), ?_⟩
    obtain ⟨kvs0, hd0⟩ := D.some1
    refine ⟨_, rfl, _, rfl, dr, cl, c, n, rfl, D, by omega, by omega, by omega, fun x Ha x0 x1 Da ka => ?_⟩
    refine ⟨_, rfl, _, rfl, _, _, rfl, rfl, dr, cl, _, _, rfl, Da, by omega, by omega, by omega, fun y Hb y0 y1 Db kb => ⟨_, _, rfl, ?_⟩⟩
    have frb : Fr dr H Hb := (Fr.of ka).trans (Fr.of kb)
    obtain ⟨kvb, hdb⟩ := Db.some1
    refine ⟨_, rfl, _, rfl, _, rfl, _, rfl, _, _, rfl, rfl, .inr ⟨_, rfl, _, _, rfl, rfl, by show 2 ≤ sizeLine; rw [sizeLine_eq]; decide, fun p np => ?_⟩⟩
    have pd : p ≠ dr := fun z => by rw [z, hdb] at np; cases np
    obtain ⟨m, rfl⟩ := Int.eq_ofNat_of_zero_le x0
    obtain ⟨q, rfl⟩ := Int.eq_ofNat_of_zero_le y0
    by_cases hq : (m : Int) ≤ (q : Int)
    · refine k m (q + 1) p _ (by omega) (by omega) (by omega) (Db.same (same_upd np _)) (frb.trans (Fr.sm (same_upd np _))) (frb.free pd np) ?_
      rw [upd_same]
      simp [hq, iv]
    · refine k m q p _ (by omega) (by omega) (by omega) (Db.same (same_upd np _)) (frb.trans (Fr.sm (same_upd np _))) (frb.free pd np) ?_
      rw [upd_same]
      simp [hq, iv]
end
end TR
namespace L2.TT
open PySem PySem.Spec PyProof.Rows HT
end L2.TT
namespace L2.TT
open PySem PySem.Spec PyProof.Rows PySem.W StX
section
variable {X : Cx} {CX : CXT} {k : Nat} {f C : Addr} {fd : FuncData} {ps ks : List Str} {sp : Sp} {E : XK} {x : Str} {p pos : Pos} {e : Expr} {es : List Expr} {kws : List Keyword} {t tk : TA}
/-- f(k = v, ..), all by name -/
def tKW (m : Nat) (sp : Sp) (gV : List V → List V) (E : XK) (tk : TA) : TE := fun σ H Q => tk σ H fun zs H1 => zs.length = m ∧ sp (gV zs) H1 Q E
theorem pe_callKW0 {gg : List Value → List Value} {hV : List V → List V} (F : FnOk X.prog X.w X.K X.mg X.base CX k f fd ps sp) (hr : Room k X.A)
    (hb : ∀ (s : Shared) (ws : List Value), X.K.In s.heap → ws.length = ks.length → BindsTo s fd ⟨[], ks.zip ws⟩ (ps.zip (gg ws))) (hrel : ∀ {zs : List V} {ws : List Value}, zs.length = ks.length → Vals zs ws → Vals (hV zs) (gg ws))
    (hx : Passes CX X E) (hg : Gl X x) (hm : X.mg x = some (.ref f)) (hk : keepIn X.K (.ref f) = true) (hkw : PK X kws tk)
    (hall : (backToKw pos (keywordEach kws X.env)).all (·.1.isSome) = true := by rfl) (hks : (backToKw pos (keywordEach kws X.env)).filterMap (·.1) = ks := by rfl) (hdb : (x == ("__debug__" : Str)) = false := by decide)
    (hpl : ((backTo pos (starEach [] X.env)).any (·.1) || (backToKw pos (keywordEach kws X.env)).any (·.1.isNone)) = false := by rfl) :
    PE X (.Call (.Name x p) [] kws pos) (tKW ks.length sp hV E tk) := by
  refine ⟨fun pins s σ H Q I h => ?_⟩
  refine wpAny_Call_Name_kw (ld_glob I hg hm ?_ hdb)
  refine callWith_KW0 (h₀ := X.base) I.ok.mod.kin hk hall ?_ hpl
  refine thn (hkw.run pos pins s σ H _ I h) fun ws s2 ⟨zs, H2, I2, rz, l2, q2⟩ => ⟨I2.kIn, ?_⟩
  rw [hks]
  have lw : ws.length = ks.length := rz.length.symm.trans l2
  refine wpAny_call (codeAny_mono (F.run X.A X.stack s2 H2 ⟨[], ks.zip ws⟩ (gg ws) (hV zs) Q E hr I2.env0 (hb s2 ws I2.kIn lw) (hrel l2 rz) q2) fun r s' hq => ?_)
  cases r with
  | error er => exact hx pins σ H2 s2 er s' I2 hq
  | ok fl =>
    cases fl with
    | ret u => exact I2.after hq
    | next => exact False.elim hq
    | brk => exact False.elim hq
    | cont => exact False.elim hq
/-- f(e, ..), f a def that asks that no repr is under way -/
theorem pe_callG (F : FnG X.prog X.w X.K X.mg X.base CX k f fd ps sp) (hG : NoGuard X.A) (hr : Room k X.A) (hg : Gl X x) (hm : X.mg x = some (.ref f)) (hk : keepIn X.K (.ref f) = true) (hb : Binds X.K fd ps []) (hx : Passes CX X E) (ha : PA X (e :: es) t)
    (hdb : (x == ("__debug__" : Str)) = false := by decide) (he : starEach (e :: es) X.env = (false, eval e X.env) :: starEach es X.env := by rfl) (hpl : (backTo pos (starEach es X.env)).any (·.1) = false := by rfl) :
    PE X (.Call (.Name x p) (e :: es) [] pos) (fun σ H Q => t σ H fun vs H1 => sp vs H1 Q E) := by
  refine ⟨fun pins s σ H Q I h => ?_⟩
  refine wpAny_Call_Name_kw (ld_glob I hg hm ?_ hdb)
  refine callWith_K (h₀ := X.base) I.ok.mod.kin hk (thn (ha.run pos pins s σ H _ I h) fun us s1 ⟨vs, H1, I1, r, q⟩ => ⟨I1.kIn, ?_⟩) he hpl
  have hl : (us ++ []).length = ps.length := by rw [List.append_nil, ← r.length]; exact F.len _ _ _ _ q
  have hb1 := hb s1 us I1.kIn hl
  rw [List.append_nil] at hb1
  refine wpAny_call (codeAny_mono (F.run X.A X.stack s1 H1 ⟨us, []⟩ us vs Q E hG hr I1.env0 hb1 r q) fun r s' hq => ?_)
  cases r with
  | error er => exact hx pins σ H1 s1 er s' I1 hq
  | ok fl =>
    cases fl with
    | ret u => exact I1.after hq
    | next => exact False.elim hq
    | brk => exact False.elim hq
    | cont => exact False.elim hq
end
theorem Fun.kb {K : PySem.W.Frag} {x qual : Str} {st : Stmt} {f : Addr} {fd : FuncData} {ps ks : List Str} {gg : List Value → List Value} (F : Fun K x qual st f fd)
    (h : ∀ (kV doc pm : Value) (an : Option Addr) (cdv ct : Value) (ws : List Value), ws.length = ks.length → bindArgs (PySem.W.fnOf x qual (defArgs st) (defBody st) (defScope st) .none kV doc pm an cdv ct) ⟨[], ks.zip ws⟩ = pure (ps.zip (gg ws))) :
    ∀ (s : Shared) (ws : List Value), K.In s.heap → ws.length = ks.length → BindsTo s fd ⟨[], ks.zip ws⟩ (ps.zip (gg ws)) := by
  obtain ⟨oc, od, kV, doc, pm, an, cdv, ct, osl, rfl, lk, hcd⟩ := F.ex
  exact fun s ws _ hl => .of_eq (h kV doc pm an cdv ct ws hl)
end L2.TT
namespace L2.TT
open PySem PySem.Spec PyProof.Rows PySem.W
end L2.TT
namespace TR
open PySem PySem.Spec PyProof.Rows L2 L2.TT StX ClX
abbrev di (n : Nat) : PyData := .int (n : Int)
theorem dpAll_ints {K : PySem.W.Frag} {H : Hp} : ∀ (l : List Nat), DpAll K H (l.map iv) (l.map di)
  | [] => .nil
  | _ :: l => .cons (.int _) (dpAll_ints l)
theorem canLay_ints : ∀ (l : List Nat), PyData.canLayAll0 (l.map di) = true
  | [] => rfl
  | a :: l => by
    show (PyData.canLay0 (di a) && PyData.canLayAll0 (l.map di)) = true
    rw [canLay_ints l]
    rfl
theorem depth_ints : ∀ (l : List Nat), PyData.depthAll (l.map di) = 0
  | [] => rfl
  | a :: l => by
    show max (PyData.depth (di a)) (PyData.depthAll (l.map di)) = 0
    rw [depth_ints l]
    rfl
theorem RailAt.fr {C dr : Addr} {H H' : Hp} {r : Addr} {tr : List E2} {kvs : List (Key × V)} (R : RailAt C H r tr) (k : Fr dr H H') (hd : H dr = some (.dK kvs)) : RailAt C H' r tr := by
  obtain ⟨T, few, dx, tt, na, A, L, ps, ts, h1, h2, h3, h4, h5, h6, h7, h8⟩ := R
  refine ⟨T, few, dx, tt, na, A, L, ps, ts, k _ _ h1 (ne_of h1 hd (by intro z; cases z)), k _ _ h2 (ne_of h2 hd (by intro z; cases z)), h3.fr k hd, k _ _ h4 (ne_of h4 hd (by intro z; cases z)), h5, fun v t h => k _ _ (h6 v t h) (ne_of (h6 v t h) hd (by intro z; cases z)), k _ _ h7 (ne_of h7 hd (by intro z; cases z)), k _ _ h8 (ne_of h8 hd (by intro z; cases z))⟩
def swp {α : Type} : List α → List α
  | [a, b] => [b, a]
  | l => l
theorem SW.rev {tr : List E2} {a b : Nat} {l : List Nat} (s : SW tr a b l) : SW tr b a l.reverse :=
  ⟨s.wk.rev, (List.reverse_perm l).nodup_iff.mpr s.nd, by rw [List.head?_reverse]; exact s.lt, by rw [List.getLast?_reverse]; exact s.hd⟩
theorem shaped_tup (l : List Nat) : SeqAt.shaped (.tuple (l.map di)) = true := by
  unfold SeqAt.shaped
  rw [Bool.and_eq_true]
  refine ⟨canLay_ints l, decide_eq_true ?_⟩
  show PyData.depthAll (l.map di) + 1 ≤ 64
  rw [depth_ints]
  decide
theorem sw_le {tr : List E2} (T : TreeL tr) {a b : Nat} {l : List Nat} (s : SW tr a b l) (ha : a ≤ tr.length) : ∀ z ∈ l, z ≤ tr.length := by
  have key : ∀ {l : List Nat} {a : Nat}, Wk tr (a :: l) → a ≤ tr.length → ∀ z ∈ a :: l, z ≤ tr.length := by
    intro l
    induction l with
    | nil =>
      intro a _ h z hz
      rw [List.mem_singleton] at hz
      omega
    | cons c r ih =>
      intro a w h z hz
      rcases List.mem_cons.mp hz with rfl | hz
      · exact h
      · refine ih w.2 ?_ z hz
        exact (T.adj_le w.1).2
  cases l with
  | nil => cases s.hd
  | cons c r =>
    have e : c = a := Option.some.inj s.hd
    subst e
    exact key s.wk ha
theorem int_show {i : Int} (h1 : -1000 ≤ i) (h2 : i ≤ 1000) : (PyData.int i).showable = true ∧ (PyData.int i).leavesShort 13 = true ∧ (PyData.int i).weight ≤ 10 ∧ (PyData.int i).depth = 0 := by
  have hn : i.natAbs ≤ 1000 := by omega
  have hl : i.natAbs.log2 < 10 := by
    by_cases h0 : i.natAbs = 0
    · rw [h0]; decide
    · exact (Nat.log2_lt h0).mpr (by omega)
  refine ⟨?_, ?_, ?_, ?_⟩
  · simp only [PyData.showable, decide_eq_true_eq]
    omega
  · simp only [PyData.leavesShort, decide_eq_true_eq]
    exact PyData.shown_int_le (by omega)
  · simp only [PyData.weight]
    split <;> omega
  · simp only [PyData.depth]
structure Shw (l : List Nat) : Prop where
  sh : PyData.showableAll (l.map di) = true
  lv : PyData.leavesShortAll 13 (l.map di) = true
  wt : PyData.weightAll (l.map di) ≤ 11 * l.length
  dp : PyData.depthAll (l.map di) = 0
theorem shw_of : ∀ {l : List Nat}, (∀ z ∈ l, z ≤ 999) → Shw l
  | [], _ => ⟨rfl, rfl, Nat.le_refl _, rfl⟩
  | a :: l, h => by
    have ih := shw_of (l := l) fun z hz => h z (List.mem_cons_of_mem _ hz)
    have ha := h a (by simp)
    obtain ⟨i1, i2, i3, i4⟩ := int_show (i := (a : Int)) (by omega) (by omega)
    refine ⟨?_, ?_, ?_, ?_⟩
    · show (PyData.showable (di a) && PyData.showableAll (l.map di)) = true
      rw [ih.sh, i1]
      rfl
    · show (PyData.leavesShort 13 (di a) && PyData.leavesShortAll 13 (l.map di)) = true
      rw [ih.lv, i2]
      rfl
    · show PyData.weight (di a) + 1 + PyData.weightAll (l.map di) ≤ 11 * (l.length + 1)
      have := ih.wt
      have i3' : PyData.weight (di a) ≤ 10 := i3
      omega
    · show max (PyData.depth (di a)) (PyData.depthAll (l.map di)) = 0
      rw [ih.dp, i4]
      rfl
section
variable {tr : List E2}
theorem sw_climb (T : TreeL tr) {a b : Nat} : ∀ (n x y : Nat) (F B : List Nat), dep tr x + dep tr y = n → Clb tr a b x y F B → ∃ l, SW tr a b l ∧ l.length ≤ F.length + B.length + n + 1 := by
  intro n
  induction n using Nat.strongRecOn with
  | ind n ih =>
    intro x y F B e c
    by_cases h : x = y
    · subst h
      refine ⟨_, c.done, ?_⟩
      simp
      omega
    · by_cases h2 : dep tr y < dep tr x
      · obtain ⟨h3, h4, c2⟩ := c.up1 T h h2
        have d := dep_succ T h3
        obtain ⟨l, s, hl⟩ := ih (dep tr (par tr x) + dep tr y) (by omega) _ _ _ _ rfl c2
        refine ⟨l, s, ?_⟩
        rw [List.length_append] at hl
        have : [x].length = 1 := rfl
        omega
      · obtain ⟨h3, h4, c2⟩ := c.up2 T h h2
        have d := dep_succ T h3
        obtain ⟨l, s, hl⟩ := ih (dep tr x + dep tr (par tr y)) (by omega) _ _ _ _ rfl c2
        refine ⟨l, s, ?_⟩
        rw [List.length_append] at hl
        have : [y].length = 1 := rfl
        omega
theorem sw_ex (T : TreeL tr) {a b : Nat} (ha : a ≤ tr.length) (hb : b ≤ tr.length) : ∃ l, SW tr a b l ∧ l.length ≤ dep tr a + dep tr b + 1 := by
  obtain ⟨l, s, h⟩ := sw_climb T _ a b [] [] rfl (Clb.start ha hb)
  refine ⟨l, s, ?_⟩
  simp at h
  omega
theorem wk_pre : ∀ {l r : List Nat}, Wk tr (l ++ r) → Wk tr l
  | [], _, _ => trivial
  | [_], _, _ => trivial
  | a :: b :: l, r, h => ⟨h.1, wk_pre (l := b :: l) (r := r) h.2⟩
theorem wk_adj : ∀ {l : List Nat} {x g : Nat}, Wk tr (l ++ [x] ++ [g]) → Adj tr x g
  | [], _, _, h => h.1
  | [a], x, g, h => wk_adj (l := []) h.2
  | a :: b :: l, x, g, h => wk_adj (l := b :: l) h.2
theorem SW.cut {s g : Nat} {l : List Nat} (w : SW tr s g (l ++ [g])) (h : l ≠ []) : ∃ x, SW tr s x l ∧ Adj tr x g ∧ g ∉ l := by
  obtain ⟨p, x, rfl⟩ : ∃ p x, l = p ++ [x] := ⟨l.dropLast, l.getLast h, (List.dropLast_concat_getLast h).symm⟩
  refine ⟨x, ⟨wk_pre w.wk, ?_, ?_, by simp⟩, wk_adj w.wk, fun m => ?_⟩
  · have := w.nd
    exact (List.nodup_append.mp this).1
  · have := w.hd
    rw [List.head?_append] at this
    cases e : (p ++ [x]).head? with
    | none => simp at e
    | some z =>
      rw [e] at this
      exact this
  · exact (List.nodup_append.mp w.nd).2.2 g m g (by simp) rfl
noncomputable def pl (tr : List E2) (s g : Nat) : List Nat := open Classical in if h : ∃ l, SW tr s g l then h.choose else []
theorem pl_eq (T : TreeL tr) {s g : Nat} {l : List Nat} (w : SW tr s g l) : pl tr s g = l := by
  unfold pl
  rw [dif_pos ⟨l, w⟩]
  exact SW.uniq T (Exists.choose_spec (⟨l, w⟩ : ∃ l, SW tr s g l)) w
theorem SW.pre {a b v : Nat} {p r : List Nat} (s : SW tr a b (p ++ v :: r)) : SW tr a v (p ++ [v]) := by
  have e : p ++ v :: r = (p ++ [v]) ++ r := by simp
  refine ⟨?_, ?_, ?_, by simp⟩
  · have h := s.wk
    rw [e] at h
    exact wk_pre h
  · have h := s.nd
    rw [e] at h
    exact (List.nodup_append.mp h).1
  · have h := s.hd
    cases p with
    | nil => exact h
    | cons c p => exact h
end
end TR
namespace TR
section
variable {tr : List E2}
theorem sw_lyr (T : TreeL tr) {s : Nat} : ∀ (k v : Nat) (l : List Nat), SW tr s v l → l.length = k + 1 → ∃ b, (v, b) ∈ lyr tr s none k
  | 0, v, l, w, hl => by
    obtain ⟨x, rfl⟩ := List.length_eq_one_iff.mp hl
    have e1 : x = s := Option.some.inj w.hd
    have e2 : x = v := Option.some.inj w.lt
    exact ⟨none, by rw [← e2, e1]; simp [lyr]⟩
  | k + 1, v, l, w, hl => by
    obtain ⟨l', rfl⟩ : ∃ l', l = l' ++ [v] := List.getLast?_eq_some_iff.mp w.lt
    rw [List.length_append, List.length_singleton] at hl
    have hne : l' ≠ [] := by
      rintro rfl
      simp at hl
    obtain ⟨x, w2, ha, hn⟩ := w.cut hne
    obtain ⟨b, hb⟩ := sw_lyr T k x l' w2 (by omega)
    obtain ⟨l2, w3, h3, h4⟩ := lyr_sw T k (x, b) hb
    have el : l2 = l' := SW.uniq T w3 w2
    subst el
    refine ⟨some x, ?_⟩
    show _ ∈ (lyr tr s none k).flatMap (nxt tr)
    rw [List.mem_flatMap]
    refine ⟨(x, b), hb, (mem_nxt T).mpr ⟨ha, ?_, rfl⟩⟩
    show some v ≠ b
    intro z
    obtain ⟨p, hp⟩ : ∃ p, l2 = p ++ [x] := List.getLast?_eq_some_iff.mp w2.lt
    by_cases c : p = []
    · subst c
      rw [hp] at h3
      have hk : k = 0 := by simp at h3; omega
      subst hk
      have e : (x, b) = (s, none) := by simpa [lyr] using hb
      have := congrArg Prod.snd e
      rw [← z] at this
      cases this
    · have q := h4 p hp c
      have q : p.getLast? = b := q
      rw [← z] at q
      refine hn ?_
      rw [hp]
      exact List.mem_append_left _ (List.mem_of_getLast? q)
theorem lyr_nil {s : Nat} {b : Option Nat} {m : Nat} (h : lyr tr s b m = []) : ∀ j, lyr tr s b (m + j) = []
  | 0 => h
  | j + 1 => by
    show (lyr tr s b (m + j)).flatMap (nxt tr) = []
    rw [lyr_nil h j]
    rfl
/-- e is at the end of a longest walk from s -/
def FarE (tr : List E2) (s e m : Nat) : Prop := (∃ l, SW tr s e l ∧ l.length = m) ∧ ∀ v l, SW tr s v l → l.length ≤ m
theorem far_last (T : TreeL tr) {s m : Nat} (h0 : lyr tr s none m = []) {e : Nat} {b : Option Nat} (he : (e, b) ∈ lyr tr s none (m - 1)) (hm : 0 < m) : FarE tr s e m := by
  obtain ⟨l, w, hl, _⟩ := lyr_sw T (m - 1) (e, b) he
  refine ⟨⟨l, w, by omega⟩, fun v l2 w2 => ?_⟩
  apply Classical.byContradiction
  intro c
  obtain ⟨b2, hb2⟩ := sw_lyr T (l2.length - 1) v l2 w2 (by omega)
  have := lyr_nil h0 (l2.length - 1 - m)
  rw [show m + (l2.length - 1 - m) = l2.length - 1 by omega] at this
  rw [this] at hb2
  cases hb2
theorem sw_len (T : TreeL tr) {a b : Nat} {l : List Nat} (w : SW tr a b l) (ha : a ≤ tr.length) : l.length ≤ tr.length + 1 := nd_len w.nd (sw_le T w ha)
end
end TR
namespace TR
section
variable {tr : List E2}
theorem lyr_step : ∀ (k s : Nat) (b : Option Nat), lyr tr s b (k + 1) = (nxt tr (s, b)).flatMap fun x => lyr tr x.1 x.2 k
  | 0, s, b => by
    show ([(s, b)] : List (Nat × Option Nat)).flatMap (nxt tr) = (nxt tr (s, b)).flatMap fun x => [(x.1, x.2)]
    simp
  | k + 1, s, b => by
    show (lyr tr s b (k + 1)).flatMap (nxt tr) = _
    rw [lyr_step k s b, List.flatMap_assoc]
    rfl
/-- the number of layers of a branch -/
noncomputable def ht (tr : List E2) (s : Nat) (b : Option Nat) : Nat := open Classical in if h : ∃ k, lyr tr s b k = [] then (h.elim fun k hk => ex_min (P := fun k => lyr tr s b k = []) k hk).choose else 0
theorem ht_spec {s : Nat} {b : Option Nat} (h : ∃ k, lyr tr s b k = []) : lyr tr s b (ht tr s b) = [] ∧ ∀ j, j < ht tr s b → lyr tr s b j ≠ [] := by
  unfold ht
  rw [dif_pos h]
  exact (h.elim fun k hk => ex_min (P := fun k => lyr tr s b k = []) k hk).choose_spec
theorem lyr_end (T : TreeL tr) {s : Nat} {b : Option Nat} (hs : s ≤ tr.length) : lyr tr s b (tr.length + 1) = [] := by
  refine Classical.byContradiction fun h => ?_
  obtain ⟨x, hx⟩ := List.exists_mem_of_ne_nil _ h
  obtain ⟨l, w, e, _⟩ := lyr_sw T _ x hx
  have := sw_len T w hs
  omega
theorem ht_of (T : TreeL tr) {s : Nat} {b : Option Nat} (hs : s ≤ tr.length) : lyr tr s b (ht tr s b) = [] ∧ ∀ j, j < ht tr s b → lyr tr s b j ≠ [] := ht_spec ⟨_, lyr_end T hs⟩
theorem ht_eq {s : Nat} {b : Option Nat} {m : Nat} (h : lyr tr s b m = []) (k : ∀ j, j < m → lyr tr s b j ≠ []) : ht tr s b = m := by
  obtain ⟨h1, h2⟩ := ht_spec ⟨m, h⟩
  rcases Nat.lt_trichotomy (ht tr s b) m with c | c | c
  · exact absurd h1 (k _ c)
  · exact c
  · exact absurd h (h2 _ c)
theorem ht_pos (T : TreeL tr) {s : Nat} {b : Option Nat} (hs : s ≤ tr.length) : 1 ≤ ht tr s b := by
  obtain ⟨h1, _⟩ := ht_of T (b := b) hs
  refine Nat.pos_of_ne_zero fun z => ?_
  rw [z] at h1
  exact absurd h1 (by simp [lyr])
theorem ht_lt (T : TreeL tr) {s : Nat} {b : Option Nat} (hs : s ≤ tr.length) {m : Nat} (h : lyr tr s b m ≠ []) : m < ht tr s b := by
  refine Nat.lt_of_not_le fun z => h ?_
  have := lyr_nil (ht_of T (b := b) hs).1 (m - ht tr s b)
  rwa [show ht tr s b + (m - ht tr s b) = m by omega] at this
/-- the depth of a branch -/
noncomputable def dph (tr : List E2) (s b : Nat) : Nat := ht tr s (some b) - 1
theorem dph_child (T : TreeL tr) {s b w : Nat} (hs : s ≤ tr.length) (h : w ∈ nb tr s) (ne : w ≠ b) : dph tr w s + 1 ≤ dph tr s b := by
  have ha := (mem_nb T.ne).mp h
  have hw := (T.adj_le ha).2
  have p := ht_pos T (b := some s) hw
  have nn := (ht_of T (b := some s) hw).2 (ht tr w (some s) - 1) (by omega)
  have : lyr tr s (some b) (ht tr w (some s) - 1 + 1) ≠ [] := fun z => by
    rw [lyr_step, List.flatMap_eq_nil_iff] at z
    exact nn (z (w, some s) ((mem_nxt T).mpr ⟨ha, (fun q => ne (Option.some.inj q)), rfl⟩))
  have := ht_lt T hs this
  unfold dph
  omega
theorem dph_ex (T : TreeL tr) {s b : Nat} (hs : s ≤ tr.length) : dph tr s b = 0 ∨ ∃ w, w ∈ nb tr s ∧ w ≠ b ∧ dph tr s b = dph tr w s + 1 := by
  by_cases c : dph tr s b = 0
  · exact .inl c
  · right
    have c2 : 2 ≤ ht tr s (some b) := by unfold dph at c; omega
    have nn := (ht_of T (b := some b) hs).2 (ht tr s (some b) - 2 + 1) (by omega)
    rw [lyr_step] at nn
    have : ∃ x ∈ nxt tr (s, some b), lyr tr x.1 x.2 (ht tr s (some b) - 2) ≠ [] := Classical.byContradiction fun z => nn (List.flatMap_eq_nil_iff.mpr fun x hx => Classical.byContradiction fun q => z ⟨x, hx, q⟩)
    obtain ⟨⟨w, e⟩, hx, hn⟩ := this
    obtain ⟨h1, h2, h3⟩ := (mem_nxt T).mp hx
    have h3 : e = some s := h3
    subst h3
    have h2 : w ≠ b := fun q => h2 (by rw [q])
    have h1 : Adj tr s w := h1
    have hw : w ≤ tr.length := (T.adj_le h1).2
    have hn : lyr tr w (some s) (ht tr s (some b) - 2) ≠ [] := hn
    have l1 := ht_lt T (b := some s) hw hn
    have hm : w ∈ nb tr s := (mem_nb T.ne).mpr h1
    refine ⟨w, hm, h2, ?_⟩
    have l2 := dph_child T hs hm h2
    unfold dph at l2 ⊢
    omega
end
end TR
namespace TR
open PySem PySem.Spec PyProof.Rows L2 L2.TT StX ClX
/-- the lists of neighbours -/
structure Ard (K : PySem.W.Frag) (H : Hp) (a : Addr) (tr : List E2) : Prop where
  ex : ∃ ts : List Addr, SqL K H a (ts.map V.ref) ∧ ts.length = tr.length + 1 ∧ ∀ (v : Nat) (t : Addr), ts[v]? = some t → H t = some (.lst ((nb tr v).map iv))
theorem Ard.same {K : PySem.W.Frag} {H H' : Hp} {a : Addr} {tr : List E2} (h : Ard K H a tr) (s : Same H H') : Ard K H' a tr := by
  obtain ⟨ts, h1, h2, h3⟩ := h.ex
  exact ⟨ts, s.seq h1, h2, fun v t e => s _ _ (h3 v t e)⟩
theorem Ard.row {K : PySem.W.Frag} {H : Hp} {a : Addr} {tr : List E2} (h : Ard K H a tr) {v : Nat} (hv : v ≤ tr.length) : ∃ (xs : List V) (t : Addr), SqL K H a xs ∧ xs[v]? = some (.ref t) ∧ H t = some (.lst ((nb tr v).map iv)) := by
  obtain ⟨ts, h1, h2, h3⟩ := h.ex
  have lt : v < ts.length := by omega
  exact ⟨_, ts[v], h1, map_get (List.getElem?_eq_getElem lt), h3 v _ (List.getElem?_eq_getElem lt)⟩
theorem Ard.fr {K : PySem.W.Frag} {H H' : Hp} {a dr : Addr} {tr : List E2} {kvs : List (Key × V)} (h : Ard K H a tr) (k : Fr dr H H') (hd : H dr = some (.dK kvs)) : Ard K H' a tr := by
  obtain ⟨ts, h1, h2, h3⟩ := h.ex
  refine ⟨ts, ?_, h2, fun v t e => k _ _ (h3 v t e) (ne_of (h3 v t e) hd (by intro z; cases z))⟩
  rcases h1 with (h1 | ⟨ob, h1⟩) | h1
  · exact .inl (.inl (k _ _ h1 (ne_of h1 hd (by intro z; cases z))))
  · exact .inl (.inr ⟨ob, k _ _ h1 (ne_of h1 hd (by intro z; cases z))⟩)
  · exact .inr h1
end TR
namespace L2.TT
open PySem PySem.Spec PyProof.Rows
/-- what is asked of one argument, of two -/
def one (φ : V → Hp → Prop) : List V → Hp → Prop
  | [y], H => φ y H
  | _, _ => False
def two (φ : V → V → Hp → Prop) : List V → Hp → Prop
  | [y, z], H => φ y z H
  | _, _ => False
end L2.TT
namespace L2.TT
open PySem PySem.Spec PyProof.Rows
end L2.TT
namespace L2
open PySem PySem.Spec PyProof.Rows
/-- an error that has flown: its class, its dict, some fields -/
def exq (a : Addr) (cls : Value) (d : Option Addr) : HO := .ext fun h => ∃ (o : Obj) (vs : Array Value), h.get? a = some o ∧ o.cls = cls ∧ o.dict = d ∧ o.data = .fields vs
end L2
namespace L2.TT
open PySem PySem.Spec PyProof.Rows PySem.W
/-- an error that has flown, with its fields -/
def FlownAt (H : Hp) (a C : Addr) (fs : List (Str × V)) : Prop := ∃ d, H a = some (exq a (.ref C) (some d)) ∧ H d = some (.xd fs)
theorem FlownAt.mk {H : Hp} {a C d : Addr} {fs : List (Str × V)} (na : H a = none) (e : H d = some (.xd fs)) : FlownAt (upd H a (exq a (.ref C) (some d))) a C fs :=
  ⟨d, upd_same, by
    rw [upd_ne (fun z => by rw [z, na] at e; cases e)]
    exact e⟩
end L2.TT
namespace L2.TT
open PySem PySem.Spec PyProof.Rows PySem.W
end L2.TT
namespace TR
open PySem PySem.Spec PyProof.Rows L2 L2.TT StX ClX
section
variable {P : Program} {w : World} {K : PySem.W.Frag} {mg : Str → Option Value} {base : Heap}
theorem sc_dist : FnScope ["self", "one", "other"] ["self", "one", "other"] (defScope s_Railway_distance) := ⟨rfl, rfl, rfl, by decide +kernel, rfl, by decide +kernel, by decide +kernel⟩
def spDist (C : Addr) : Sp := fun vs H Q _ => ∃ (r : Addr) (tr : List E2) (a b : Nat), vs = [.ref r, iv a, iv b] ∧ RailAt C H r tr ∧ a ≤ tr.length ∧ b ≤ tr.length ∧
  ∀ (l : List Nat) (H' : Hp), SW tr a b l → Same H H' → Q (.int ((l.length : Int) - 1)) H'
theorem ok_dist {f fp C : Addr} {fd fdp : FuncData} (F : Fun K "distance" "Railway.distance" s_Railway_distance f fd) (N : Nm mg) (X : TxtR K mg C) (m : Meth K C "path" fp) (G : FnOk P w K mg base CX0 5 fp fdp ["self", "one", "other"] (spPath C)) (bp : Binds K fdp ["self", "one", "other"] []) :
    FnOk P w K mg base CX0 6 f fd ["self", "one", "other"] (spDist C) := by
  refine F.ok sc_dist (fun vs H Q E h => ?_) (fun cdv A outer s H vs Q E hr h => ?_)
  · obtain ⟨r, tr, a, b, rfl, _⟩ := h
    rfl
  · obtain ⟨r, tr, a, b, rfl, R, ha, hb, k⟩ := h
    refine ⟨_, pss_one (ps_ret (pe_op op_sub (pe_callB call_len_seq (by rfl) N.len PySem.boot_len (pa_cons (pe_meth (pv 0) X.cl m G hr bp .nil pass0 (pa_cons (pv 1) (pa_cons (pv 2) pa_nil))) pa_nil)) pe_int)), ?_⟩
    obtain ⟨T, few, dx, tt, na, Aa, L, ps, ts, h1, h2⟩ := id R
    refine ⟨_, rfl, r, dx, _, rfl, h1, flR_no (by decide +kernel) (by decide +kernel) (by decide +kernel) (by decide +kernel), _, rfl, _, rfl, r, tr, a, b, rfl, R, ha, hb, fun l p H' sw s1 np hp => ?_⟩
    refine ⟨p, _, rfl, .inr (SqT.of hp), _, _, rfl, rfl, ?_⟩
    have q := k l H' sw s1
    rw [List.length_map]
    exact q
end
end TR
namespace L2.TT
open PySem PySem.Spec PyProof.Rows PySem.W
end L2.TT
namespace TR
open PySem PySem.Spec PyProof.Rows L2 L2.TT StX ClX
theorem pg_tupK {X : Cx} {K : PySem.W.Frag} {es : List Expr} {k n : Nat} {pos : Pos} {t : TGs} (hK : X.K = K) (hc : X.calm = true) (ht : PGs X es t) (hn : (assignEach es X.env).length = n) (hst : (assignEach es X.env).findIdx? (·.1) = none := by rfl) : PG X (.Tuple es k pos) (gTup K n t) := by
  subst hK
  exact pg_tup hc ht hn hst
theorem pi_tupK {X : Cx} {K : PySem.W.Frag} {tg l : Expr} {tl : TE} (hK : X.K = K) (hl : PE X l tl) : PI X tg l (iTup K tl) := by
  subst hK
  exact pi_tup hl
def spNbr (C : Addr) : Sp := fun vs H Q _ => ∃ (r : Addr) (tr : List E2) (v : Nat), vs = [.ref r, iv v] ∧ RailAt C H r tr ∧ v ≤ tr.length ∧ ∀ t, H t = some (.tup ((nb tr v).map iv)) → Q (.ref t) H
section
variable {P : Program} {w : World} {K : PySem.W.Frag} {mg : Str → Option Value} {base : Heap}
theorem sc_nbr : FnScope ["self", "station"] ["self", "station"] (defScope s_Railway_neighbours) := ⟨rfl, rfl, rfl, by decide +kernel, rfl, by decide +kernel, by decide +kernel⟩
theorem ok_nbr {f fc C : Addr} {fd fdc : FuncData} (F : Fun K "neighbours" "Railway.neighbours" s_Railway_neighbours f fd) (X : TxtR K mg C) (U : Use P w K mg base CX0 4 "check_station" fc fdc ["railway", "station"] (spChkSt C)) : FnOk P w K mg base CX0 5 f fd ["self", "station"] (spNbr C) := by
  refine F.ok sc_nbr (fun vs H Q E h => ?_) (fun cdv A outer s H vs Q E hr h => ?_)
  · obtain ⟨r, tr, v, rfl, _⟩ := h
    rfl
  · obtain ⟨r, tr, v, rfl, R, hv, k⟩ := h
    refine ⟨_, pss_cons (ps_expr (pe_use U hr rfl (pa_cons (pv 0) (pa_cons (pv 1) pa_nil)))) (pss_one (ps_ret (pe_ix ix_list (pe_fld (pv 0) rfl) (pv 1) (fun _ _ => rfl)))), ?_⟩
    obtain ⟨T, few, dx, tt, na, Aa, L, ps, ts, h1, h2, h3, h4, h5, h6, h7, h8⟩ := id R
    obtain ⟨t, ht⟩ : ∃ t, ts[v]? = some t := ⟨_, List.getElem?_eq_getElem (by omega)⟩
    exact ⟨_, rfl, _, rfl, r, tr, v, rfl, R, hv, _, rfl, r, C, dx, _, _, rfl, h1, X.cl, X.nN, flR_n, _, rfl, na, _, _, _, rfl, rfl, SqL.of h4, atN (map_get ht), k t (h6 v t ht)⟩
end
end TR
namespace L2.TT
open PySem PySem.Spec PyProof.Rows PySem.W
end L2.TT
namespace TR
open PySem PySem.Spec PyProof.Rows L2 L2.TT StX ClX
section
variable {P : Program} {w : World} {K : PySem.W.Frag} {mg : Str → Option Value} {base : Heap}
/-- a def that is called by name too -/
structure UseK (P : Program) (w : World) (K : PySem.W.Frag) (mg : Str → Option Value) (base : Heap) (k : Nat) (x : Str) (f : Addr) (fd : FuncData) (ps ks : List Str) (gg : List Value → List Value) (sp : Sp) : Prop extends Use P w K mg base CX0 k x f fd ps sp where
  kb : ∀ (s : Shared) (ws : List Value), K.In s.heap → ws.length = ks.length → BindsTo s fd ⟨[], ks.zip ws⟩ (ps.zip (gg ws))
end
theorem passF {X : Cx} : Passes (CX X.prog X.w) X (fun _ _ _ => False) := fun _ _ _ _ _ _ _ c => by
  obtain ⟨_, _, _, _, _, _, _, _, _, _, _, _, h⟩ := c
  exact h.elim
def dpr (e : E2) : PyData := .tuple ([e.1, e.2].map di)
theorem dpAll_prs {K : PySem.W.Frag} {H : Hp} : ∀ {ps : List Addr} {l : List E2}, Prs H ps l → DpAll K H (ps.map V.ref) (l.map dpr)
  | [], [], _ => .nil
  | [], _ :: _, h => by cases h.1
  | _ :: _, [], h => by cases h.1
  | p :: ps, e :: l, h => by
    have h0 := h.2 0 p e rfl rfl
    exact .cons (.tup (SqT.of h0) (dpAll_ints [e.1, e.2])) (dpAll_prs ⟨Nat.succ.inj h.1, fun i q d a b => h.2 (i + 1) q d a b⟩)
structure ShwP (l : List E2) : Prop where
  cl : PyData.canLayAll0 (l.map dpr) = true
  sh : PyData.showableAll (l.map dpr) = true
  lv : PyData.leavesShortAll 13 (l.map dpr) = true
  wt : PyData.weightAll (l.map dpr) ≤ 40 * l.length
  dp : PyData.depthAll (l.map dpr) ≤ 1
theorem shwP_of : ∀ {l : List E2}, (∀ e ∈ l, e.1 ≤ 999 ∧ e.2 ≤ 999) → ShwP l
  | [], _ => ⟨rfl, rfl, rfl, Nat.le_refl _, Nat.zero_le _⟩
  | e :: l, h => by
    have ih := shwP_of (l := l) fun z hz => h z (List.mem_cons_of_mem _ hz)
    obtain ⟨h1, h2⟩ := h e (by simp)
    have s := shw_of (l := [e.1, e.2]) fun z hz => by
      simp only [List.mem_cons, List.not_mem_nil, or_false] at hz
      omega
    refine ⟨?_, ?_, ?_, ?_, ?_⟩
    · show (PyData.canLayAll0 ([e.1, e.2].map di) && PyData.canLayAll0 (l.map dpr)) = true
      rw [canLay_ints, ih.cl]
      rfl
    · show (PyData.showableAll ([e.1, e.2].map di) && PyData.showableAll (l.map dpr)) = true
      rw [s.sh, ih.sh]
      rfl
    · show (PyData.leavesShortAll 13 ([e.1, e.2].map di) && PyData.leavesShortAll 13 (l.map dpr)) = true
      rw [s.lv, ih.lv]
      rfl
    · show PyData.weightAll ([e.1, e.2].map di) + 1 + PyData.weightAll (l.map dpr) ≤ 40 * (l.length + 1)
      have := ih.wt
      have := s.wt
      have : [e.1, e.2].length = 2 := rfl
      omega
    · show max (PyData.depthAll ([e.1, e.2].map di) + 1) (PyData.depthAll (l.map dpr)) ≤ 1
      rw [s.dp]
      have := ih.dp
      omega
def rv3 {α : Type} : List α → List α
  | [a, b, c] => [c, b, a]
  | l => l
theorem rv3_vals {zs : List V} {ws : List Value} (hl : zs.length = 3) (r : Vals zs ws) : Vals (rv3 zs) (rv3 ws) := by
  cases r with
  | nil => cases hl
  | cons r1 r =>
    cases r with
    | nil => cases hl
    | cons r2 r =>
      cases r with
      | nil => cases hl
      | cons r3 r =>
        cases r with
        | nil => exact .cons r3 (.cons r2 (.cons r1 .nil))
        | cons r4 r => exact absurd hl (by simp)
theorem SW.take {tr : List E2} {a b x m : Nat} {l : List Nat} (s : SW tr a b l) (h : l[m]? = some x) : SW tr a x (l.take (m + 1)) := by
  have hm := (List.getElem?_eq_some_iff.mp h).1
  refine ⟨wk_pre (r := l.drop (m + 1)) (by rw [List.take_append_drop]; exact s.wk), s.nd.sublist (List.take_sublist _ _), ?_, ?_⟩
  · rw [List.head?_take, if_neg (by omega)]
    exact s.hd
  · rw [List.take_add_one, h]
    simp
theorem SW.drop {tr : List E2} {a b x k : Nat} {l : List Nat} (s : SW tr a b l) (h : l[k]? = some x) : SW tr x b (l.drop k) := by
  have hk := (List.getElem?_eq_some_iff.mp h)
  have e : l.drop k = x :: l.drop (k + 1) := by rw [List.drop_eq_getElem_cons hk.1, hk.2]
  rw [e]
  refine SW.part (l := l.take k) (a := a) ?_
  rw [← e, List.take_append_drop]
  exact s
theorem sw_two {tr : List E2} {a b : Nat} {l : List Nat} (s : SW tr a b l) (h : a ≠ b) : 2 ≤ l.length := by
  match l, s with
  | [], s => cases s.hd
  | [x], s =>
    have e1 : x = a := Option.some.inj s.hd
    have e2 : x = b := Option.some.inj s.lt
    exact absurd (e1.symm.trans e2) h
  | _ :: _ :: _, _ => simp
theorem sw_at0 {tr : List E2} {a b : Nat} {l : List Nat} (s : SW tr a b l) : l[0]? = some a := by
  rw [← List.head?_eq_getElem?]
  exact s.hd
theorem sw_atl {tr : List E2} {a b : Nat} {l : List Nat} (s : SW tr a b l) : l[l.length - 1]? = some b := by
  rw [← List.getLast?_eq_getElem?]
  exact s.lt
theorem sw_ne {tr : List E2} {a b x y i j : Nat} {l : List Nat} (s : SW tr a b l) (h1 : l[i]? = some x) (h2 : l[j]? = some y) (h : i ≠ j) : x ≠ y := by
  rintro rfl
  exact h ((idxOf_get s.nd h1).symm.trans (idxOf_get s.nd h2))
end TR
namespace TR
open PySem PySem.Spec PyProof.Rows L2 L2.TT StX ClX
theorem inlN {a b : Nat} : ((Sum.inl (a : Int) : Key) = Sum.inl (b : Int)) ↔ a = b := by
  constructor
  · intro h
    have := Sum.inl.inj h
    omega
  · rintro rfl
    rfl
/-- what a search from y has found: for each station the next one on the way to y -/
structure Bk (kvs : List (Key × V)) (tr : List E2) (y : Nat) (xs : List Nat) : Prop where
  len : kvs.length ≤ xs.length
  val : ∀ x ∈ xs, ∃ u l, valV kvs (Sum.inl (x : Int)) = some (iv u) ∧ SW tr x y l ∧ (∀ z ∈ l, z ∈ xs) ∧ (x ≠ y → ∃ l', l = x :: u :: l')
  non : ∀ x : Nat, x ∉ xs → valV kvs (Sum.inl (x : Int)) = none
theorem Bk.add {kvs : List (Key × V)} {tr : List E2} {y x u : Nat} {xs : List Nat} (k : Bk kvs tr y xs) (hx : x ∉ xs) (hu : u ∈ xs) (h : Adj tr x u) (hy : y ∈ xs) : Bk (putK kvs (Sum.inl (x : Int)) (iv u)) tr y (xs ++ [x]) := by
  refine ⟨?_, fun z hz => ?_, fun z hz => ?_⟩
  · rw [putK_new _ (k.non x hx), List.length_append, List.length_append]
    have := k.len
    show _ + 1 ≤ _ + 1
    omega
  · rcases mem_snoc.mp hz with hz | rfl
    · obtain ⟨u', l', h1, h2, h3, h4⟩ := k.val z hz
      have ne : z ≠ x := fun q => hx (q ▸ hz)
      exact ⟨u', l', by rw [valV_put, if_neg (fun q => ne (inlN.mp q))]; exact h1, h2, fun q hq => List.mem_append_left _ (h3 q hq), h4⟩
    · obtain ⟨_, l, _, s, h3, _⟩ := k.val u hu
      have hl : ∃ r, l = u :: r := by
        cases l with
        | nil => cases s.hd
        | cons a r => exact ⟨r, by rw [Option.some.inj s.hd]⟩
      obtain ⟨r, rfl⟩ := hl
      refine ⟨u, z :: u :: r, by rw [valV_put, if_pos rfl], ⟨⟨h, s.wk⟩, List.nodup_cons.mpr ⟨fun m => hx (h3 _ m), s.nd⟩, rfl, ?_⟩, fun q hq => ?_, fun _ => ⟨r, rfl⟩⟩
      · have := s.lt
        rw [List.getLast?_cons_cons]
        exact this
      · rcases List.mem_cons.mp hq with rfl | hq
        · simp
        · exact List.mem_append_left _ (h3 _ hq)
  · have h1 : z ∉ xs := fun q => hz (List.mem_append_left _ q)
    have h2 : z ≠ x := fun q => hz (by rw [q]; simp)
    rw [valV_put, if_neg (fun q => h2 (inlN.mp q))]
    exact k.non z h1
/-- the next station on the way -/
theorem Bk.next {kvs : List (Key × V)} {tr : List E2} (T : TreeL tr) {x y : Nat} {xs l : List Nat} (k : Bk kvs tr y xs) (s : SW tr x y l) (hl : ∀ z ∈ l, z ∈ xs) {i v : Nat} (hv : l[i]? = some v) (ne : v ≠ y) : ∃ u, valV kvs (Sum.inl (v : Int)) = some (iv u) ∧ l[i + 1]? = some u := by
  obtain ⟨u, l2, h1, h2, _, h4⟩ := k.val v (hl v (List.mem_of_getElem? hv))
  obtain ⟨r, e⟩ := h4 ne
  refine ⟨u, h1, ?_⟩
  have s2 := s.drop hv
  have e2 := SW.uniq T s2 h2
  rw [e] at e2
  have := congrArg (fun q => q[1]?) e2
  simp only [List.getElem?_drop] at this
  rw [this]
  rfl
end TR
namespace TR
open PySem PySem.Spec PyProof.Rows L2 L2.TT StX ClX
theorem Bf.popL {tr : List E2} {st sp : Nat} {xs ws : List Nat} (b : Bf tr st xs (ws ++ [sp])) : Bg tr st sp 0 xs ws :=
  ⟨b.st_, b.nd, b.le, fun q hq => b.sub q (List.mem_append_left _ hq), fun x hx hn ne => b.cl x hx (fun h => by rcases mem_snoc.mp h with h | h; exact hn h; exact ne h), b.sub sp (by simp), fun y hy => by rw [List.take_zero] at hy; cases hy⟩
def spBdy (K : PySem.W.Frag) : Sp := fun vs H Q _ => ∃ (a : Addr) (tr : List E2) (x y : Nat), vs = [.ref a, iv x, iv y] ∧ Ard K H a tr ∧ TreeL tr ∧ tr.length ≤ 999 ∧ x ≤ tr.length ∧ y ≤ tr.length ∧
  ∀ (p : Addr) (l : List Nat) (H' : Hp), Same H H' → H p = none → H' p = some (.lst (l.map iv)) → SW tr x y l → Q (.ref p) H'
section
variable {P : Program} {w : World} {K : PySem.W.Frag} {mg : Str → Option Value} {base : Heap}
abbrev N_sc_bdy : List Str := ["web", "one", "two", "before", "waiting", "here", "spot", "found"]
theorem sc_bdy : FnScope N_sc_bdy ["web", "one", "two"] (defScope s_law_body) := ⟨rfl, rfl, rfl, by decide +kernel, rfl, by decide +kernel, by decide +kernel⟩
theorem ok_bdy {f : Addr} {fd : FuncData} (F : Fun K "_law_body" "_law_body" s_law_body f fd) : FnOk P w K mg base CX0 1 f fd ["web", "one", "two"] (spBdy K) := by
  refine F.ok sc_bdy (fun vs H Q E h => ?_) (fun cdv A outer s H vs Q E hr h => ?_)
  · obtain ⟨a, tr, x, y, rfl, _⟩ := h
    rfl
  · obtain ⟨a, tr, x, y, rfl, hA, T, hl, hx, hy, k⟩ := h
    have hu := hu_of hr
    have hu64 : (A.deeper (envOfC "_law_body" (defScope s_law_body) s.heap.objs.size f cdv)).units + 64 < cLine := hr.units
    refine ⟨_, (pss_cons (ps_par (i := 3) (j := 4) (by rfl) sc_bdy.nd rfl rfl (by decide) rfl rfl (pa_cons (pe_disp (pps_cons (pv 1) (pv 1) pps_nil) (by rfl) (by rfl) (fun z => by cases z) (by decide)) (pa_cons (pe_lst (pa_cons (pv 1) pa_nil)) pa_nil)) (by rfl))
        (pss_cons (ps_while PassesOwn.never (pt_cmp (pc_dnotin (hu_of hr) (pv 2) (pv 3)))
          (pss_cons (ps_set (i := 5) sc_bdy.nd rfl (.inl rfl) (pe_bm0 PySem.F.plainAttrs_list PySem.F.slot_list_pop PySem.F.type_list_pop mt_pop (pv 4)))
          (pss_one (ps_for PassesOwn.never rfl (pi_list (pe_ix ix_list (pv 0) (pv 5) (fun _ _ => rfl))) (pg_name (i := 6) sc_bdy.nd rfl (.inl rfl))
            (pss_one (ps_if (pt_cmp (pc_dnotin (hu_of hr) (pv 6) (pv 3))) (pss_cons (ps_dput (hu_of hr) (pv 3) (pv 6) (pv 5) rfl)
              (pss_one (ps_expr (pe_bm PySem.F.plainAttrs_list PySem.F.slot_list_append PySem.F.type_list_append mt_append (pv 4) (pa_cons (pv 6) pa_nil))))) pss_nil))))))
        (pss_cons (ps_set (i := 7) sc_bdy.nd rfl (.inl rfl) (pe_lst (pa_cons (pv 2) pa_nil)))
        (pss_cons (ps_while PassesOwn.never (pt_cmpR op_ne (pe_ix ix_list (pv 7) (pe_un un_neg pe_int) (fun _ _ => rfl)) (pv 1) (nomark _))
          (pss_one (ps_expr (pe_bm PySem.F.plainAttrs_list PySem.F.slot_list_append PySem.F.type_list_append mt_append (pv 7) (pa_cons (pe_dget (hu_of hr) (pv 3) (pe_ix ix_list (pv 7) (pe_un un_neg pe_int) (fun _ _ => rfl)) (fun _ _ => rfl)) pa_nil)))))
        (pss_one (ps_ret (pe_revL (pv 7)))))))), ?_⟩
    have one : (1 : Nat) ≤ sizeLine := by rw [sizeLine_eq]; decide
    refine fun p np => ⟨_, rfl, _, rfl, ⟨upd_same, [(Sum.inl (x : Int), iv x)], rfl, by show 1 ≤ 15; decide, ?_⟩⟩
    have e0 : mergeK [] [((Sum.inl (x : Int) : Key), iv x)] = [(Sum.inl (x : Int), iv x)] := rfl
    refine ⟨_, rfl, one, fun fr nfr => ⟨_, _, rfl, ?_⟩⟩
    have s1 : Same H (upd (upd H p (.dK [])) p (.dK (mergeK [] [((Sum.inl (x : Int) : Key), iv x)]))) := same_old (same_upd np _) np _
    have s0 := s1.trans (same_upd nfr (.lst [iv x]))
    have nfrH := s1.free nfr
    have fp : fr ≠ p := fun z => by rw [z, upd_same] at nfr; cases nfr
    have hp0 : upd (upd (upd H p (.dK [])) p (.dK (mergeK [] [((Sum.inl (x : Int) : Key), iv x)]))) fr (.lst [iv x]) p = some (.dK [(Sum.inl (x : Int), iv x)]) := by rw [upd_ne fp.symm, upd_same, e0]
    have hf0 : upd (upd (upd H p (.dK [])) p (.dK (mergeK [] [((Sum.inl (x : Int) : Key), iv x)]))) fr (.lst [iv x]) fr = some (.lst ([x].map iv)) := by rw [upd_same]; rfl
    generalize upd (upd (upd H p (.dK [])) p (.dK (mergeK [] [((Sum.inl (x : Int) : Key), iv x)]))) fr (.lst [iv x]) = H0 at s0 hp0 hf0
    have bk0 : Bk [(Sum.inl (x : Int), iv x)] tr x [x] := by
      refine ⟨Nat.le_refl _, fun z hz => ?_, fun z hz => ?_⟩
      · rw [List.mem_singleton] at hz
        subst hz
        exact ⟨z, [z], valV_pos rfl, SW.one z, fun q hq => hq, fun ne => absurd rfl ne⟩
      · have ne : z ≠ x := fun q => hz (by rw [q]; simp)
        rw [valV_neg (fun q => ne (inlN.mp q.symm))]
        rfl
    clear e0 s1 nfr
    refine ⟨fun m σ H' => ∃ (kvs : List (Key × V)) (xs qs : List Nat) (x5 x6 x7 : Option V), m = 2 * (tr.length + 1 - xs.length) + qs.length ∧ σ = [some (.ref a), some (iv x), some (iv y), some (.ref p), some (.ref fr), x5, x6, x7] ∧ Same H H' ∧ H' p = some (.dK kvs) ∧ Bk kvs tr x xs ∧ H' fr = some (.lst (qs.map iv)) ∧ Bf tr x xs qs ∧ qs.length ≤ xs.length,
      ⟨_, _, [x], [x], _, _, _, rfl, rfl, s0, hp0, bk0, hf0, Bf.start hx, Nat.le_refl _⟩, ?_⟩
    clear s0 hp0 bk0 hf0 H0
    rintro m σ H1 ⟨kvs, xs, qs, x5, x6, x7, rfl, rfl, s1, hp1, bk, hf1, bf, qx⟩
    refine ⟨_, rfl, _, rfl, p, _, rfl, DGet.k (k := Sum.inl (y : Int)) hp1, _, rfl, ?_⟩
    by_cases cx : y ∈ xs
    · -- the way back
      obtain ⟨u, l, v1, sw, hlx, _⟩ := bk.val y cx
      rw [v1]
      refine iteF ?_
      refine ⟨_, rfl, one, fun fd nfd => ?_⟩
      have ll := sw_len T sw hy
      have s2 := s1.trans (same_upd nfd (.lst [iv y]))
      have hp2 := same_upd nfd (.lst [iv y]) _ _ hp1
      have nfdH := s1.free nfd
      have pfd : p ≠ fd := ne_of_none hp1 nfd
      have hd0 := sw_at0 sw
      have t0 : l.take 1 = [y] := by
        cases l with
        | nil => cases hd0
        | cons z r => cases hd0; rfl
      have hf2 : upd H1 fd (.lst [iv y]) fd = some (.lst ((l.take (0 + 1)).map iv)) := by rw [upd_same, t0]; rfl
      generalize upd H1 fd (.lst [iv y]) = H2 at s2 hp2 hf2
      refine ⟨fun m σ H' => ∃ (i v : Nat), m = l.length - i ∧ σ = [some (.ref a), some (iv x), some (iv y), some (.ref p), some (.ref fr), x5, x6, some (.ref fd)] ∧ Same H H' ∧ H' p = some (.dK kvs) ∧ l[i]? = some v ∧ H' fd = some (.lst ((l.take (i + 1)).map iv)),
        ⟨_, 0, y, rfl, rfl, s2, hp2, hd0, hf2⟩, ?_⟩
      rintro m σ H3 ⟨i, v, rfl, rfl, s3, hp3, hv, hf3⟩
      have il : i < l.length := (List.getElem?_eq_some_iff.mp hv).1
      have lastv : atI ((l.take (i + 1)).map iv) (-1) = some (iv v) := by
        rw [take_snoc hv]
        exact at_last
      refine ⟨_, rfl, _, rfl, fd, _, _, _, rfl, rfl, SqL.of hf3, lastv, _, rfl, rfl, _, rfl, ?_⟩
      by_cases cy : v = x
      · rw [show (!decide (iv v = iv x)) = false from by simp [cy]]
        refine iteF ?_
        have ei : i = l.length - 1 := Classical.byContradiction fun z => sw_ne sw hv (sw_atl sw) z cy
        rw [List.take_of_length_le (by omega)] at hf3
        refine ⟨_, rfl, fd, _, rfl, SqL.of hf3, fun q nq => ?_⟩
        refine k q l.reverse _ (s3.trans (same_upd nq _)) (s3.free nq) ?_ sw.rev
        rw [upd_same, List.map_reverse]
      · rw [show (!decide (iv v = iv x)) = true from by
          rw [decide_eq_false (fun z => cy (iv_inj.mp z))]
          rfl]
        refine iteT ?_
        refine ⟨fun σ' H' => ∃ (i' v' : Nat), l.length - i' < l.length - i ∧ σ' = [some (.ref a), some (iv x), some (iv y), some (.ref p), some (.ref fr), x5, x6, some (.ref fd)] ∧ Same H H' ∧ H' p = some (.dK kvs) ∧ l[i']? = some v' ∧ H' fd = some (.lst ((l.take (i' + 1)).map iv)),
          fun σ' H' ⟨i', v', lt, r⟩ => ⟨_, lt, i', v', rfl, r⟩, ?_⟩
        obtain ⟨u', g1, g2⟩ := bk.next T sw hlx hv cy
        have g4 : DGet H3 p (kV (Sum.inl (v : Int))) (some (iv u')) := by rw [← g1]; exact DGet.k hp3
        refine ⟨_, rfl, .inl ⟨rfl, _, SqL.of hf3⟩, _, rfl, _, rfl, _, rfl, fd, _, _, _, rfl, rfl, SqL.of hf3, lastv, p, _, rfl, g4, ?_⟩
        refine ⟨fd, _, _, rfl, rfl, hf3, by rw [List.length_map, List.length_take, sizeLine_eq]; omega, ?_⟩
        refine ⟨i + 1, u', by omega, rfl, same_old s3 nfdH _, by rw [upd_ne pfd]; exact hp3, g2, ?_⟩
        rw [upd_same, take_snoc g2, List.map_append]
        rfl
    · rw [bk.non y cx]
      refine iteT ?_
      refine ⟨fun σ' H' => ∃ (kvs : List (Key × V)) (xs' qs' : List Nat) (x5 x6 x7 : Option V), 2 * (tr.length + 1 - xs'.length) + qs'.length < 2 * (tr.length + 1 - xs.length) + qs.length ∧ σ' = [some (.ref a), some (iv x), some (iv y), some (.ref p), some (.ref fr), x5, x6, x7] ∧ Same H H' ∧ H' p = some (.dK kvs) ∧ Bk kvs tr x xs' ∧ H' fr = some (.lst (qs'.map iv)) ∧ Bf tr x xs' qs' ∧ qs'.length ≤ xs'.length,
        fun σ' H' ⟨kvs, xs', qs', x5, x6, x7, lt, r⟩ => ⟨_, lt, kvs, xs', qs', x5, x6, x7, rfl, r⟩, ?_⟩
      have qne : qs ≠ [] := fun z => cx (by
        rw [z] at bf
        exact bf.all T y hy)
      obtain ⟨ws, sp, rfl⟩ : ∃ ws sp, qs = ws ++ [sp] := ⟨qs.dropLast, qs.getLast qne, (List.dropLast_concat_getLast qne).symm⟩
      have pf : fr ≠ p := ne_of hf1 hp1 (by intro z; cases z)
      have e1 : ((ws ++ [sp]).map iv).dropLast = ws.map iv := by rw [List.map_append]; exact List.dropLast_concat
      have e2 : ((ws ++ [sp]).map iv)[((ws ++ [sp]).map iv).length - 1]? = some (iv sp) := by
        rw [List.length_map, List.length_append, List.length_singleton, Nat.add_sub_cancel, List.map_append, List.getElem?_append_right (by rw [List.length_map]; exact Nat.le_refl _), List.length_map, Nat.sub_self]
        rfl
      refine ⟨_, rfl, .inl ⟨rfl, _, SqL.of hf1⟩, fr, _, _, rfl, rfl, hf1, e2, ?_⟩
      rw [e1]
      have s2 := same_old s1 nfrH (.lst (ws.map iv))
      have hp2 : upd H1 fr (.lst (ws.map iv)) p = some (.dK kvs) := by rw [upd_ne pf.symm]; exact hp1
      have hf2 := upd_same (H := H1) (a := fr) (o := .lst (ws.map iv))
      generalize upd H1 fr (.lst (ws.map iv)) = H2 at s2 hp2 hf2 ⊢
      clear s1 hp1 hf1 e1 e2 H1
      rw [List.length_append, List.length_singleton] at qx
      have bl := bf.len
      have bg := bf.popL
      have spl := bg.le sp bg.sp_
      obtain ⟨rs, t, r1, r2, r3⟩ := hA.row spl
      have tg := ne_of_none r3 nfrH
      have r3' := s2 _ _ r3
      refine ⟨_, rfl, _, rfl, a, _, _, _, rfl, rfl, s2.seq r1, atN r2, t, rfl, ⟨_, SqL.of r3'⟩, for_list (K := K) (a := t) (xs := (nb tr sp).map iv) (fun j σ H' => ∃ (kvs : List (Key × V)) (xs' gs : List Nat) (x6 : Option V), σ = [some (.ref a), some (iv x), some (iv y), some (.ref p), some (.ref fr), some (iv sp), x6, x7] ∧ Same H H' ∧ H' p = some (.dK kvs) ∧ Bk kvs tr x xs' ∧ H' fr = some (.lst (gs.map iv)) ∧ H' t = some (.lst ((nb tr sp).map iv)) ∧ t ≠ fr ∧ (xs'.length + ws.length = xs.length + gs.length ∧ xs.length ≤ xs'.length) ∧ Bg tr x sp j xs' gs)
        ⟨kvs, xs, ws, _, rfl, s2, hp2, bk, hf2, r3', tg, ⟨rfl, Nat.le_refl _⟩, bg⟩ (fun j σ H' _ ⟨_, _, _, _, _, _, _, _, _, h, _⟩ => SqL.of h) ?_ ?_⟩
      · rintro j w σ H4 hw ⟨kvs, xs', gs, x6, rfl, s4, hp4, bk4, hf4, ht4, _, lg, bg⟩
        obtain ⟨z, hz, rfl⟩ := map_got hw
        refine ⟨_, rfl, _, rfl, p, _, rfl, DGet.k (k := Sum.inl (z : Int)) hp4, _, rfl, ?_⟩
        by_cases cz : z ∈ xs'
        · obtain ⟨u, l, v1, _⟩ := bk4.val z cz
          rw [v1]
          refine iteF ?_
          exact ⟨kvs, xs', gs, _, rfl, s4, hp4, bk4, hf4, ht4, tg, lg, bg.skip hz cz⟩
        · rw [bk4.non z cz]
          refine iteT ?_
          have ha : Adj tr sp z := (mem_nb T.ne).mp (List.mem_of_getElem? hz)
          have bg2 := bg.add T hz cz
          have bl2 := bg2.len
          rw [List.length_append, List.length_singleton] at bl2
          have bkl := bk4.len
          refine ⟨_, rfl, _, rfl, _, rfl, p, _, rfl, DPut.k (k := Sum.inl (z : Int)) hp4 (by rw [sizeLine_eq]; omega), ?_⟩
          have bk5 := bk4.add cz bg.sp_ ha.sym bg.st_
          have s5 := same_old s4 np (.dK (putK kvs (Sum.inl (z : Int)) (iv sp)))
          have hp5 := upd_same (H := H4) (a := p) (o := .dK (putK kvs (Sum.inl (z : Int)) (iv sp)))
          have hf5 : upd H4 p (.dK (putK kvs (Sum.inl (z : Int)) (iv sp))) fr = some (.lst (gs.map iv)) := by rw [upd_ne pf]; exact hf4
          have ht5 : upd H4 p (.dK (putK kvs (Sum.inl (z : Int)) (iv sp))) t = some (.lst ((nb tr sp).map iv)) := by rw [upd_ne (ne_of ht4 hp4 (by intro z; cases z))]; exact ht4
          generalize upd H4 p (.dK (putK kvs (Sum.inl (z : Int)) (iv sp))) = H5 at s5 hp5 hf5 ht5
          refine ⟨_, rfl, .inl ⟨rfl, _, SqL.of hf5⟩, _, rfl, fr, _, _, rfl, rfl, hf5, by rw [List.length_map, sizeLine_eq]; omega, ?_⟩
          exact ⟨_, xs' ++ [z], gs ++ [z], _, rfl, same_old s5 nfrH _, by rw [upd_ne pf.symm]; exact hp5, bk5, by rw [upd_same, List.map_append]; rfl, by rw [upd_ne tg]; exact ht5, tg, by rw [List.length_append, List.length_append]; simp; omega, bg2⟩
      · rintro σ H4 ⟨kvs, xs', gs, x6, rfl, s4, hp4, bk4, hf4, ht4, _, lg, bg⟩
        rw [List.length_map] at bg
        have b2 := bg.back T
        have bl2 := b2.len
        refine ⟨kvs, xs', gs, _, _, _, ?_, rfl, s4, hp4, bk4, hf4, b2, by omega⟩
        rw [List.length_append, List.length_singleton]
        omega
end
end TR
namespace TR
/-- a move: whether the head makes it, the station that it goes to -/
abbrev Mv := Bool × Nat
def hd0 (l : List Nat) : Nat := l.headD 0
def lt0 (l : List Nat) : Nat := l.getLastD 0
def endM (l : List Nat) (e : Bool) : Nat := if e then hd0 l else lt0 l
def aft (l : List Nat) (m : Mv) : List Nat := if m.1 then m.2 :: l.dropLast else l.tail ++ [m.2]
def fre (tr : List E2) (l : List Nat) (e : Bool) : List Nat := (nb tr (endM l e)).filter fun w => decide (w ∉ l)
def poss (tr : List E2) (l : List Nat) : List Mv := (fre tr l true).map (fun w => (true, w)) ++ (fre tr l false).map (fun w => (false, w))
def oppM (l : List Nat) (e : Bool) : Mv := if e then (false, lt0 l) else (true, hd0 l)
/-- a move is possible -/
def canM (tr : List E2) (l : List Nat) (m : Mv) : Bool := decide (m.2 ∈ fre tr l m.1)
/-- the body of a standing -/
structure Bd (tr : List E2) (l : List Nat) : Prop where
  sw : SW tr (hd0 l) (lt0 l) l
  two : 2 ≤ l.length
  le : ∀ x ∈ l, x ≤ tr.length
section
variable {tr : List E2}
theorem hd0_of {l : List Nat} {a : Nat} (h : l.head? = some a) : hd0 l = a := by
  cases l with
  | nil => cases h
  | cons x r => exact Option.some.inj h
theorem lt0_of {l : List Nat} {a : Nat} (h : l.getLast? = some a) : lt0 l = a := by
  unfold lt0
  rw [List.getLastD_eq_getLast?, h]
  rfl
theorem sw_bd (T : TreeL tr) {a b : Nat} {l : List Nat} (s : SW tr a b l) (ha : a ≤ tr.length) (ne : a ≠ b) : Bd tr l ∧ hd0 l = a ∧ lt0 l = b := by
  have e1 := hd0_of s.hd
  have e2 := lt0_of s.lt
  refine ⟨⟨by rw [e1, e2]; exact s, sw_two s ne, sw_le T s ha⟩, e1, e2⟩
theorem Bd.ne {l : List Nat} (b : Bd tr l) : hd0 l ≠ lt0 l := by
  have h0 := sw_at0 b.sw
  have h1 := sw_atl b.sw
  have := b.two
  exact sw_ne b.sw h0 h1 (by omega)
theorem Bd.hle {l : List Nat} (b : Bd tr l) : hd0 l ≤ tr.length := b.le _ (List.mem_of_getElem? (sw_at0 b.sw))
theorem Bd.lle {l : List Nat} (b : Bd tr l) : lt0 l ≤ tr.length := b.le _ b.sw.mem
theorem hd0_rev {l : List Nat} : hd0 l.reverse = lt0 l := by
  unfold hd0 lt0
  rw [List.headD_eq_head?_getD, List.head?_reverse, List.getLastD_eq_getLast?]
theorem lt0_rev {l : List Nat} : lt0 l.reverse = hd0 l := by
  have := hd0_rev (l := l.reverse)
  rw [List.reverse_reverse] at this
  exact this.symm
theorem Bd.rev {l : List Nat} (b : Bd tr l) : Bd tr l.reverse :=
  ⟨by rw [hd0_rev, lt0_rev]; exact b.sw.rev, by rw [List.length_reverse]; exact b.two, fun x hx => b.le x (List.mem_reverse.mp hx)⟩
theorem Bd.eq (T : TreeL tr) {l m : List Nat} (b : Bd tr l) (c : Bd tr m) (h1 : hd0 l = hd0 m) (h2 : lt0 l = lt0 m) : l = m := by
  have s := c.sw
  rw [← h1, ← h2] at s
  exact SW.uniq T b.sw s
theorem mem_fre (T : TreeL tr) {l : List Nat} {e : Bool} {w : Nat} : w ∈ fre tr l e ↔ Adj tr (endM l e) w ∧ w ∉ l := by
  unfold fre
  rw [List.mem_filter, mem_nb T.ne, decide_eq_true_iff]
theorem mem_poss {l : List Nat} {m : Mv} : m ∈ poss tr l ↔ m.2 ∈ fre tr l m.1 := by
  obtain ⟨e, w⟩ := m
  unfold poss
  rw [List.mem_append, List.mem_map, List.mem_map]
  constructor
  · rintro (⟨x, hx, h⟩ | ⟨x, hx, h⟩)
    · cases h; exact hx
    · cases h; exact hx
  · intro h
    cases e with
    | true => exact .inl ⟨w, h, rfl⟩
    | false => exact .inr ⟨w, h, rfl⟩
/-- a body is a list with both ends -/
theorem bd_cons {l : List Nat} (h : 2 ≤ l.length) : ∃ a r, l = a :: r ∧ r ≠ [] := by
  match l, h with
  | a :: b :: r, _ => exact ⟨a, b :: r, rfl, by simp⟩
theorem bd_snoc {l : List Nat} (h : 2 ≤ l.length) : ∃ r b, l = r ++ [b] ∧ r ≠ [] := by
  have hne : l ≠ [] := fun z => by rw [z] at h; exact absurd h (by decide)
  refine ⟨l.dropLast, l.getLast hne, (List.dropLast_concat_getLast hne).symm, fun z => ?_⟩
  have := congrArg List.length z
  rw [List.length_dropLast, List.length_nil] at this
  omega
theorem lt0_snoc {r : List Nat} {b : Nat} : lt0 (r ++ [b]) = b := lt0_of (by simp)
theorem wk_init {r : List Nat} {b : Nat} (h : Wk tr (r ++ [b])) : Wk tr r := by
  have h2 := h.rev
  rw [List.reverse_append] at h2
  have h3 := (Wk.tail (l := r.reverse) h2).rev
  rw [List.reverse_reverse] at h3
  exact h3
theorem Bd.aft_head (T : TreeL tr) {l : List Nat} (b : Bd tr l) {w : Nat} (h : w ∈ fre tr l true) : Bd tr (w :: l.dropLast) ∧ hd0 (w :: l.dropLast) = w ∧ (w :: l.dropLast).length = l.length := by
  obtain ⟨ha, hn⟩ := (mem_fre T).mp h
  obtain ⟨r, z, e, hr⟩ := bd_snoc b.two
  have hd : (w :: l.dropLast).length = l.length := by
    rw [List.length_cons, List.length_dropLast]
    have := b.two
    omega
  subst e
  rw [List.dropLast_concat] at hd ⊢
  have ha : Adj tr (hd0 (r ++ [z])) w := ha
  obtain ⟨x, r', rfl⟩ := List.exists_cons_of_ne_nil hr
  have hx : hd0 (x :: r' ++ [z]) = x := rfl
  rw [hx] at ha
  have wk := wk_init b.sw.wk
  have nd := (List.nodup_append.mp b.sw.nd).1
  have hl : ((w :: x :: r').getLast?) = some (lt0 (w :: x :: r')) := by
    unfold lt0
    rw [List.getLastD_eq_getLast?]
    cases hh : (w :: x :: r').getLast? with
    | none => simp at hh
    | some z => rfl
  refine ⟨⟨⟨⟨ha.sym, wk⟩, List.nodup_cons.mpr ⟨fun m => hn (List.mem_append_left _ m), nd⟩, rfl, hl⟩, by rw [hd]; exact b.two, fun y hy => ?_⟩, rfl, hd⟩
  rcases List.mem_cons.mp hy with rfl | hy
  · exact (T.adj_le ha).2
  · exact b.le y (List.mem_append_left _ hy)
theorem Bd.aft_tail (T : TreeL tr) {l : List Nat} (b : Bd tr l) {w : Nat} (h : w ∈ fre tr l false) : Bd tr (l.tail ++ [w]) ∧ lt0 (l.tail ++ [w]) = w ∧ (l.tail ++ [w]).length = l.length := by
  obtain ⟨ha, hn⟩ := (mem_fre T).mp h
  have h2 : w ∈ fre tr l.reverse true := by
    refine (mem_fre T).mpr ⟨?_, fun m => hn (List.mem_reverse.mp m)⟩
    show Adj tr (hd0 l.reverse) w
    rw [hd0_rev]
    exact ha
  obtain ⟨c, _, hl⟩ := b.rev.aft_head T h2
  have e : (w :: l.reverse.dropLast).reverse = l.tail ++ [w] := by
    rw [List.reverse_cons]
    congr 1
    rw [← List.tail_reverse, List.reverse_reverse]
  refine ⟨e ▸ c.rev, lt0_snoc, ?_⟩
  rw [← e, List.length_reverse, hl, List.length_reverse]
theorem Bd.aft (T : TreeL tr) {l : List Nat} (b : Bd tr l) {m : Mv} (h : canM tr l m = true) : Bd tr (aft l m) ∧ (aft l m).length = l.length := by
  obtain ⟨e, w⟩ := m
  have h := of_decide_eq_true h
  cases e with
  | true => exact ⟨(b.aft_head T h).1, (b.aft_head T h).2.2⟩
  | false => exact ⟨(b.aft_tail T h).1, (b.aft_tail T h).2.2⟩
/-- the opposite move is possible behind a move and takes it back -/
theorem Bd.back (T : TreeL tr) {l : List Nat} (b : Bd tr l) {m : Mv} (h : canM tr l m = true) : canM tr (TR.aft l m) (oppM l m.1) = true ∧ TR.aft (TR.aft l m) (oppM l m.1) = l := by
  have key : ∀ {l : List Nat} (b : Bd tr l) {w : Nat}, w ∈ fre tr l true → lt0 l ∈ fre tr (w :: l.dropLast) false ∧ l.dropLast ++ [lt0 l] = l := by
    intro l b w h
    obtain ⟨c, _, _⟩ := b.aft_head T h
    obtain ⟨ha, hn⟩ := (mem_fre T).mp h
    obtain ⟨r, z, e, hr⟩ := bd_snoc b.two
    subst e
    rw [List.dropLast_concat] at c ⊢
    rw [lt0_snoc]
    refine ⟨(mem_fre T).mpr ⟨?_, fun m => ?_⟩, rfl⟩
    · obtain ⟨r', y, rfl⟩ : ∃ r' y, r = r' ++ [y] := ⟨r.dropLast, r.getLast hr, (List.dropLast_concat_getLast hr).symm⟩
      show Adj tr (lt0 (w :: (r' ++ [y]))) z
      have e2 : lt0 (w :: (r' ++ [y])) = y := lt0_of (by rw [← List.cons_append, List.getLast?_append]; rfl)
      rw [e2]
      have wk := b.sw.wk.rev
      rw [List.reverse_append, List.reverse_append] at wk
      exact wk.1.sym
    · rcases List.mem_cons.mp m with rfl | m
      · exact hn (by simp)
      · have nd := List.nodup_append.mp b.sw.nd
        exact nd.2.2 z m z (by simp) rfl
  obtain ⟨e, w⟩ := m
  have h := of_decide_eq_true h
  cases e with
  | true =>
    obtain ⟨k1, k2⟩ := key b h
    exact ⟨decide_eq_true k1, k2⟩
  | false =>
    obtain ⟨ha, hn⟩ := (mem_fre T).mp h
    have h2 : w ∈ fre tr l.reverse true := by
      refine (mem_fre T).mpr ⟨?_, fun m => hn (List.mem_reverse.mp m)⟩
      show Adj tr (hd0 l.reverse) w
      rw [hd0_rev]
      exact ha
    obtain ⟨k1, k2⟩ := key b.rev h2
    have e1 : (w :: l.reverse.dropLast).reverse = l.tail ++ [w] := by
      rw [List.reverse_cons]
      congr 1
      rw [← List.tail_reverse, List.reverse_reverse]
    refine ⟨decide_eq_true ?_, ?_⟩
    · show hd0 l ∈ fre tr (l.tail ++ [w]) true
      obtain ⟨k3, k4⟩ := (mem_fre T).mp k1
      rw [lt0_rev] at k3 k4
      refine (mem_fre T).mpr ⟨?_, fun m => k4 ?_⟩
      · show Adj tr (hd0 (l.tail ++ [w])) (hd0 l)
        rw [← e1, hd0_rev]
        exact k3
      · rw [← e1] at m
        exact List.mem_reverse.mp m
    · show hd0 l :: (l.tail ++ [w]).dropLast = l
      rw [List.dropLast_concat]
      obtain ⟨a, r, rfl, _⟩ := bd_cons b.two
      rfl
/-- all moves are possible -/
def okM (tr : List E2) : List Nat → List Mv → Bool
  | _, [] => true
  | l, m :: ms => canM tr l m && okM tr (aft l m) ms
def endB : List Nat → List Mv → List Nat
  | l, [] => l
  | l, m :: ms => endB (aft l m) ms
theorem endB_app : ∀ (ms ns : List Mv) (l : List Nat), endB l (ms ++ ns) = endB (endB l ms) ns
  | [], _, _ => rfl
  | m :: ms, ns, l => endB_app ms ns (aft l m)
theorem okM_app : ∀ (ms ns : List Mv) (l : List Nat), okM tr l (ms ++ ns) = (okM tr l ms && okM tr (endB l ms) ns)
  | [], _, _ => by rw [okM]; rfl
  | m :: ms, ns, l => by
    show (canM tr l m && okM tr (aft l m) (ms ++ ns)) = (canM tr l m && okM tr (aft l m) ms && okM tr (endB (aft l m) ms) ns)
    rw [okM_app ms ns (aft l m), Bool.and_assoc]
theorem Bd.run (T : TreeL tr) : ∀ (ms : List Mv) {l : List Nat}, Bd tr l → okM tr l ms = true → Bd tr (endB l ms) ∧ (endB l ms).length = l.length
  | [], _, b, _ => ⟨b, rfl⟩
  | m :: ms, l, b, h => by
    have h : (canM tr l m && okM tr (TR.aft l m) ms) = true := h
    rw [Bool.and_eq_true] at h
    obtain ⟨c, e⟩ := b.aft T h.1
    obtain ⟨d, e2⟩ := Bd.run T ms c h.2
    exact ⟨d, e2.trans e⟩
/-- the opposite moves, in the order of the moves -/
def oppL : List Nat → List Mv → List Mv
  | _, [] => []
  | l, m :: ms => oppM l m.1 :: oppL (aft l m) ms
/-- the opposite moves, the last one first, lead back -/
theorem Bd.takes_back (T : TreeL tr) : ∀ (ms : List Mv) {l : List Nat}, Bd tr l → okM tr l ms = true → okM tr (endB l ms) (oppL l ms).reverse = true ∧ endB (endB l ms) (oppL l ms).reverse = l
  | [], _, _, _ => ⟨rfl, rfl⟩
  | m :: ms, l, b, h => by
    have h : (canM tr l m && okM tr (TR.aft l m) ms) = true := h
    rw [Bool.and_eq_true] at h
    obtain ⟨c, _⟩ := b.aft T h.1
    obtain ⟨k1, k2⟩ := Bd.takes_back T ms c h.2
    obtain ⟨q1, q2⟩ := b.back T h.1
    show okM tr (endB (TR.aft l m) ms) (oppM l m.1 :: oppL (TR.aft l m) ms).reverse = true ∧ endB (endB (TR.aft l m) ms) (oppM l m.1 :: oppL (TR.aft l m) ms).reverse = l
    rw [List.reverse_cons, okM_app, endB_app, k2, k1]
    refine ⟨?_, q2⟩
    show (true && (canM tr (TR.aft l m) (oppM l m.1) && true)) = true
    rw [q1]
    rfl
end
end TR
namespace TR
section
variable {nr fr : Nat → Nat} {L : Nat}
/-- depths before the stations of a body of L tracks, seen from its inside -/
structure Brn (nr fr : Nat → Nat) (L : Nat) : Prop where
  up : ∀ i, i + 1 < L → nr i + 1 ≤ nr (i + 1)
  dn : ∀ j, 1 ≤ j → j < L → fr (j + 1) + 1 ≤ fr j
theorem Brn.ups (b : Brn nr fr L) {i : Nat} : ∀ {d : Nat}, i + d < L → nr i + d ≤ nr (i + d)
  | 0, _ => Nat.le_refl _
  | d + 1, h => by
    have h1 := b.ups (i := i) (d := d) (by omega)
    have h2 := b.up (i + d) (by omega)
    have e : i + (d + 1) = i + d + 1 := by omega
    rw [e]
    omega
theorem Brn.up_le (b : Brn nr fr L) {i p : Nat} (h : i ≤ p) (hp : p < L) : nr i + (p - i) ≤ nr p := by
  have := b.ups (i := i) (d := p - i) (by omega)
  rwa [show i + (p - i) = p by omega] at this
theorem Brn.dns (b : Brn nr fr L) {q : Nat} (hq : 1 ≤ q) : ∀ {d : Nat}, q + d ≤ L → fr (q + d) + d ≤ fr q
  | 0, _ => Nat.le_refl _
  | d + 1, h => by
    have h1 := b.dns hq (d := d) (by omega)
    have h2 := b.dn (q + d) (by omega) (by omega)
    have e : q + (d + 1) = q + d + 1 := by omega
    rw [e]
    omega
theorem Brn.dn_le (b : Brn nr fr L) {q j : Nat} (hq : 1 ≤ q) (h : q ≤ j) (hj : j ≤ L) : fr j + (j - q) ≤ fr q := by
  have := b.dns hq (d := j - q) (by omega)
  rwa [show q + (j - q) = j by omega] at this
/-- a part of the body, all else of the train before its ends -/
structure StI (nr fr : Nat → Nat) (L i j : Nat) : Prop where
  lt : i < j
  le : j ≤ L
  n : L ≤ nr i + (j - i)
  f : L ≤ fr j + (j - i)
theorem StI.start (hL : 0 < L) : StI nr fr L 0 L := ⟨hL, Nat.le_refl _, by omega, by omega⟩
theorem StI.front (b : Brn nr fr L) {i j : Nat} (s : StI nr fr L i j) (h : nr i < L) : StI nr fr L i (i + L - nr i) ∧ i + L - nr i ≤ j ∧ nr i + (i + L - nr i - i) = L := by
  have h1 := s.lt
  have h2 := s.le
  have h3 := s.n
  have h4 := s.f
  have h5 := b.dn_le (q := i + L - nr i) (j := j) (by omega) (by omega) h2
  exact ⟨⟨by omega, by omega, by omega, by omega⟩, by omega, by omega⟩
theorem StI.rear (b : Brn nr fr L) {i j : Nat} (s : StI nr fr L i j) (h : fr j < L) : StI nr fr L (j + fr j - L) j ∧ i ≤ j + fr j - L ∧ fr j + (j - (j + fr j - L)) = L := by
  have h1 := s.lt
  have h2 := s.le
  have h3 := s.n
  have h4 := s.f
  have h5 := b.up_le (i := i) (p := j + fr j - L) (by omega) (by omega)
  exact ⟨⟨by omega, by omega, by omega, by omega⟩, by omega, by omega⟩
def prO (nr fr : Nat → Nat) (L t i j : Nat) : Nat × Nat := if t = 0 then (i, i + L - nr i) else (j + fr j - L, j)
/-- a climb whose sides take turns -/
inductive Clm (nr fr : Nat → Nat) (L : Nat) : Nat → Nat → Nat → Nat → Nat → List (Nat × Nat) → Bool → Prop
  | done {n t s i j : Nat} : 2 ≤ s → Clm nr fr L n t s i j [] false
  | loose {n t s i j : Nat} : s < 2 → (L ≤ nr i ∨ L ≤ fr j) → Clm nr fr L n t s i j [] true
  | stay {n t s i j : Nat} {r : List (Nat × Nat)} {b : Bool} : s < 2 → nr i < L → fr j < L → prO nr fr L t i j = (i, j) → Clm nr fr L n (1 - t) (s + 1) i j r b → Clm nr fr L (n + 1) t s i j r b
  | move {n t s i j : Nat} {r : List (Nat × Nat)} {b : Bool} : s < 2 → nr i < L → fr j < L → prO nr fr L t i j ≠ (i, j) → Clm nr fr L n (1 - t) 0 (prO nr fr L t i j).1 (prO nr fr L t i j).2 r b → Clm nr fr L (n + 1) t s i j (prO nr fr L t i j :: r) b
theorem StI.pr (b : Brn nr fr L) {t i j : Nat} (s : StI nr fr L i j) (h1 : nr i < L) (h2 : fr j < L) : StI nr fr L (prO nr fr L t i j).1 (prO nr fr L t i j).2 ∧ i ≤ (prO nr fr L t i j).1 ∧ (prO nr fr L t i j).2 ≤ j := by
  unfold prO
  split
  · obtain ⟨a, b, _⟩ := s.front b h1
    exact ⟨a, Nat.le_refl _, b⟩
  · obtain ⟨a, b, _⟩ := s.rear b h2
    exact ⟨a, b, Nat.le_refl _⟩
theorem clm_ex (b : Brn nr fr L) : ∀ (m t s i j : Nat), StI nr fr L i j → s ≤ 2 → 3 * (j - i) + (2 - s) ≤ m → ∃ n r c, Clm nr fr L n t s i j r c := by
  intro m
  induction m with
  | zero =>
    intro t s i j h hs hm
    have := h.lt
    omega
  | succ m ih =>
    intro t s i j h hs hm
    by_cases c0 : 2 ≤ s
    · exact ⟨0, _, _, .done c0⟩
    by_cases c1 : L ≤ nr i ∨ L ≤ fr j
    · exact ⟨0, _, _, .loose (by omega) c1⟩
    have n1 : nr i < L := by omega
    have n2 : fr j < L := by omega
    obtain ⟨k1, k2, k3⟩ := h.pr b (t := t) n1 n2
    by_cases c2 : prO nr fr L t i j = (i, j)
    · obtain ⟨n, r, c, q⟩ := ih (1 - t) (s + 1) i j h (by omega) (by omega)
      exact ⟨n + 1, r, c, .stay (by omega) n1 n2 c2 q⟩
    · have : (prO nr fr L t i j).2 - (prO nr fr L t i j).1 < j - i := by
        have l1 := k1.lt
        have : ¬ ((prO nr fr L t i j).1 = i ∧ (prO nr fr L t i j).2 = j) := fun z => c2 (Prod.ext z.1 z.2)
        omega
      obtain ⟨n, r, c, q⟩ := ih (1 - t) 0 _ _ k1 (by omega) (by omega)
      exact ⟨n + 1, _, c, .move (by omega) n1 n2 c2 q⟩
def lst2 (p : Nat × Nat) (r : List (Nat × Nat)) : Nat × Nat := r.getLastD p
theorem lst2_cons {p q : Nat × Nat} {r : List (Nat × Nat)} : lst2 p (q :: r) = lst2 q r := by
  unfold lst2
  rw [List.getLastD_cons]
/-- a part that no side can make shorter -/
structure Fx (nr fr : Nat → Nat) (L p q : Nat) : Prop where
  lt : p < q
  le : q ≤ L
  n : nr p + (q - p) = L
  f : fr q + (q - p) = L
/-- what a side that did not move knows -/
def Si (nr fr : Nat → Nat) (L t s i j : Nat) : Prop := (1 ≤ s → if t = 0 then fr j + (j - i) = L else nr i + (j - i) = L) ∧ (2 ≤ s → nr i + (j - i) = L ∧ fr j + (j - i) = L)
theorem clm_end (b : Brn nr fr L) {n t s i j : Nat} {r : List (Nat × Nat)} {c : Bool} (h : Clm nr fr L n t s i j r c) : t ≤ 1 → StI nr fr L i j → Si nr fr L t s i j →
    StI nr fr L (lst2 (i, j) r).1 (lst2 (i, j) r).2 ∧ i ≤ (lst2 (i, j) r).1 ∧ (lst2 (i, j) r).2 ≤ j ∧ r.length ≤ j - i ∧ (c = false → Fx nr fr L (lst2 (i, j) r).1 (lst2 (i, j) r).2) ∧ (c = true → L ≤ nr (lst2 (i, j) r).1 ∨ L ≤ fr (lst2 (i, j) r).2) ∧ (∀ x ∈ r, StI nr fr L x.1 x.2) := by
  induction h with
  | done hs =>
    intro ht st si
    obtain ⟨q1, q2⟩ := si.2 hs
    exact ⟨st, Nat.le_refl _, Nat.le_refl _, Nat.zero_le _, fun _ => ⟨st.lt, st.le, q1, q2⟩, fun z => (nomatch z), fun _ z => (nomatch z)⟩
  | loose hs hl =>
    intro ht st si
    exact ⟨st, Nat.le_refl _, Nat.le_refl _, Nat.zero_le _, fun z => (nomatch z), fun _ => hl, fun _ z => (nomatch z)⟩
  | @stay n t s i j r c hs n1 n2 e q ih =>
    intro ht st si
    refine ih (by omega) st ?_
    have l1 := st.lt
    have s1 := si.1
    unfold prO at e
    unfold Si
    by_cases z : t = 0
    · subst z
      rw [if_pos rfl] at e
      have e2 : i + L - nr i = j := (Prod.mk.inj e).2
      refine ⟨fun _ => ?_, fun h2 => ?_⟩
      · rw [if_neg (by omega)]
        omega
      · have := s1 (by omega)
        rw [if_pos rfl] at this
        omega
    · rw [if_neg z] at e
      have e2 : j + fr j - L = i := (Prod.mk.inj e).1
      have l3 := st.f
      refine ⟨fun _ => ?_, fun h2 => ?_⟩
      · rw [if_pos (by omega)]
        omega
      · have := s1 (by omega)
        rw [if_neg z] at this
        omega
  | @move n t s i j r c hs n1 n2 e q ih =>
    intro ht st si
    obtain ⟨k1, k2, k3⟩ := st.pr b (t := t) n1 n2
    obtain ⟨a1, a2, a3, a4, a5, a6, a7⟩ := ih (by omega) k1 ⟨fun z => absurd z (by omega), fun z => absurd z (by omega)⟩
    rw [lst2_cons]
    rw [show ((prO nr fr L t i j).1, (prO nr fr L t i j).2) = prO nr fr L t i j from rfl] at a1 a2 a3 a5 a6
    refine ⟨a1, by omega, by omega, ?_, a5, a6, fun x hx => ?_⟩
    · have l1 := k1.lt
      have : ¬ ((prO nr fr L t i j).1 = i ∧ (prO nr fr L t i j).2 = j) := fun z => e (Prod.ext z.1 z.2)
      rw [List.length_cons]
      omega
    · rcases List.mem_cons.mp hx with rfl | hx
      · exact k1
      · exact a7 x hx
/-- the climb whose front side is asked first -/
inductive Prg (nr fr : Nat → Nat) (L : Nat) : Nat → Nat → Nat → List (Nat × Nat) → Prop
  | loose {n i j : Nat} : (L ≤ nr i ∨ L ≤ fr j) → Prg nr fr L n i j []
  | fixed {n i j : Nat} : nr i < L → fr j < L → nr i + (j - i) = L → fr j + (j - i) = L → Prg nr fr L n i j []
  | front {n i j : Nat} {r : List (Nat × Nat)} : nr i < L → fr j < L → L < nr i + (j - i) → Prg nr fr L n i (i + L - nr i) r → Prg nr fr L (n + 1) i j ((i, i + L - nr i) :: r)
  | rear {n i j : Nat} {r : List (Nat × Nat)} : nr i < L → fr j < L → nr i + (j - i) = L → L < fr j + (j - i) → Prg nr fr L n (j + fr j - L) j r → Prg nr fr L (n + 1) i j ((j + fr j - L, j) :: r)
def Sj (nr fr : Nat → Nat) (L t s i j : Nat) : Prop := (t ≠ 0 → nr i + (j - i) = L) ∧ (t = 0 → 1 ≤ s → fr j + (j - i) = L) ∧ (2 ≤ s → nr i + (j - i) = L ∧ fr j + (j - i) = L)
theorem clm_prg (b : Brn nr fr L) {n t s i j : Nat} {r : List (Nat × Nat)} {c : Bool} (h : Clm nr fr L n t s i j r c) : t ≤ 1 → StI nr fr L i j → Sj nr fr L t s i j → ∃ m, Prg nr fr L m i j r := by
  induction h with
  | @done n t s i j hs =>
    intro ht st sj
    obtain ⟨q1, q2⟩ := sj.2.2 hs
    by_cases c : L ≤ nr i ∨ L ≤ fr j
    · exact ⟨0, .loose c⟩
    · exact ⟨0, .fixed (by omega) (by omega) q1 q2⟩
  | loose hs hl => exact fun _ _ _ => ⟨0, .loose hl⟩
  | @stay n t s i j r c hs n1 n2 e q ih =>
    intro ht st sj
    refine ih (by omega) st ?_
    have l1 := st.lt
    have l3 := st.f
    obtain ⟨s1, s2, s3⟩ := sj
    unfold prO at e
    unfold Sj
    by_cases z : t = 0
    · rw [if_pos z] at e
      have e2 : i + L - nr i = j := (Prod.mk.inj e).2
      have s2 := s2 z
      refine ⟨fun _ => by omega, fun q => by omega, fun h2 => ?_⟩
      have := s2 (by omega)
      omega
    · rw [if_neg z] at e
      have e2 : j + fr j - L = i := (Prod.mk.inj e).1
      have s1 := s1 z
      refine ⟨fun q => by omega, fun _ _ => by omega, fun h2 => by omega⟩
  | @move n t s i j r c hs n1 n2 e q ih =>
    intro ht st sj
    obtain ⟨k1, _, _⟩ := st.pr b (t := t) n1 n2
    have l1 := st.lt
    have l2 := st.n
    have l3 := st.f
    obtain ⟨s1, s2, s3⟩ := sj
    by_cases z : t = 0
    · have ep : prO nr fr L t i j = (i, i + L - nr i) := by unfold prO; rw [if_pos z]
      rw [ep] at e k1 q ih ⊢
      have ne : i + L - nr i ≠ j := fun w => e (Prod.ext rfl w)
      obtain ⟨m, hm⟩ := ih (by omega) k1 ⟨fun _ => (by show nr i + (i + L - nr i - i) = L; omega), fun q _ => by omega, fun q => by omega⟩
      exact ⟨m + 1, .front n1 n2 (by omega) hm⟩
    · have ep : prO nr fr L t i j = (j + fr j - L, j) := by unfold prO; rw [if_neg z]
      rw [ep] at e k1 q ih ⊢
      have ne : j + fr j - L ≠ i := fun w => e (Prod.ext w rfl)
      have s1 := s1 z
      obtain ⟨m, hm⟩ := ih (by omega) k1 ⟨fun q => by omega, fun _ q => by omega, fun q => by omega⟩
      exact ⟨m + 1, .rear n1 n2 s1 (by omega) hm⟩
end
end TR
namespace TR
section
variable {tr : List E2}
/-- depths before the stations of a body, seen from the next one, seen from the one before -/
noncomputable def nrB (tr : List E2) (l : List Nat) (i : Nat) : Nat := dph tr (l.getD i 0) (l.getD (i + 1) 0)
noncomputable def frB (tr : List E2) (l : List Nat) (j : Nat) : Nat := dph tr (l.getD j 0) (l.getD (j - 1) 0)
/-- the part of a body from i to j -/
def prt (l : List Nat) (i j : Nat) : List Nat := (l.drop i).take (j + 1 - i)
theorem gD {l : List Nat} {i : Nat} (h : i < l.length) : l[i]? = some (l.getD i 0) := by
  rw [List.getD_eq_getElem?_getD, List.getElem?_eq_getElem h]
  rfl
theorem gD_of {l : List Nat} {i x : Nat} (h : l[i]? = some x) : l.getD i 0 = x := by
  rw [List.getD_eq_getElem?_getD, h]
  rfl
theorem wk_at : ∀ {l : List Nat} {i x y : Nat}, Wk tr l → l[i]? = some x → l[i + 1]? = some y → Adj tr x y
  | [], _, _, _, _, h, _ => by cases h
  | [a], i, _, _, _, _, h => by cases h
  | a :: b :: r, 0, x, y, w, h1, h2 => by
    cases h1
    cases h2
    exact w.1
  | a :: b :: r, i + 1, x, y, w, h1, h2 => wk_at (l := b :: r) (i := i) w.2 h1 h2
theorem brn_of (T : TreeL tr) {l : List Nat} (b : Bd tr l) : Brn (nrB tr l) (frB tr l) (l.length - 1) := by
  refine ⟨fun i hi => ?_, fun j h1 hj => ?_⟩
  · have g0 := gD (l := l) (i := i) (by omega)
    have g1 := gD (l := l) (i := i + 1) (by omega)
    have g2 := gD (l := l) (i := i + 2) (by omega)
    have ha := wk_at b.sw.wk g0 g1
    have ne := sw_ne b.sw g0 g2 (by omega)
    exact dph_child T (T.adj_le ha).2 ((mem_nb T.ne).mpr ha.sym) ne
  · have g0 := gD (l := l) (i := j - 1) (by omega)
    have g1 := gD (l := l) (i := j) (by omega)
    have g2 := gD (l := l) (i := j + 1) (by omega)
    have ha := wk_at b.sw.wk g1 g2
    have ne := sw_ne b.sw g2 g0 (by omega)
    have := dph_child T (T.adj_le ha).1 ((mem_nb T.ne).mpr ha) ne
    unfold frB
    rw [Nat.add_sub_cancel]
    exact this
theorem prt_at {l : List Nat} {i j k : Nat} (h : k < j + 1 - i) : (prt l i j)[k]? = l[i + k]? := by
  unfold prt
  rw [List.getElem?_take, if_pos h, List.getElem?_drop]
theorem prt_len {l : List Nat} {i j : Nat} (h1 : i < j) (h2 : j < l.length) : (prt l i j).length = j - i + 1 := by
  unfold prt
  rw [List.length_take, List.length_drop]
  omega
theorem prt_all {l : List Nat} (h : 2 ≤ l.length) : prt l 0 (l.length - 1) = l := by
  unfold prt
  rw [List.drop_zero, List.take_of_length_le (by omega)]
/-- a part of a body -/
structure PtR (tr : List E2) (l : List Nat) (i j : Nat) : Prop where
  bd : Bd tr (prt l i j)
  h : hd0 (prt l i j) = l.getD i 0
  t : lt0 (prt l i j) = l.getD j 0
  s : (prt l i j)[1]? = some (l.getD (i + 1) 0)
  p : (prt l i j)[(prt l i j).length - 2]? = some (l.getD (j - 1) 0)
  n : (prt l i j).length = j - i + 1
theorem prt_bd (T : TreeL tr) {l : List Nat} (b : Bd tr l) {i j : Nat} (h1 : i < j) (h2 : j < l.length) : PtR tr l i j := by
  have g0 := gD (l := l) (i := i) (by omega)
  have g1 := gD (l := l) (i := j) (by omega)
  have n := prt_len h1 h2
  have s1 := b.sw.drop g0
  have g2 : (l.drop i)[j - i]? = some (l.getD j 0) := by
    rw [List.getElem?_drop, show i + (j - i) = j by omega]
    exact g1
  have s2 := s1.take g2
  have e : (l.drop i).take (j - i + 1) = prt l i j := by
    unfold prt
    rw [show j + 1 - i = j - i + 1 by omega]
  rw [e] at s2
  have ne := sw_ne b.sw g0 g1 (by omega)
  have hle : l.getD i 0 ≤ tr.length := b.le _ (List.mem_of_getElem? g0)
  obtain ⟨q1, q2, q3⟩ := sw_bd T s2 hle ne
  refine ⟨q1, q2, q3, ?_, ?_, n⟩
  · rw [prt_at (by omega)]
    exact gD (by omega)
  · rw [n, show j - i + 1 - 2 = j - 1 - i by omega, prt_at (by omega), show i + (j - 1 - i) = j - 1 by omega]
    exact gD (by omega)
theorem prt_take {l : List Nat} {i j k : Nat} (h : k ≤ j) (hi : i ≤ k) : (prt l i j).take (k - i + 1) = prt l i k := by
  unfold prt
  rw [List.take_take]
  congr 1
  omega
theorem prt_drop {l : List Nat} {i j d : Nat} (h : i + d ≤ j) : (prt l i j).drop d = prt l (i + d) j := by
  unfold prt
  rw [List.drop_take, List.drop_drop]
  congr 1
  omega
end
end TR
namespace TR
section
variable {tr : List E2}
/-- the next part of a climb -/
noncomputable def nxP (tr : List E2) (L : Nat) (m : List Nat) : List Nat :=
  if L ≤ dph tr (hd0 m) (m.getD 1 0) ∨ L ≤ dph tr (lt0 m) (m.getD (m.length - 2) 0) then []
  else if L < dph tr (hd0 m) (m.getD 1 0) + (m.length - 1) then m.take (L - dph tr (hd0 m) (m.getD 1 0) + 1)
  else if L < dph tr (lt0 m) (m.getD (m.length - 2) 0) + (m.length - 1) then m.drop (dph tr (lt0 m) (m.getD (m.length - 2) 0) + (m.length - 1) - L) else []
theorem nxP_at (T : TreeL tr) {l : List Nat} (b : Bd tr l) {i j L : Nat} (h1 : i < j) (h2 : j < l.length) :
    nxP tr L (prt l i j) = if L ≤ nrB tr l i ∨ L ≤ frB tr l j then [] else if L < nrB tr l i + (j - i) then (prt l i j).take (L - nrB tr l i + 1) else if L < frB tr l j + (j - i) then (prt l i j).drop (frB tr l j + (j - i) - L) else [] := by
  have p := prt_bd T b h1 h2
  have e1 := gD_of p.s
  have e2 := gD_of p.p
  unfold nxP
  rw [p.h, p.t, e1, e2, p.n, Nat.add_sub_cancel]
  rfl
theorem nxP_prg (T : TreeL tr) {l : List Nat} (b : Bd tr l) {n i j : Nat} {r : List (Nat × Nat)} (h : Prg (nrB tr l) (frB tr l) (l.length - 1) n i j r) (st : StI (nrB tr l) (frB tr l) (l.length - 1) i j) :
    (r = [] ∧ nxP tr (l.length - 1) (prt l i j) = []) ∨ ∃ n' i' j' r', n = n' + 1 ∧ r = (i', j') :: r' ∧ nxP tr (l.length - 1) (prt l i j) = prt l i' j' ∧ StI (nrB tr l) (frB tr l) (l.length - 1) i' j' ∧ Prg (nrB tr l) (frB tr l) (l.length - 1) n' i' j' r' := by
  have b2 := b.two
  have h1 := st.lt
  have h2 := st.le
  rw [nxP_at T b h1 (by omega)]
  cases h with
  | loose h => exact .inl ⟨rfl, if_pos h⟩
  | fixed a1 a2 a3 a4 => exact .inl ⟨rfl, by rw [if_neg (by omega), if_neg (by omega), if_neg (by omega)]⟩
  | @front n _ _ r a1 a2 a3 k =>
    obtain ⟨s2, le, _⟩ := st.front (brn_of T b) a1
    refine .inr ⟨n, i, i + (l.length - 1) - nrB tr l i, r, rfl, rfl, ?_, s2, k⟩
    rw [if_neg (by omega), if_pos a3]
    rw [← prt_take (k := i + (l.length - 1) - nrB tr l i) le (by omega)]
    congr 1
    omega
  | @rear n _ _ r a1 a2 a3 a4 k =>
    obtain ⟨s2, le, _⟩ := st.rear (brn_of T b) a2
    refine .inr ⟨n, j + frB tr l j - (l.length - 1), j, r, rfl, rfl, ?_, s2, k⟩
    rw [if_neg (by omega), if_neg (by omega), if_pos a4]
    have l3 := s2.lt
    rw [prt_drop (by omega)]
    congr 1
    omega
end
end TR
namespace TR
section
variable {nr fr : Nat → Nat} {L : Nat}
/-- a part that holds whatever the train does -/
structure Cl (nr fr : Nat → Nat) (L p q : Nat) : Prop where
  lt : p < q
  le : q ≤ L
  n : nr p + (q - p) ≤ L
  f : fr q + (q - p) ≤ L
theorem Fx.cl {p q : Nat} (h : Fx nr fr L p q) : Cl nr fr L p q := ⟨h.lt, h.le, Nat.le_of_eq h.n, Nat.le_of_eq h.f⟩
def isCl (nr fr : Nat → Nat) (L p q : Nat) : Bool := decide (nr p + (q - p) ≤ L) && decide (fr q + (q - p) ≤ L)
theorem isCl_iff {p q : Nat} (h1 : p < q) (h2 : q ≤ L) : isCl nr fr L p q = true ↔ Cl nr fr L p q := by
  unfold isCl
  rw [Bool.and_eq_true, decide_eq_true_iff, decide_eq_true_iff]
  exact ⟨fun h => ⟨h1, h2, h.1, h.2⟩, fun h => ⟨h.n, h.f⟩⟩
/-- it lies in all parts of a climb -/
theorem clm_cl (b : Brn nr fr L) {p q : Nat} (fx : Cl nr fr L p q) {n t s i j : Nat} {r : List (Nat × Nat)} {c : Bool} (h : Clm nr fr L n t s i j r c) : StI nr fr L i j → i ≤ p → q ≤ j → c = false ∧ (lst2 (i, j) r).1 ≤ p ∧ q ≤ (lst2 (i, j) r).2 := by
  have f1 := fx.lt
  have f2 := fx.le
  have f3 := fx.n
  have f4 := fx.f
  induction h with
  | done hs => exact fun st h1 h2 => ⟨rfl, h1, h2⟩
  | @loose n t s i j hs hl =>
    intro st h1 h2
    have l2 := st.le
    have a1 := b.up_le h1 (by omega)
    have a2 := b.dn_le (q := q) (j := j) (by omega) h2 l2
    omega
  | stay hs n1 n2 e k ih => exact ih
  | @move n t s i j r c hs n1 n2 e k ih =>
    intro st h1 h2
    have l2 := st.le
    have l1 := st.lt
    have l3 := st.f
    have a1 := b.up_le h1 (by omega)
    have a2 := b.dn_le (q := q) (j := j) (by omega) h2 l2
    obtain ⟨k1, _, _⟩ := st.pr b (t := t) n1 n2
    rw [lst2_cons]
    refine ih k1 ?_ ?_
    · unfold prO
      split
      · exact h1
      · show j + fr j - L ≤ p
        omega
    · unfold prO
      split
      · show q ≤ i + L - nr i
        omega
      · exact h2
/-- the parts that hold, in the order of a search for them -/
def clR (P : Nat → Nat → Bool) (L i k : Nat) : List (Nat × Nat) := (((List.range k).map fun d => i + 1 + d).filter (P i)).map fun j => (i, j)
def clA (P : Nat → Nat → Bool) (L : Nat) : Nat → List (Nat × Nat)
  | 0 => []
  | n + 1 => clA P L n ++ clR P L n (L - n)
theorem clR_succ (P : Nat → Nat → Bool) (L i k : Nat) : clR P L i (k + 1) = clR P L i k ++ (if P i (i + 1 + k) = true then [(i, i + 1 + k)] else []) := by
  unfold clR
  rw [List.range_succ, List.map_append, List.filter_append, List.map_append]
  congr 1
  by_cases c : P i (i + 1 + k) = true
  · rw [if_pos c]
    simp [c]
  · rw [if_neg c]
    simp [c]
theorem mem_clR {P : Nat → Nat → Bool} {L i k : Nat} {x : Nat × Nat} : x ∈ clR P L i k ↔ x.1 = i ∧ i < x.2 ∧ x.2 ≤ i + k ∧ P i x.2 = true := by
  unfold clR
  rw [List.mem_map]
  constructor
  · rintro ⟨j, hj, rfl⟩
    obtain ⟨h1, h2⟩ := List.mem_filter.mp hj
    obtain ⟨d, hd, rfl⟩ := List.mem_map.mp h1
    have := List.mem_range.mp hd
    exact ⟨rfl, by show i < i + 1 + d; omega, by show i + 1 + d ≤ i + k; omega, h2⟩
  · rintro ⟨rfl, h1, h2, h3⟩
    refine ⟨x.2, List.mem_filter.mpr ⟨List.mem_map.mpr ⟨x.2 - x.1 - 1, List.mem_range.mpr (by omega), by omega⟩, h3⟩, rfl⟩
theorem mem_clA {P : Nat → Nat → Bool} {L : Nat} : ∀ {n : Nat} {x : Nat × Nat}, n ≤ L + 1 → (x ∈ clA P L n ↔ x.1 < n ∧ x.1 < x.2 ∧ x.2 ≤ L ∧ P x.1 x.2 = true)
  | 0, x, _ => ⟨fun h => (nomatch h), fun h => absurd h.1 (Nat.not_lt_zero _)⟩
  | n + 1, x, hn => by
    show x ∈ clA P L n ++ clR P L n (L - n) ↔ _
    rw [List.mem_append, mem_clA (by omega), mem_clR]
    constructor
    · rintro (⟨h1, h2⟩ | ⟨rfl, h1, h2, h3⟩)
      · exact ⟨by omega, h2⟩
      · exact ⟨by omega, h1, by omega, h3⟩
    · rintro ⟨h1, h2, h3, h4⟩
      by_cases c : x.1 < n
      · exact .inl ⟨c, h2, h3, h4⟩
      · have e : x.1 = n := by omega
        exact .inr ⟨e, by omega, by omega, by rw [← e]; exact h4⟩
end
end TR
namespace TR
section
variable {tr : List E2}
noncomputable abbrev clB (tr : List E2) (l : List Nat) : List (Nat × Nat) := clA (isCl (nrB tr l) (frB tr l) (l.length - 1)) (l.length - 1) (l.length - 1 + 1)
theorem mem_clB {l : List Nat} {x : Nat × Nat} : x ∈ clB tr l ↔ Cl (nrB tr l) (frB tr l) (l.length - 1) x.1 x.2 := by
  rw [mem_clA (Nat.le_refl _)]
  constructor
  · rintro ⟨h1, h2, h3, h4⟩
    exact (isCl_iff h2 h3).mp h4
  · intro h
    have h1 := h.lt
    have h2 := h.le
    exact ⟨by omega, h1, h2, (isCl_iff h1 h2).mpr h⟩
def shf (x : Nat × Nat) : Nat × Nat := (x.1 + 1, x.2 + 1)
theorem clR_shf {P P' : Nat → Nat → Bool} {L i : Nat} : ∀ k, (∀ d, d < k → P' (i + 1) (i + 2 + d) = P i (i + 1 + d)) → clR P' L (i + 1) k = (clR P L i k).map shf
  | 0, _ => rfl
  | k + 1, h => by
    rw [clR_succ, clR_succ, clR_shf k (fun d hd => h d (by omega)), List.map_append, show i + 1 + 1 + k = i + 2 + k by omega, h k (Nat.lt_succ_self _)]
    congr 1
    by_cases c : P i (i + 1 + k) = true
    · rw [if_pos c, if_pos c]
      show _ = [(i + 1, i + 1 + k + 1)]
      rw [show i + 1 + k + 1 = i + 2 + k by omega]
    · rw [if_neg c, if_neg c]
      rfl
theorem clR_nil {P : Nat → Nat → Bool} {L i : Nat} : ∀ k, (∀ d, d < k → P i (i + 1 + d) = false) → clR P L i k = []
  | 0, _ => rfl
  | k + 1, h => by
    rw [clR_succ, clR_nil k (fun d hd => h d (by omega)), h k (Nat.lt_succ_self _)]
    rfl
theorem clA_shf {P P' : Nat → Nat → Bool} {L : Nat} (h0 : ∀ j, 1 ≤ j → j ≤ L → P' 0 j = false) (hL : ∀ i, i < L → P i L = false) (hs : ∀ i j, i < j → j < L → P' (i + 1) (j + 1) = P i j) : ∀ n, n ≤ L → clA P' L (n + 1) = (clA P L n).map shf
  | 0, _ => by
    show [] ++ clR P' L 0 (L - 0) = []
    rw [clR_nil _ fun d hd => h0 _ (by omega) (by omega)]
    rfl
  | n + 1, hn => by
    show clA P' L (n + 1) ++ clR P' L (n + 1) (L - (n + 1)) = (clA P L n ++ clR P L n (L - n)).map shf
    have e1 := clR_shf (P := P) (P' := P') (L := L) (i := n) (L - (n + 1)) fun d hd => by
      rw [show n + 2 + d = n + 1 + d + 1 by omega]
      exact hs n (n + 1 + d) (by omega) (by omega)
    have e2 : clR P L n (L - n) = clR P L n (L - (n + 1)) := by
      rw [show L - n = L - (n + 1) + 1 by omega, clR_succ, show n + 1 + (L - (n + 1)) = L by omega, hL n (by omega)]
      exact List.append_nil _
    rw [clA_shf h0 hL hs n (by omega), e1, e2, List.map_append]
/-- a move of the head moves the places of a body by one -/
theorem head_at {l : List Nat} {w i : Nat} (h : i + 1 < l.length) : (w :: l.dropLast).getD (i + 1) 0 = l.getD i 0 := by
  rw [List.getD_cons_succ, List.getD_eq_getElem?_getD, List.getD_eq_getElem?_getD, List.dropLast_eq_take, List.getElem?_take, if_pos (by omega)]
theorem clB_head (T : TreeL tr) {l : List Nat} (b : Bd tr l) {w : Nat} (h : w ∈ fre tr l true) : clB tr (w :: l.dropLast) = (clB tr l).map shf ∧ ∀ x ∈ clB tr l, x.2 + 1 < l.length := by
  obtain ⟨b', _, hl⟩ := b.aft_head T h
  have b2 := b.two
  obtain ⟨hw1, hw2⟩ := (mem_fre T).mp h
  have g0 := gD (l := l) (i := 0) (by omega)
  have eh : hd0 l = l.getD 0 0 := Option.some.inj ((sw_at0 b.sw).symm.trans g0)
  have hw1 : Adj tr (l.getD 0 0) w := by rw [← eh]; exact hw1
  have hle := (T.adj_le hw1).1
  have br := brn_of T b
  have br' := brn_of T b'
  rw [hl] at br'
  -- the station before the head makes its depth positive
  have n0 : 1 ≤ nrB tr l 0 := by
    have ne : w ≠ l.getD 1 0 := fun z => hw2 (by rw [z]; exact List.mem_of_getElem? (gD (l := l) (i := 1) (by omega)))
    have := dph_child T (s := l.getD 0 0) (b := l.getD 1 0) (w := w) hle ((mem_nb T.ne).mpr hw1) ne
    show 1 ≤ dph tr (l.getD 0 0) (l.getD 1 0)
    omega
  have nf : 1 ≤ frB tr (w :: l.dropLast) (l.length - 1) := by
    have gl := gD (l := l) (i := l.length - 1) (by omega)
    have gm := gD (l := l) (i := l.length - 2) (by omega)
    have gl' : l[l.length - 2 + 1]? = some (l.getD (l.length - 1) 0) := by rw [show l.length - 2 + 1 = l.length - 1 by omega]; exact gl
    have ha := wk_at b.sw.wk gm gl'
    have e1 : (w :: l.dropLast).getD (l.length - 1) 0 = l.getD (l.length - 2) 0 := by
      have := head_at (l := l) (w := w) (i := l.length - 2) (by omega)
      rwa [show l.length - 2 + 1 = l.length - 1 by omega] at this
    have ne : l.getD (l.length - 1) 0 ≠ (w :: l.dropLast).getD (l.length - 1 - 1) 0 := by
      by_cases c : l.length = 2
      · rw [c]
        show l.getD 1 0 ≠ w
        exact fun z => hw2 (by rw [← z]; exact List.mem_of_getElem? (gD (l := l) (i := 1) (by omega)))
      · have e2 : (w :: l.dropLast).getD (l.length - 1 - 1) 0 = l.getD (l.length - 3) 0 := by
          have := head_at (l := l) (w := w) (i := l.length - 3) (by omega)
          rwa [show l.length - 3 + 1 = l.length - 1 - 1 by omega] at this
        rw [e2]
        exact sw_ne b.sw gl (gD (l := l) (i := l.length - 3) (by omega)) (by omega)
    have := dph_child T (s := l.getD (l.length - 2) 0) (b := (w :: l.dropLast).getD (l.length - 1 - 1) 0) (w := l.getD (l.length - 1) 0) (T.adj_le ha).1 ((mem_nb T.ne).mpr ha) ne
    show 1 ≤ dph tr ((w :: l.dropLast).getD (l.length - 1) 0) _
    rw [e1]
    omega
  have hL : ∀ i, i < l.length - 1 → isCl (nrB tr l) (frB tr l) (l.length - 1) i (l.length - 1) = false := fun i hi => by
    have := br.up_le (i := 0) (p := i) (Nat.zero_le _) hi
    unfold isCl
    rw [decide_eq_false (by omega)]
    rfl
  have h0 : ∀ j, 1 ≤ j → j ≤ l.length - 1 → isCl (nrB tr (w :: l.dropLast)) (frB tr (w :: l.dropLast)) (l.length - 1) 0 j = false := fun j h1 h2 => by
    have := br'.dn_le (q := j) (j := l.length - 1) h1 h2 (Nat.le_refl _)
    unfold isCl
    rw [show decide (frB tr (w :: l.dropLast) j + (j - 0) ≤ l.length - 1) = false from decide_eq_false (by omega), Bool.and_false]
  have hs : ∀ i j, i < j → j < l.length - 1 → isCl (nrB tr (w :: l.dropLast)) (frB tr (w :: l.dropLast)) (l.length - 1) (i + 1) (j + 1) = isCl (nrB tr l) (frB tr l) (l.length - 1) i j := fun i j h1 h2 => by
    have e1 : nrB tr (w :: l.dropLast) (i + 1) = nrB tr l i := by
      unfold nrB
      rw [head_at (by omega), head_at (by omega)]
    have e2 : frB tr (w :: l.dropLast) (j + 1) = frB tr l j := by
      unfold frB
      rw [head_at (by omega), show j + 1 - 1 = (j - 1) + 1 by omega, head_at (by omega)]
    unfold isCl
    rw [e1, e2, show j + 1 - (i + 1) = j - i by omega]
  refine ⟨?_, fun x hx => ?_⟩
  · have e1 := clA_shf h0 hL hs (l.length - 1) (Nat.le_refl _)
    have e2 : clB tr l = clA (isCl (nrB tr l) (frB tr l) (l.length - 1)) (l.length - 1) (l.length - 1) := by
      show clA _ _ (l.length - 1) ++ clR _ _ (l.length - 1) (l.length - 1 - (l.length - 1)) = _
      rw [Nat.sub_self]
      exact List.append_nil _
    rw [e2, ← e1]
    show clA (isCl _ _ ((w :: l.dropLast).length - 1)) ((w :: l.dropLast).length - 1) ((w :: l.dropLast).length - 1 + 1) = _
    rw [hl]
  · have hc := mem_clB.mp hx
    have c1 := hc.lt
    have c2 := hc.le
    have c3 := hc.n
    have := br.up_le (i := 0) (p := x.1) (Nat.zero_le _) (by omega)
    omega
end
end TR
namespace TR
section
variable {tr : List E2}
/-- the part that all others lie in, as stations -/
def Big (S : List (Nat × Nat)) (x : Nat × Nat) : Prop := x ∈ S ∧ ∀ y ∈ S, x.1 ≤ y.1 ∧ y.2 ≤ x.2
theorem Big.uniq {S : List (Nat × Nat)} {x y : Nat × Nat} (h : Big S x) (k : Big S y) : x = y := by
  have h1 := h.2 y k.1
  have h2 := k.2 x h.1
  exact Prod.ext (by omega) (by omega)
abbrev stE (l : List Nat) (x : Nat × Nat) : E2 := (l.getD x.1 0, l.getD x.2 0)
noncomputable def pk (tr : List E2) (l : List Nat) : Option E2 := open Classical in if h : ∃ x, Big (clB tr l) x then some (stE l h.choose) else none
theorem pk_some {l : List Nat} {x : Nat × Nat} (h : Big (clB tr l) x) : pk tr l = some (stE l x) := by
  have hx : ∃ x, Big (clB tr l) x := ⟨x, h⟩
  unfold pk
  rw [dif_pos hx, Big.uniq hx.choose_spec h]
theorem pk_none {l : List Nat} (h : clB tr l = []) : pk tr l = none := by
  unfold pk
  rw [dif_neg]
  rintro ⟨x, hx, _⟩
  rw [h] at hx
  cases hx
/-- what a climb ends with -/
theorem pk_clm (T : TreeL tr) {l : List Nat} (b : Bd tr l) {n : Nat} {r : List (Nat × Nat)} {c : Bool} (h : Clm (nrB tr l) (frB tr l) (l.length - 1) n 0 0 0 (l.length - 1) r c) : pk tr l = if c = true then none else some (stE l (lst2 (0, l.length - 1) r)) := by
  have b2 := b.two
  have br := brn_of T b
  have st : StI (nrB tr l) (frB tr l) (l.length - 1) 0 (l.length - 1) := .start (by omega)
  have si : Si (nrB tr l) (frB tr l) (l.length - 1) 0 0 0 (l.length - 1) := ⟨fun z => absurd z (by omega), fun z => absurd z (by omega)⟩
  obtain ⟨_, _, _, _, a5, _, _⟩ := clm_end br h (by omega) st si
  have all : ∀ x ∈ clB tr l, c = false ∧ (lst2 (0, l.length - 1) r).1 ≤ x.1 ∧ x.2 ≤ (lst2 (0, l.length - 1) r).2 := fun x hx => by
    have hc := mem_clB.mp hx
    exact clm_cl br hc h st (Nat.zero_le _) hc.le
  cases c with
  | true =>
    rw [if_pos rfl]
    refine pk_none ?_
    cases e : clB tr l with
    | nil => rfl
    | cons x s =>
      have := (all x (by rw [e]; exact List.mem_cons_self)).1
      cases this
  | false =>
    rw [if_neg (by decide)]
    exact pk_some ⟨mem_clB.mpr (a5 rfl).cl, fun y hy => (all y hy).2⟩
theorem pk_shf {l l' : List Nat} (e : clB tr l' = (clB tr l).map shf) (hx : ∀ x ∈ clB tr l, stE l' (shf x) = stE l x) : pk tr l' = pk tr l := by
  by_cases h : ∃ x, Big (clB tr l) x
  · obtain ⟨x, h1, h2⟩ := h
    rw [pk_some ⟨h1, h2⟩, ← hx x h1]
    refine pk_some ⟨by rw [e]; exact List.mem_map.mpr ⟨x, h1, rfl⟩, fun y hy => ?_⟩
    rw [e] at hy
    obtain ⟨z, hz, rfl⟩ := List.mem_map.mp hy
    have := h2 z hz
    exact ⟨Nat.succ_le_succ this.1, Nat.succ_le_succ this.2⟩
  · have h' : ¬ ∃ x, Big (clB tr l') x := by
      rintro ⟨x, h1, h2⟩
      rw [e] at h1
      obtain ⟨z, hz, rfl⟩ := List.mem_map.mp h1
      refine h ⟨z, hz, fun y hy => ?_⟩
      have := h2 (shf y) (by rw [e]; exact List.mem_map.mpr ⟨y, hy, rfl⟩)
      exact ⟨Nat.le_of_succ_le_succ this.1, Nat.le_of_succ_le_succ this.2⟩
    unfold pk
    rw [dif_neg h, dif_neg h']
theorem pk_move (T : TreeL tr) {l : List Nat} (b : Bd tr l) {m : Mv} (h : canM tr l m = true) : pk tr (aft l m) = pk tr l := by
  have key : ∀ {l : List Nat} (b : Bd tr l) {w : Nat}, w ∈ fre tr l true → pk tr (w :: l.dropLast) = pk tr l := fun {l} b {w} h => by
    obtain ⟨e, hx⟩ := clB_head T b h
    refine pk_shf e fun x hxm => ?_
    have h2 := hx x hxm
    have h1 := (mem_clB.mp hxm).lt
    show ((w :: l.dropLast).getD (x.1 + 1) 0, (w :: l.dropLast).getD (x.2 + 1) 0) = _
    rw [head_at (by omega), head_at h2]
  obtain ⟨e, w⟩ := m
  cases e with
  | true => exact key b (of_decide_eq_true h)
  | false =>
    obtain ⟨h1, h2⟩ := b.back T h
    obtain ⟨b', _⟩ := b.aft T h
    have := key b' (w := hd0 l) (of_decide_eq_true h1)
    have h2 : hd0 l :: (aft l (false, w)).dropLast = l := h2
    rw [h2] at this
    exact this.symm
theorem pk_run (T : TreeL tr) : ∀ (ms : List Mv) {l : List Nat}, Bd tr l → okM tr l ms = true → pk tr (endB l ms) = pk tr l
  | [], _, _, _ => rfl
  | m :: ms, l, b, h => by
    have h : (canM tr l m && okM tr (aft l m) ms) = true := h
    rw [Bool.and_eq_true] at h
    obtain ⟨c, _⟩ := b.aft T h.1
    exact (pk_run T ms c h.2).trans (pk_move T b h.1)
/-- the other way round -/
theorem rev_at {l : List Nat} {i : Nat} (h : i < l.length) : l.reverse.getD i 0 = l.getD (l.length - 1 - i) 0 := by
  rw [List.getD_eq_getElem?_getD, List.getD_eq_getElem?_getD, List.getElem?_reverse h]
end
end TR
namespace TR
section
variable {tr : List E2}
/-- two simple walks that leave a station by different neighbours make one -/
theorem sw_join (T : TreeL tr) {a s b x y : Nat} {p q : List Nat} (h1 : SW tr s a p) (h2 : SW tr s b q) (hx : p[1]? = some x) (hy : q[1]? = some y) (ne : x ≠ y) : SW tr a b (p.reverse ++ q.tail) := by
  obtain ⟨p', rfl⟩ : ∃ p', p = s :: x :: p' := by
    match p, h1.hd, hx with
    | u :: v :: p', h, k => cases h; cases k; exact ⟨p', rfl⟩
  obtain ⟨q', rfl⟩ : ∃ q', q = s :: y :: q' := by
    match q, h2.hd, hy with
    | u :: v :: q', h, k => cases h; cases k; exact ⟨q', rfl⟩
  have w1 := h1.wk.rev
  have n1 := (List.reverse_perm _).nodup_iff.mpr h1.nd
  have n2 := h2.nd
  have w2 := h2.wk
  have dis : ∀ z, z ∈ s :: x :: p' → z ∈ y :: q' → False := fun z m1 m2 => by
    by_cases c : z = s
    · subst c
      exact (List.nodup_cons.mp n2).1 m2
    · obtain ⟨i, hi⟩ := List.mem_iff_getElem?.mp m1
      obtain ⟨j, hj⟩ := List.mem_iff_getElem?.mp (List.mem_cons_of_mem s m2)
      have t1 := h1.take hi
      have t2 := h2.take hj
      have e := SW.uniq T t1 t2
      cases i with
      | zero => cases hi; exact c rfl
      | succ i =>
        cases j with
        | zero => cases hj; exact c rfl
        | succ j =>
          have := congrArg (fun l => l[1]?) e
          simp at this
          exact ne this
  refine ⟨?_, ?_, ?_, ?_⟩
  · show Wk tr ((s :: x :: p').reverse ++ (y :: q'))
    rw [List.reverse_cons] at w1 ⊢
    rw [List.append_assoc]
    exact Wk.glue w1 w2
  · show ((s :: x :: p').reverse ++ (y :: q')).Nodup
    rw [List.nodup_append]
    refine ⟨n1, (List.nodup_cons.mp n2).2, fun u hu v hv e => ?_⟩
    subst e
    exact dis u (List.mem_reverse.mp hu) hv
  · rw [List.head?_append, List.head?_reverse, h1.lt]
    rfl
  · show ((s :: x :: p').reverse ++ (y :: q')).getLast? = some b
    rw [List.getLast?_append]
    have := h2.lt
    rw [List.getLast?_cons_cons] at this
    rw [this]
    rfl
/-- a deepest way behind a station -/
theorem deep_ex (T : TreeL tr) : ∀ (n s b : Nat), dph tr s b = n → s ≤ tr.length → Adj tr s b → ∃ (p : List Nat) (a : Nat), SW tr s a p ∧ p.length = n + 1 ∧ (1 ≤ n → ∃ x, p[1]? = some x ∧ x ≠ b)
  | 0, s, b, h, hs, _ => ⟨[s], s, SW.one s, rfl, fun z => absurd z (by decide)⟩
  | n + 1, s, b, h, hs, ha => by
    rcases dph_ex T (b := b) hs with h0 | ⟨w, hw, hne, e⟩
    · omega
    · have hadj := (mem_nb T.ne).mp hw
      obtain ⟨p, a, sw, hl, hx⟩ := deep_ex T n w s (by omega) (T.adj_le hadj).2 hadj.sym
      have two : SW tr w s [w, s] := ⟨⟨hadj.sym, trivial⟩, by simpa using (T.adj_ne hadj).symm, rfl, rfl⟩
      refine ⟨s :: p, a, ?_, by rw [List.length_cons, hl], fun _ => ⟨w, ?_, hne⟩⟩
      · by_cases c : 1 ≤ n
        · obtain ⟨x, h1, h2⟩ := hx c
          have := sw_join T sw two h1 rfl h2
          have r := this.rev
          rw [show (p.reverse ++ [w, s].tail).reverse = s :: p from by simp] at r
          exact r
        · have : p = [w] := by
            have := sw.hd
            match p, hl, this with
            | [u], _, h => cases h; rfl
            | _ :: _ :: _, hl, _ => simp at hl; omega
          subst this
          cases sw.lt
          exact two.rev
      · match p, sw.hd with
        | u :: _, h => cases h; rfl
/-- a move reversed -/
theorem can_rev (T : TreeL tr) {l : List Nat} {e : Bool} {w : Nat} : canM tr l.reverse (!e, w) = canM tr l (e, w) := by
  unfold canM
  refine decide_eq_decide.mpr ?_
  rw [mem_fre T, mem_fre T, List.mem_reverse]
  cases e with
  | true =>
    show Adj tr (lt0 l.reverse) w ∧ _ ↔ Adj tr (hd0 l) w ∧ _
    rw [lt0_rev]
  | false =>
    show Adj tr (hd0 l.reverse) w ∧ _ ↔ Adj tr (lt0 l) w ∧ _
    rw [hd0_rev]
theorem aft_rev {l : List Nat} {e : Bool} {w : Nat} : aft l.reverse (!e, w) = (aft l (e, w)).reverse := by
  cases e with
  | true =>
    show l.reverse.tail ++ [w] = (w :: l.dropLast).reverse
    rw [List.reverse_cons, List.tail_reverse]
  | false =>
    show w :: l.reverse.dropLast = (l.tail ++ [w]).reverse
    rw [List.reverse_append, List.dropLast_reverse]
    rfl
/-- one body leads to another -/
def Leads (tr : List E2) (l m : List Nat) : Prop := ∃ ms, okM tr l ms = true ∧ endB l ms = m
theorem Leads.refl (l : List Nat) : Leads tr l l := ⟨[], rfl, rfl⟩
theorem Leads.trans {l m k : List Nat} (h : Leads tr l m) (g : Leads tr m k) : Leads tr l k := by
  obtain ⟨ms, h1, rfl⟩ := h
  obtain ⟨ns, g1, rfl⟩ := g
  exact ⟨ms ++ ns, by rw [okM_app, h1, g1]; rfl, endB_app ms ns l⟩
theorem Leads.one {l : List Nat} {m : Mv} (h : canM tr l m = true) : Leads tr l (aft l m) := ⟨[m], by show (canM tr l m && true) = true; rw [h]; rfl, rfl⟩
theorem leads_ind {C : List Nat → Prop} (hs : ∀ l m, C l → canM tr l m = true → C (aft l m)) : ∀ (ms : List Mv) (l : List Nat), okM tr l ms = true → C l → C (endB l ms)
  | [], _, _, h => h
  | m :: ms, l, ok, h => by
    have ok : (canM tr l m && okM tr (aft l m) ms) = true := ok
    rw [Bool.and_eq_true] at ok
    exact leads_ind hs ms (aft l m) ok.2 (hs l m h ok.1)
theorem Leads.bd (T : TreeL tr) {l m : List Nat} (h : Leads tr l m) (b : Bd tr l) : Bd tr m ∧ m.length = l.length := by
  obtain ⟨ms, ok, rfl⟩ := h
  exact leads_ind (C := fun k => Bd tr k ∧ k.length = l.length) (fun k m hk hc => ⟨(hk.1.aft T hc).1, (hk.1.aft T hc).2.trans hk.2⟩) ms l ok ⟨b, rfl⟩
theorem Leads.symm (T : TreeL tr) {l m : List Nat} (h : Leads tr l m) (b : Bd tr l) : Leads tr m l := by
  obtain ⟨ms, ok, rfl⟩ := h
  refine (leads_ind (C := fun k => Bd tr k ∧ Leads tr k l) (fun k m hk hc => ⟨(hk.1.aft T hc).1, ?_⟩) ms l ok ⟨b, .refl l⟩).2
  obtain ⟨h1, h2⟩ := hk.1.back T hc
  have := Leads.one h1
  rw [h2] at this
  exact this.trans hk.2
theorem Leads.rev (T : TreeL tr) {l m : List Nat} (h : Leads tr l m) : Leads tr l.reverse m.reverse := by
  obtain ⟨ms, ok, rfl⟩ := h
  refine leads_ind (C := fun k => Leads tr l.reverse k.reverse) (fun k m hk hc => ?_) ms l ok (.refl _)
  obtain ⟨e, w⟩ := m
  rw [← can_rev T] at hc
  have := Leads.one hc
  rw [aft_rev] at this
  exact hk.trans this
/-- the head goes along a way -/
theorem leads_ext (T : TreeL tr) {l : List Nat} (b : Bd tr l) : ∀ (q : List Nat), Wk tr (q ++ l) → (q ++ l).Nodup → Leads tr l ((q ++ l).take l.length)
  | [], _, _ => by
    rw [List.nil_append, List.take_length]
    exact .refl l
  | w :: q, hw, hn => by
    have hw' : Wk tr (q ++ l) := Wk.tail hw
    have hn' := List.nodup_cons.mp hn
    have ih := leads_ext T b q hw' hn'.2
    have ib := ih.bd T b
    have b2 := b.two
    have hne : ∃ x r, q ++ l = x :: r := by
      cases q with
      | nil =>
        obtain ⟨a, r, e, _⟩ := bd_cons b2
        exact ⟨a, r, e⟩
      | cons x q => exact ⟨x, q ++ l, rfl⟩
    obtain ⟨x, r, e⟩ := hne
    have hc : canM tr ((q ++ l).take l.length) (true, w) = true := by
      refine decide_eq_true ((mem_fre T).mpr ⟨?_, fun m => hn'.1 (List.mem_of_mem_take m)⟩)
      have h2 : Adj tr w x := by
        have hw2 : Wk tr (w :: (q ++ l)) := hw
        rw [e] at hw2
        exact hw2.1
      show Adj tr (hd0 ((q ++ l).take l.length)) w
      rw [e]
      obtain ⟨k, hk⟩ : ∃ k, l.length = k + 1 := ⟨l.length - 1, by omega⟩
      rw [hk]
      exact h2.sym
    have := ih.trans (.one hc)
    have e2 : aft ((q ++ l).take l.length) (true, w) = (w :: q ++ l).take l.length := by
      show w :: ((q ++ l).take l.length).dropLast = _
      obtain ⟨k, hk⟩ : ∃ k, l.length = k + 1 := ⟨l.length - 1, by omega⟩
      rw [hk]
      show w :: ((q ++ l).take (k + 1)).dropLast = w :: (q ++ l).take k
      have ll : (q ++ l).length = q.length + l.length := List.length_append
      rw [List.dropLast_eq_take, List.length_take, List.take_take, show min (min (k + 1) (q ++ l).length - 1) (k + 1) = k from by omega]
    rw [e2] at this
    exact this
/-- .. and so far that the way is made -/
theorem leads_way (T : TreeL tr) {l : List Nat} (b : Bd tr l) {p : List Nat} {a x y : Nat} (h : SW tr (hd0 l) a p) (hx : p[1]? = some x) (hy : l[1]? = some y) (ne : x ≠ y) : Leads tr l ((p.tail.reverse ++ l).take l.length) := by
  have j := sw_join T h b.sw hx hy ne
  have e : p.reverse ++ l.tail = p.tail.reverse ++ l := by
    obtain ⟨u, r, e2, _⟩ := bd_cons b.two
    subst e2
    match p, h.hd with
    | v :: p', hh =>
      have : v = u := Option.some.inj hh
      subst this
      simp
  rw [e] at j
  exact leads_ext T b _ j.wk j.nd
end
end TR
namespace TR
section
variable {tr : List E2}
/-- a body of the class that begins with a part of the body, that ends with it -/
def WF (tr : List E2) (l : List Nat) (i j : Nat) : Prop := ∃ m, Leads tr l m ∧ m.take (j - i + 1) = prt l i j
def WT (tr : List E2) (l : List Nat) (i j : Nat) : Prop := ∃ m, Leads tr l m ∧ m.drop (l.length - (j - i + 1)) = prt l i j
theorem prt_rev {l : List Nat} {i j : Nat} (h1 : i < j) (h2 : j < l.length) : prt l.reverse (l.length - 1 - j) (l.length - 1 - i) = (prt l i j).reverse := by
  refine List.ext_getElem? fun k => ?_
  by_cases c : k < j - i + 1
  · have h3 : (prt l i j).length = j - i + 1 := prt_len h1 h2
    rw [prt_at (by omega), List.getElem?_reverse (by omega), List.getElem?_reverse (by omega), h3, prt_at (by omega)]
    congr 1
    omega
  · rw [List.getElem?_eq_none (by rw [prt_len (by omega) (by rw [List.length_reverse]; omega)]; omega), List.getElem?_eq_none (by rw [List.length_reverse, prt_len h1 h2]; omega)]
theorem nrB_rev {l : List Nat} {i : Nat} (h : i + 1 < l.length) : nrB tr l.reverse i = frB tr l (l.length - 1 - i) := by
  unfold nrB frB
  rw [rev_at (by omega), rev_at (by omega), show l.length - 1 - (i + 1) = l.length - 1 - i - 1 by omega]
theorem frB_rev {l : List Nat} {j : Nat} (h1 : 1 ≤ j) (h : j < l.length) : frB tr l.reverse j = nrB tr l (l.length - 1 - j) := by
  unfold nrB frB
  rw [rev_at (by omega), rev_at (by omega), show l.length - 1 - (j - 1) = l.length - 1 - j + 1 by omega]
theorem wt_of_rev (T : TreeL tr) {l : List Nat} (b : Bd tr l) {i j : Nat} (h1 : i < j) (h2 : j < l.length) (h : WF tr l.reverse (l.length - 1 - j) (l.length - 1 - i)) : WT tr l i j := by
  obtain ⟨m, hm, e⟩ := h
  have hl := (hm.bd T b.rev).2
  rw [List.length_reverse] at hl
  have hr := hm.rev T
  rw [List.reverse_reverse] at hr
  refine ⟨m.reverse, hr, ?_⟩
  rw [prt_rev h1 h2] at e
  rw [List.drop_reverse, hl, show l.length - (l.length - (j - i + 1)) = (l.length - 1 - i) - (l.length - 1 - j) + 1 by omega, e, List.reverse_reverse]
theorem wf_of_rev (T : TreeL tr) {l : List Nat} (b : Bd tr l) {i j : Nat} (h1 : i < j) (h2 : j < l.length) (h : WT tr l.reverse (l.length - 1 - j) (l.length - 1 - i)) : WF tr l i j := by
  have b2 := b.two
  have := wt_of_rev T b.rev (i := l.length - 1 - j) (j := l.length - 1 - i) (by omega) (by rw [List.length_reverse]; omega)
  obtain ⟨m, hm, e⟩ := h
  have hl := (hm.bd T b.rev).2
  rw [List.length_reverse] at hl e
  have hr := hm.rev T
  rw [List.reverse_reverse] at hr
  refine ⟨m.reverse, hr, ?_⟩
  rw [prt_rev h1 h2] at e
  rw [List.take_reverse, hl, show l.length - (j - i + 1) = l.length - (l.length - 1 - i - (l.length - 1 - j) + 1) by omega, e, List.reverse_reverse]
theorem rev_wf (T : TreeL tr) {l : List Nat} (b : Bd tr l) {i j : Nat} (h1 : i < j) (h2 : j < l.length) (h : WT tr l i j) : WF tr l.reverse (l.length - 1 - j) (l.length - 1 - i) := by
  have b2 := b.two
  refine wf_of_rev T b.rev (by omega) (by rw [List.length_reverse]; omega) ?_
  rw [List.length_reverse, List.reverse_reverse, show l.length - 1 - (l.length - 1 - i) = i by omega, show l.length - 1 - (l.length - 1 - j) = j by omega]
  exact h
/-- the head of such a body, and the station behind it -/
theorem wf_at {l m : List Nat} {i j : Nat} (h1 : i < j) (h2 : j < l.length) (e : m.take (j - i + 1) = prt l i j) : m[0]? = some (l.getD i 0) ∧ m[1]? = some (l.getD (i + 1) 0) := by
  have key : ∀ k, k < j - i + 1 → m[k]? = some (l.getD (i + k) 0) := fun k hk => by
    have := congrArg (fun z => z[k]?) e
    rw [List.getElem?_take, if_pos hk, prt_at (by omega), gD (l := l) (i := i + k) (by omega)] at this
    exact this
  exact ⟨key 0 (by omega), key 1 (by omega)⟩
/-- a deep way before the head -/
theorem wf_deep (T : TreeL tr) {l : List Nat} (b : Bd tr l) {i j : Nat} (h1 : i < j) (h2 : j < l.length) (h : WF tr l i j) {f : Nat} (hf : f ≤ nrB tr l i) (h0 : 1 ≤ f) :
    ∃ (m p : List Nat) (a x : Nat), Leads tr l m ∧ m.take (j - i + 1) = prt l i j ∧ SW tr (l.getD i 0) a p ∧ p.length = f + 1 ∧ p[1]? = some x ∧ x ≠ l.getD (i + 1) 0 ∧ Leads tr l ((p.tail.reverse ++ m).take l.length) := by
  obtain ⟨m, hm, e⟩ := h
  obtain ⟨e0, e1⟩ := wf_at h1 h2 e
  obtain ⟨bm, ml⟩ := hm.bd T b
  have hh : hd0 m = l.getD i 0 := by
    unfold hd0
    rw [List.headD_eq_head?_getD, List.head?_eq_getElem?, e0]
    rfl
  have g0 := gD (l := l) (i := i) (by omega)
  have g1 := gD (l := l) (i := i + 1) (by omega)
  have ha := wk_at b.sw.wk g0 g1
  have hs : l.getD i 0 ≤ tr.length := (T.adj_le ha).1
  obtain ⟨p, a, sw, hl, hx⟩ := deep_ex T (nrB tr l i) (l.getD i 0) (l.getD (i + 1) 0) rfl hs ha
  obtain ⟨x, hx1, hx2⟩ := hx (by omega)
  have gf : ∃ z, p[f]? = some z := ⟨_, List.getElem?_eq_getElem (by omega)⟩
  obtain ⟨z, hz⟩ := gf
  have sf := sw.take hz
  have lf : (p.take (f + 1)).length = f + 1 := by rw [List.length_take]; omega
  have xf : (p.take (f + 1))[1]? = some x := by rw [List.getElem?_take, if_pos (by omega)]; exact hx1
  have := leads_way T bm (by rw [hh]; exact sf) xf e1 hx2
  rw [ml] at this
  exact ⟨m, p.take (f + 1), z, x, hm, e, sf, lf, xf, hx2, hm.trans this⟩
theorem wf_less {l : List Nat} {i j k : Nat} (h1 : i < k) (h2 : k ≤ j) (h : WF tr l i j) : WF tr l i k := by
  obtain ⟨m, hm, e⟩ := h
  refine ⟨m, hm, ?_⟩
  have := congrArg (fun z => z.take (k - i + 1)) e
  rw [List.take_take, Nat.min_eq_left (by omega), prt_take h2 (by omega)] at this
  exact this
/-- the front side's turn -/
theorem wt_front (T : TreeL tr) {l : List Nat} (b : Bd tr l) {i j : Nat} (st : StI (nrB tr l) (frB tr l) (l.length - 1) i j) (hn : nrB tr l i < l.length - 1) (h : WF tr l i j) : WT tr l i (i + (l.length - 1) - nrB tr l i) := by
  have b2 := b.two
  have h1 := st.lt
  have h2 := st.le
  obtain ⟨s2, le, _⟩ := st.front (brn_of T b) hn
  have lt2 := s2.lt
  have h' := wf_less lt2 le h
  by_cases c : 1 ≤ nrB tr l i
  · obtain ⟨m, p, a, x, hm, e, sw, hl, _, _, hk⟩ := wf_deep T b lt2 (by omega) h' (Nat.le_refl _) c
    have ml := (hm.bd T b).2
    refine ⟨_, hk, ?_⟩
    have lp : p.tail.reverse.length = nrB tr l i := by rw [List.length_reverse, List.length_tail, hl]; rfl
    rw [show l.length - (i + (l.length - 1) - nrB tr l i - i + 1) = nrB tr l i by omega, List.drop_take, List.drop_append_of_le_length (by omega), List.drop_of_length_le (by omega), List.nil_append]
    rw [← e]
    congr 1
    omega
  · obtain ⟨m, hm, e⟩ := h'
    have ml := (hm.bd T b).2
    refine ⟨m, hm, ?_⟩
    have i0 : i = 0 := by omega
    subst i0
    rw [show l.length - (0 + (l.length - 1) - nrB tr l 0 - 0 + 1) = 0 by omega, List.drop_zero, ← e, List.take_of_length_le (by omega)]
theorem st_rev (T : TreeL tr) {l : List Nat} (b : Bd tr l) {i j : Nat} (st : StI (nrB tr l) (frB tr l) (l.length - 1) i j) : StI (nrB tr l.reverse) (frB tr l.reverse) (l.reverse.length - 1) (l.length - 1 - j) (l.length - 1 - i) := by
  have b2 := b.two
  have h1 := st.lt
  have h2 := st.le
  have h3 := st.n
  have h4 := st.f
  refine ⟨by omega, by rw [List.length_reverse]; omega, ?_, ?_⟩
  · rw [List.length_reverse, nrB_rev (by omega), show l.length - 1 - (l.length - 1 - j) = j by omega]
    omega
  · rw [List.length_reverse, frB_rev (by omega) (by omega), show l.length - 1 - (l.length - 1 - i) = i by omega]
    omega
theorem wf_rear (T : TreeL tr) {l : List Nat} (b : Bd tr l) {i j : Nat} (st : StI (nrB tr l) (frB tr l) (l.length - 1) i j) (hn : frB tr l j < l.length - 1) (h : WT tr l i j) : WF tr l (j + frB tr l j - (l.length - 1)) j := by
  have b2 := b.two
  have h1 := st.lt
  have h2 := st.le
  obtain ⟨s2, le, _⟩ := st.rear (brn_of T b) hn
  have lt2 := s2.lt
  have hr := rev_wf T b h1 (by omega) h
  have e1 : nrB tr l.reverse (l.length - 1 - j) = frB tr l j := by rw [nrB_rev (by omega), show l.length - 1 - (l.length - 1 - j) = j by omega]
  have := wt_front T b.rev (st_rev T b st) (by rw [e1, List.length_reverse]; exact hn) hr
  rw [e1, List.length_reverse] at this
  refine wf_of_rev T b lt2 (by omega) ?_
  rw [show l.length - 1 - (j + frB tr l j - (l.length - 1)) = l.length - 1 - j + (l.length - 1) - frB tr l j by omega]
  exact this
theorem wt_less {l : List Nat} {i j k : Nat} (h1 : i ≤ k) (h2 : k < j) (hj : j < l.length) (hl : j - i + 1 ≤ l.length) (h : WT tr l i j) : WT tr l k j := by
  obtain ⟨m, hm, e⟩ := h
  refine ⟨m, hm, ?_⟩
  have := congrArg (fun z => z.drop (k - i)) e
  rw [List.drop_drop, prt_drop (by omega), show i + (k - i) = k by omega] at this
  rw [← this]
  congr 1
  omega
/-- all parts of a climb are found in the class -/
theorem prg_wf (T : TreeL tr) {l : List Nat} (b : Bd tr l) {n i j : Nat} {r : List (Nat × Nat)} (h : Prg (nrB tr l) (frB tr l) (l.length - 1) n i j r) : StI (nrB tr l) (frB tr l) (l.length - 1) i j → WF tr l i j → WT tr l i j → WF tr l (lst2 (i, j) r).1 (lst2 (i, j) r).2 ∧ WT tr l (lst2 (i, j) r).1 (lst2 (i, j) r).2 := by
  have b2 := b.two
  induction h with
  | loose _ => exact fun _ h1 h2 => ⟨h1, h2⟩
  | fixed _ _ _ _ => exact fun _ h1 h2 => ⟨h1, h2⟩
  | @front n i j r n1 n2 n3 q ih =>
    intro st h1 h2
    obtain ⟨s2, le, _⟩ := st.front (brn_of T b) n1
    have lt2 := s2.lt
    rw [lst2_cons]
    exact ih s2 (wf_less lt2 le h1) (wt_front T b st n1 h1)
  | @rear n i j r n1 n2 n3 n4 q ih =>
    intro st h1 h2
    obtain ⟨s2, le, _⟩ := st.rear (brn_of T b) n2
    have lt2 := s2.lt
    have h3 := st.lt
    have h4 := st.le
    rw [lst2_cons]
    exact ih s2 (wf_rear T b st n2 h2) (wt_less le lt2 (by omega) (by omega) h2)
theorem wf_all {l : List Nat} (h : 2 ≤ l.length) : WF tr l 0 (l.length - 1) ∧ WT tr l 0 (l.length - 1) := by
  refine ⟨⟨l, .refl l, ?_⟩, ⟨l, .refl l, ?_⟩⟩
  · rw [prt_all h, List.take_of_length_le (by omega)]
  · rw [prt_all h, show l.length - (l.length - 1 - 0 + 1) = 0 by omega, List.drop_zero]
end
end TR
namespace TR
section
variable {tr : List E2}
/-- what is found at the end of a climb -/
theorem pk_cases (T : TreeL tr) {l : List Nat} (b : Bd tr l) :
    (pk tr l = none ∧ ∃ i j, StI (nrB tr l) (frB tr l) (l.length - 1) i j ∧ WF tr l i j ∧ WT tr l i j ∧ (l.length - 1 ≤ nrB tr l i ∨ l.length - 1 ≤ frB tr l j)) ∨
    ∃ p q, pk tr l = some (l.getD p 0, l.getD q 0) ∧ Fx (nrB tr l) (frB tr l) (l.length - 1) p q ∧ WF tr l p q ∧ WT tr l p q := by
  have b2 := b.two
  have br := brn_of T b
  have st0 : StI (nrB tr l) (frB tr l) (l.length - 1) 0 (l.length - 1) := .start (by omega)
  obtain ⟨n0, r, c, cm⟩ := clm_ex br (3 * (l.length - 1) + 2) 0 0 0 (l.length - 1) st0 (by decide) (by omega)
  have si : Si (nrB tr l) (frB tr l) (l.length - 1) 0 0 0 (l.length - 1) := ⟨fun z => absurd z (by omega), fun z => absurd z (by omega)⟩
  obtain ⟨a1, _, _, _, a5, a6, _⟩ := clm_end br cm (by decide) st0 si
  obtain ⟨n2, pg⟩ := clm_prg br cm (by decide) st0 ⟨fun z => absurd rfl z, fun _ z => absurd z (by decide), fun z => absurd z (by decide)⟩
  have e := pk_clm T b cm
  obtain ⟨w1, w2⟩ := prg_wf T b pg st0 (wf_all b2).1 (wf_all b2).2
  cases c with
  | true =>
    rw [if_pos rfl] at e
    exact .inl ⟨e, _, _, a1, w1, w2, a6 rfl⟩
  | false =>
    rw [if_neg (by decide)] at e
    exact .inr ⟨_, _, e, a5 rfl, w1, w2⟩
/-- a deepest way, by choice -/
noncomputable def dpw (tr : List E2) (s b : Nat) : List Nat := open Classical in if h : ∃ (p : List Nat) (a : Nat), SW tr s a p ∧ p.length = dph tr s b + 1 ∧ (1 ≤ dph tr s b → ∃ x, p[1]? = some x ∧ x ≠ b) then h.choose else []
theorem dpw_spec (T : TreeL tr) {s b : Nat} (hs : s ≤ tr.length) (ha : Adj tr s b) : ∃ a : Nat, SW tr s a (dpw tr s b) ∧ (dpw tr s b).length = dph tr s b + 1 ∧ (1 ≤ dph tr s b → ∃ x, (dpw tr s b)[1]? = some x ∧ x ≠ b) := by
  have h : ∃ (p : List Nat) (a : Nat), SW tr s a p ∧ p.length = dph tr s b + 1 ∧ (1 ≤ dph tr s b → ∃ x, p[1]? = some x ∧ x ≠ b) := deep_ex T _ s b rfl hs ha
  unfold dpw
  rw [dif_pos h]
  exact h.choose_spec
/-- the standing of a class that its pocket tells -/
noncomputable def canP (tr : List E2) (u v : Nat) : List Nat := (dpw tr u ((pl tr u v).getD 1 0)).tail.reverse ++ pl tr u v
theorem prt_pl (T : TreeL tr) {l : List Nat} (b : Bd tr l) {i j : Nat} (h1 : i < j) (h2 : j < l.length) : prt l i j = pl tr (l.getD i 0) (l.getD j 0) := by
  have r := prt_bd T b h1 h2
  have := r.bd.sw
  rw [r.h, r.t] at this
  exact (pl_eq T this).symm
theorem pk_canP (T : TreeL tr) {l : List Nat} (b : Bd tr l) {u v : Nat} (h : pk tr l = some (u, v)) : Leads tr l (canP tr u v) := by
  have b2 := b.two
  rcases pk_cases T b with ⟨e, _⟩ | ⟨p, q, e, fx, w1, _⟩
  · rw [e] at h
    cases h
  · rw [e] at h
    have h := Option.some.inj h
    have eu : l.getD p 0 = u := (Prod.mk.inj h).1
    have ev : l.getD q 0 = v := (Prod.mk.inj h).2
    have f1 := fx.lt
    have f2 := fx.le
    have f3 := fx.n
    obtain ⟨m, hm, em⟩ := w1
    obtain ⟨bm, ml⟩ := hm.bd T b
    obtain ⟨m0, m1⟩ := wf_at f1 (by omega) em
    have ep := prt_pl T b f1 (by omega : q < l.length)
    rw [eu, ev] at ep
    have e1 : (pl tr u v).getD 1 0 = l.getD (p + 1) 0 := by
      rw [← ep]
      refine gD_of ?_
      rw [prt_at (by omega)]
      exact gD (by omega)
    have g0 := gD (l := l) (i := p) (by omega)
    have g1 := gD (l := l) (i := p + 1) (by omega)
    have ha := wk_at b.sw.wk g0 g1
    obtain ⟨a, sw, hl, hx⟩ := dpw_spec T (T.adj_le ha).1 ha
    have hh : hd0 m = l.getD p 0 := by
      unfold hd0
      rw [List.headD_eq_head?_getD, List.head?_eq_getElem?, m0]
      rfl
    unfold canP
    rw [e1, ← ep, ← eu, ← em]
    have en : dph tr (l.getD p 0) (l.getD (p + 1) 0) = nrB tr l p := rfl
    rw [en] at hl hx
    generalize dpw tr (l.getD p 0) (l.getD (p + 1) 0) = d at sw hl hx ⊢
    clear en e1 ep eu ev e
    generalize nrB tr l p = f at *
    by_cases c : 1 ≤ f
    · obtain ⟨x, hx1, hx2⟩ := hx c
      clear hx
      have k := leads_way T bm (by rw [hh]; exact sw) hx1 m1 hx2
      have lp : d.tail.reverse.length = f := by rw [List.length_reverse, List.length_tail, hl]; rfl
      have e2 : (d.tail.reverse ++ m).take m.length = d.tail.reverse ++ m.take (q - p + 1) := by
        rw [List.take_append, List.take_of_length_le (by omega), lp]
        congr 2
        omega
      rw [e2] at k
      exact hm.trans k
    · clear hx
      have : d = [l.getD p 0] := by
        have := sw.hd
        match d, hl, this with
        | [y], _, h => cases h; rfl
        | [], hl, _ => simp at hl
        | _ :: _ :: _, hl, _ => simp at hl; omega
      rw [this]
      show Leads tr l ([] ++ m.take (q - p + 1))
      rw [List.nil_append, List.take_of_length_le (by omega)]
      exact hm
/-- two bodies of one length with one pocket -/
theorem pk_leads (T : TreeL tr) {l m : List Nat} (b : Bd tr l) (c : Bd tr m) {u v : Nat} (h : pk tr l = some (u, v)) (k : pk tr m = some (u, v)) : Leads tr l m :=
  (pk_canP T b h).trans ((pk_canP T c k).symm T c)
theorem pk_class (T : TreeL tr) {l m : List Nat} (b : Bd tr l) (h : Leads tr l m) : pk tr m = pk tr l := by
  obtain ⟨ms, ok, rfl⟩ := h
  exact pk_run T ms b ok
/-- the pocket lies on all bodies of a class, and only it -/
theorem pk_common (T : TreeL tr) {l : List Nat} (b : Bd tr l) {u v : Nat} (h : pk tr l = some (u, v)) : ∃ p q, p < q ∧ q < l.length ∧ l.getD p 0 = u ∧ l.getD q 0 = v ∧ (∀ z, (∀ m, Leads tr l m → z ∈ m) ↔ z ∈ prt l p q) ∧ (∃ m, Leads tr l m ∧ hd0 m = u) ∧ ∃ m, Leads tr l m ∧ lt0 m = v := by
  have b2 := b.two
  rcases pk_cases T b with ⟨e, _⟩ | ⟨p, q, e, fx, w1, w2⟩
  · rw [e] at h
    cases h
  · rw [e] at h
    have h := Option.some.inj h
    have eu : l.getD p 0 = u := (Prod.mk.inj h).1
    have ev : l.getD q 0 = v := (Prod.mk.inj h).2
    have f1 := fx.lt
    have f2 := fx.le
    obtain ⟨m, hm, em⟩ := w1
    obtain ⟨k, hk, ek⟩ := w2
    obtain ⟨bm, ml⟩ := hm.bd T b
    obtain ⟨bk, kl⟩ := hk.bd T b
    have ep := prt_pl T b f1 (by omega : q < l.length)
    have hpr := prt_len f1 (show q < l.length by omega)
    have rp := prt_bd T b f1 (show q < l.length by omega)
    have hh : hd0 m = u := by
      obtain ⟨m0, _⟩ := wf_at f1 (by omega) em
      unfold hd0
      rw [List.headD_eq_head?_getD, List.head?_eq_getElem?, m0, ← eu]
      rfl
    have ht : lt0 k = v := by
      have e0 : k = k.take (l.length - (q - p + 1)) ++ prt l p q := by rw [← ek, List.take_append_drop]
      unfold lt0
      rw [e0, List.getLastD_eq_getLast?, List.getLast?_append, rp.bd.sw.lt, rp.t, ← ev]
      rfl
    refine ⟨p, q, f1, by omega, eu, ev, fun z => ⟨fun hz => ?_, fun hz m' hm' => ?_⟩, ⟨m, hm, hh⟩, ⟨k, hk, ht⟩⟩
    · refine Classical.byContradiction fun nz => ?_
      have z1 := hz m hm
      have z2 := hz k hk
      have em' : m = prt l p q ++ m.drop (q - p + 1) := by rw [← em, List.take_append_drop]
      have ek' : k = k.take (l.length - (q - p + 1)) ++ prt l p q := by rw [← ek, List.take_append_drop]
      have d1 : z ∈ m.drop (q - p + 1) := by
        rw [em'] at z1
        rcases List.mem_append.mp z1 with h | h
        · exact absurd h nz
        · exact h
      have d2 : z ∈ k.take (l.length - (q - p + 1)) := by
        rw [ek'] at z2
        rcases List.mem_append.mp z2 with h | h
        · exact h
        · exact absurd h nz
      obtain ⟨i, hi⟩ := List.mem_iff_getElem?.mp d1
      obtain ⟨j, hj⟩ := List.mem_iff_getElem?.mp d2
      have jl := (List.getElem?_eq_some_iff.mp hj).1
      rw [List.length_take] at jl
      rw [List.getElem?_drop] at hi
      rw [List.getElem?_take, if_pos (by omega)] at hj
      -- u .. v .. z, and z .. u .. v
      have mq : m[q - p]? = some v := by
        rw [em', List.getElem?_append_left (by omega), prt_at (by omega), show p + (q - p) = q by omega, gD (by omega), ev]
      have m0 := sw_at0 bm.sw
      rw [hh] at m0
      have ku : k[l.length - (q - p + 1)]? = some u := by
        rw [ek', List.getElem?_append_right (by rw [List.length_take]; omega), List.length_take, show l.length - (q - p + 1) - min (l.length - (q - p + 1)) k.length = 0 by omega, prt_at (by omega), Nat.add_zero, gD (by omega), eu]
      have kv : k[l.length - 1]? = some v := by
        have := sw_atl bk.sw
        rw [ht, kl] at this
        exact this
      -- v to z in m
      have s1 := (bm.sw.take hi).drop (show (m.take (q - p + 1 + i + 1))[q - p]? = some v by rw [List.getElem?_take, if_pos (by omega)]; exact mq)
      -- z to v in k
      have s2 := (bk.sw.take kv).drop (show (k.take (l.length - 1 + 1))[j]? = some z by rw [List.getElem?_take, if_pos (by omega)]; exact hj)
      have e3 := SW.uniq T s1 s2.rev
      have hu : u ∈ (m.take (q - p + 1 + i + 1)).drop (q - p) := by
        rw [e3, List.mem_reverse]
        refine List.mem_iff_getElem?.mpr ⟨l.length - (q - p + 1) - j, ?_⟩
        rw [List.getElem?_drop, List.getElem?_take, if_pos (by omega), show j + (l.length - (q - p + 1) - j) = l.length - (q - p + 1) by omega]
        exact ku
      obtain ⟨w, hw⟩ := List.mem_iff_getElem?.mp hu
      rw [List.getElem?_drop, List.getElem?_take] at hw
      split at hw
      · exact sw_ne bm.sw m0 hw (by omega) rfl
      · cases hw
    · obtain ⟨b', l'⟩ := hm'.bd T b
      have b2' := b'.two
      have e' := pk_class T b hm'
      rw [e] at e'
      rcases pk_cases T b' with ⟨e2, _⟩ | ⟨p', q', e2, fx', _⟩
      · rw [e2] at e'
        cases e'
      · rw [e2] at e'
        have e' := Option.some.inj e'
        have f1' := fx'.lt
        have f2' := fx'.le
        have ep' := prt_pl T b' f1' (by omega : q' < m'.length)
        rw [(Prod.mk.inj e').1, (Prod.mk.inj e').2, ← ep] at ep'
        rw [← ep'] at hz
        unfold prt at hz
        exact List.mem_of_mem_drop (List.mem_of_mem_take hz)
/-- a free body's class has two bodies with at most one station in common -/
theorem free_apart (T : TreeL tr) {l : List Nat} (b : Bd tr l) (h : pk tr l = none) : ∃ m k s, Leads tr l m ∧ Leads tr l k ∧ ∀ z, z ∈ m → z ∈ k → z = s := by
  have key : ∀ {l : List Nat}, Bd tr l → ∀ {i j : Nat}, StI (nrB tr l) (frB tr l) (l.length - 1) i j → WF tr l i j → l.length - 1 ≤ nrB tr l i → ∃ m k s, Leads tr l m ∧ Leads tr l k ∧ ∀ z, z ∈ m → z ∈ k → z = s := by
    intro l b i j st w hn
    have b2 := b.two
    have h1 := st.lt
    have h2 := st.le
    obtain ⟨m, p, a, x, hm, e, sw, hl, hx, ne, hk⟩ := wf_deep T b h1 (by omega) w (f := l.length - 1) hn (by omega)
    obtain ⟨bm, ml⟩ := hm.bd T b
    obtain ⟨m0, m1⟩ := wf_at h1 (by omega) e
    have hh : hd0 m = l.getD i 0 := by
      unfold hd0
      rw [List.headD_eq_head?_getD, List.head?_eq_getElem?, m0]
      rfl
    refine ⟨m, _, l.getD i 0, hm, hk, fun z z1 z2 => ?_⟩
    have sm := bm.sw
    rw [hh] at sm
    have j := sw_join T sw sm hx m1 ne
    have lp : p.tail.reverse.length = l.length - 1 := by rw [List.length_reverse, List.length_tail, hl]; rfl
    have z2' := z2
    rw [List.take_append, List.take_of_length_le (by omega), lp, show l.length - (l.length - 1) = 1 by omega] at z2
    rcases List.mem_append.mp z2 with z2 | z2
    · have nd := j.nd
      rw [List.nodup_append] at nd
      obtain ⟨y, r, em, _⟩ := bd_cons bm.two
      have hy : y = l.getD i 0 := by
        rw [em] at m0
        exact Option.some.inj m0
      rw [em] at z1
      rcases List.mem_cons.mp z1 with rfl | z1
      · exact hy
      · refine absurd rfl (nd.2.2 z (List.mem_reverse.mpr (List.mem_of_mem_tail (List.mem_reverse.mp z2))) z ?_)
        rw [em]
        exact z1
    · obtain ⟨y, r, em, _⟩ := bd_cons bm.two
      rw [em] at z2 m0
      have : z = y := by simpa using z2
      rw [this]
      exact Option.some.inj m0
  rcases pk_cases T b with ⟨_, i, j, st, w1, w2, hn | hf⟩ | ⟨p, q, e, _⟩
  · exact key b st w1 hn
  · have b2 := b.two
    have h1 := st.lt
    have h2 := st.le
    have e1 : nrB tr l.reverse (l.length - 1 - j) = frB tr l j := by rw [nrB_rev (by omega), show l.length - 1 - (l.length - 1 - j) = j by omega]
    obtain ⟨m, k, s, hm, hk, hz⟩ := key b.rev (st_rev T b st) (rev_wf T b h1 (by omega) w2) (by rw [e1, List.length_reverse]; exact hf)
    have hm := hm.rev T
    have hk := hk.rev T
    rw [List.reverse_reverse] at hm hk
    exact ⟨_, _, s, hm, hk, fun z z1 z2 => hz z (List.mem_reverse.mp z1) (List.mem_reverse.mp z2)⟩
  · rw [e] at h
    cases h
end
end TR
namespace TR
section
variable {tr : List E2}
/-- the ends of a body -/
def endsB (m : List Nat) : E2 := (hd0 m, lt0 m)
theorem ends_inj (T : TreeL tr) {m k : List Nat} (b : Bd tr m) (c : Bd tr k) (h : endsB m = endsB k) : m = k := b.eq T c (Prod.mk.inj h).1 (Prod.mk.inj h).2
theorem prs_le {n : Nat} : ∀ {es : List E2}, es.Nodup → (∀ e ∈ es, e.1 ≤ n ∧ e.2 ≤ n) → es.length ≤ (n + 1) * (n + 1) := fun {es} nd h => by
  have hb : ∀ x ∈ es.map (fun e => e.1 * (n + 1) + e.2), x ≤ (n + 1) * (n + 1) - 1 := fun x hx => by
    obtain ⟨e, he, rfl⟩ := List.mem_map.mp hx
    obtain ⟨h1, h2⟩ := h e he
    have : e.1 * (n + 1) ≤ n * (n + 1) := Nat.mul_le_mul_right _ h1
    have e2 : (n + 1) * (n + 1) = n * (n + 1) + (n + 1) := Nat.succ_mul n (n + 1)
    omega
  have hn : (es.map (fun e => e.1 * (n + 1) + e.2)).Nodup := by
    rw [List.nodup_iff_pairwise_ne, List.pairwise_map]
    refine (List.nodup_iff_pairwise_ne.mp nd).imp_of_mem fun {a b} ha hb ne z => ne ?_
    obtain ⟨a1, a2⟩ := h a ha
    obtain ⟨b1, b2⟩ := h b hb
    have d1 := congrArg (· / (n + 1)) z
    have d2 := congrArg (· % (n + 1)) z
    simp only [Nat.mul_add_mod_of_lt (Nat.lt_succ_of_le a2), Nat.mul_add_mod_of_lt (Nat.lt_succ_of_le b2)] at d2
    have q1 : (a.1 * (n + 1) + a.2) / (n + 1) = a.1 := by
      rw [Nat.mul_comm, Nat.mul_add_div (by omega), Nat.div_eq_of_lt (by omega)]
      rfl
    have q2 : (b.1 * (n + 1) + b.2) / (n + 1) = b.1 := by
      rw [Nat.mul_comm, Nat.mul_add_div (by omega), Nat.div_eq_of_lt (by omega)]
      rfl
    simp only [q1, q2] at d1
    exact Prod.ext d1 d2
  have := nd_len hn hb
  rw [List.length_map] at this
  have p : 0 < (n + 1) * (n + 1) := Nat.mul_pos (by omega) (by omega)
  omega
theorem bodies_le (T : TreeL tr) {bs : List (List Nat)} (nd : bs.Nodup) (hb : ∀ m ∈ bs, Bd tr m) : bs.length ≤ (tr.length + 1) * (tr.length + 1) := by
  have := prs_le (n := tr.length) (es := bs.map endsB) ?_ ?_
  · rw [List.length_map] at this
    exact this
  · rw [List.nodup_iff_pairwise_ne, List.pairwise_map]
    exact (List.nodup_iff_pairwise_ne.mp nd).imp_of_mem fun {a b} ha hbb ne z => ne (ends_inj T (hb a ha) (hb b hbb) z)
  · intro e he
    obtain ⟨m, hm, rfl⟩ := List.mem_map.mp he
    exact ⟨(hb m hm).hle, (hb m hm).lle⟩
end
end TR
namespace TR
section
variable {tr : List E2}
/-- the station before the tail -/
theorem nx_pen (T : TreeL tr) {l : List Nat} (b : Bd tr l) : SW tr (hd0 l) (lt0 l.dropLast) l.dropLast ∧ Adj tr (lt0 l) (lt0 l.dropLast) := by
  obtain ⟨r, z, e, hr⟩ := bd_snoc b.two
  have ez : lt0 l = z := by rw [e, lt0_snoc]
  have s := b.sw
  rw [ez] at s ⊢
  rw [e] at s ⊢
  rw [List.dropLast_concat]
  obtain ⟨r', x, e2⟩ : ∃ r' x, r = r' ++ [x] := ⟨r.dropLast, r.getLast hr, (List.dropLast_concat_getLast hr).symm⟩
  have ex : lt0 r = x := by rw [e2, lt0_snoc]
  rw [ex]
  constructor
  · refine ⟨wk_init s.wk, (List.nodup_append.mp s.nd).1, ?_, by rw [e2]; simp⟩
    have := s.hd
    rw [List.head?_append] at this
    obtain ⟨y, r2, e3⟩ := List.exists_cons_of_ne_nil hr
    rw [e3] at this ⊢
    exact this
  · have s2 := s
    rw [e2, List.append_assoc] at s2
    have := (SW.part (l := r') (w := x) (r := [z]) s2).wk.1
    exact this.sym
/-- the ends after a move -/
theorem ends_head {l : List Nat} (h : 2 ≤ l.length) (w : Nat) : endsB (aft l (true, w)) = (w, lt0 l.dropLast) := by
  obtain ⟨r, z, e, hr⟩ := bd_snoc h
  unfold endsB aft
  rw [if_pos rfl, e, List.dropLast_concat]
  refine Prod.ext rfl ?_
  show lt0 (w :: r) = lt0 r
  obtain ⟨r', x, e2⟩ : ∃ r' x, r = r' ++ [x] := ⟨r.dropLast, r.getLast hr, (List.dropLast_concat_getLast hr).symm⟩
  rw [e2, lt0_snoc, ← List.cons_append, lt0_snoc]
theorem ends_tail {l : List Nat} (h : 2 ≤ l.length) (w : Nat) : endsB (aft l (false, w)) = (hd0 l.tail, w) := by
  obtain ⟨x, r, e, hr⟩ := bd_cons h
  unfold endsB aft
  rw [if_neg (by simp), e]
  refine Prod.ext ?_ lt0_snoc
  show hd0 (r ++ [w]) = hd0 r
  obtain ⟨y, r2, e3⟩ := List.exists_cons_of_ne_nil hr
  rw [e3]
  rfl
end
end TR
namespace TR
open PySem PySem.Spec PyProof.Rows L2 L2.TT StX ClX
theorem eqv_two (a b c d : Nat) : PyData.eqv (.tuple [di a, di b]) (.tuple [di c, di d]) = decide ((a, b) = (c, d)) := by
  have q : PyData.eqv (.tuple [di a, di b]) (.tuple [di c, di d]) = (((a : Int) == (c : Int)) && (((b : Int) == (d : Int)) && true)) := by simp only [di, PyData.eqv, PyData.eqvAll]
  rw [q, Bool.and_true, Bool.eq_iff_iff, Bool.and_eq_true, beq_iff_eq, beq_iff_eq, decide_eq_true_iff]
  constructor
  · rintro ⟨h1, h2⟩
    rw [show a = c by omega, show b = d by omega]
  · intro h
    cases h
    exact ⟨rfl, rfl⟩
theorem atI_lastN {xs : List V} {n : Nat} {x : V} (h : xs.length = n + 1) (hx : xs[n]? = some x) : atI xs (-1) = some x := by
  have e : ixN xs.length (-1) = some n := by
    unfold ixN
    rw [if_neg (by omega), if_pos (by omega), h]
    congr 1
    omega
  unfold atI
  rw [e]
  exact hx
theorem fnok_or {P : Program} {w : World} {K : PySem.W.Frag} {mg : Str → Option Value} {base : Heap} {CX : CXT} {k : Nat} {f : Addr} {fd : FuncData} {ps : List Str} {s1 s2 : Sp} (A : FnOk P w K mg base CX k f fd ps s1) (B : FnOk P w K mg base CX k f fd ps s2) :
    FnOk P w K mg base CX k f fd ps (fun vs H Q E => s1 vs H Q E ∨ s2 vs H Q E) :=
  ⟨fun vs H Q E h => h.elim (A.len vs H Q E) (B.len vs H Q E), fun A' outer s H args us vs Q E hr e0 hb r h => h.elim (fun h => A.run A' outer s H args us vs Q E hr e0 hb r h) (fun h => B.run A' outer s H args us vs Q E hr e0 hb r h)⟩
end TR
namespace L2.TT
open PySem PySem.Spec PyProof.Rows
end L2.TT
namespace TR
open PySem PySem.Spec PyProof.Rows L2 L2.TT StX ClX
/-- the objects at ps, one for each of xs -/
structure Lay {α : Type} (R : Hp → Addr → α → Prop) (H : Hp) (ps : List Addr) (xs : List α) : Prop where
  len : ps.length = xs.length
  at_ : ∀ (i : Nat) (p : Addr) (x : α), ps[i]? = some p → xs[i]? = some x → R H p x
/-- what is laid stays so -/
def Firm {α : Type} (R : Hp → Addr → α → Prop) : Prop := ∀ H H' p x, Same H H' → R H p x → R H' p x
section
variable {α : Type} {R : Hp → Addr → α → Prop} {H H' : Hp} {ps qs : List Addr} {xs ys : List α}
theorem Lay.nil : Lay R H [] [] := ⟨rfl, fun _ _ _ h => nomatch h⟩
theorem Lay.same (f : Firm R) (h : Lay R H ps xs) (s : Same H H') : Lay R H' ps xs := ⟨h.len, fun i p x a b => f _ _ _ _ s (h.at_ i p x a b)⟩
theorem Lay.app (h : Lay R H ps xs) (k : Lay R H qs ys) : Lay R H (ps ++ qs) (xs ++ ys) := by
  refine ⟨by rw [List.length_append, List.length_append, h.len, k.len], fun i p x hp hx => ?_⟩
  by_cases c : i < ps.length
  · rw [List.getElem?_append_left c] at hp
    rw [List.getElem?_append_left (by rw [← h.len]; exact c)] at hx
    exact h.at_ i p x hp hx
  · rw [List.getElem?_append_right (by omega)] at hp
    rw [List.getElem?_append_right (by rw [← h.len]; omega), ← h.len] at hx
    exact k.at_ _ p x hp hx
theorem Lay.one {p : Addr} {x : α} (h : R H p x) : Lay R H [p] [x] := by
  refine ⟨rfl, fun i q y hq hy => ?_⟩
  cases i with
  | zero =>
    cases hq
    cases hy
    exact h
  | succ i => cases hq
theorem Lay.snoc {p : Addr} {x : α} (h : Lay R H ps xs) (k : R H p x) : Lay R H (ps ++ [p]) (xs ++ [x]) := h.app (.one k)
theorem Lay.get (h : Lay R H ps xs) {i : Nat} {v : V} (hv : (ps.map V.ref)[i]? = some v) : ∃ p x, v = .ref p ∧ ps[i]? = some p ∧ xs[i]? = some x ∧ R H p x := by
  obtain ⟨p, hp, rfl⟩ := map_got hv
  have lt : i < xs.length := by
    have := (List.getElem?_eq_some_iff.mp hp).1
    rw [h.len] at this
    exact this
  exact ⟨p, xs[i], rfl, hp, List.getElem?_eq_getElem lt, h.at_ i p _ hp (List.getElem?_eq_getElem lt)⟩
theorem Lay.of (h : Lay R H ps xs) {i : Nat} {x : α} (hx : xs[i]? = some x) : ∃ p, ps[i]? = some p ∧ R H p x := by
  have lt : i < ps.length := by
    have := (List.getElem?_eq_some_iff.mp hx).1
    rw [h.len]
    exact this
  exact ⟨ps[i], List.getElem?_eq_getElem lt, h.at_ i _ x (List.getElem?_eq_getElem lt) hx⟩
end
theorem Lay.map {α : Type} {R R' : Hp → Addr → α → Prop} {H H' : Hp} {ps : List Addr} {xs : List α} (h : Lay R H ps xs) (k : ∀ p x, x ∈ xs → R H p x → R' H' p x) : Lay R' H' ps xs := ⟨h.len, fun i p x a b => k p x (List.mem_of_getElem? b) (h.at_ i p x a b)⟩
/-- .. also where a list is written anew -/
def Tupy {α : Type} (R : Hp → Addr → α → Prop) : Prop := ∀ H (D : Addr) (xs ys : List V) p x, H D = some (.lst xs) → R H p x → R (upd H D (.lst ys)) p x
/-- a list of new objects, while it grows -/
structure Acc {α : Type} (R : Hp → Addr → α → Prop) (H1 H' : Hp) (D : Addr) (qs : List Addr) (xs : List α) : Prop where
  own : H' D = some (.lst (qs.map V.ref))
  sm : Same H1 H'
  lay : Lay R H' qs xs
theorem Acc.start {α : Type} {R : Hp → Addr → α → Prop} {H1 : Hp} {D : Addr} (nD : H1 D = none) : Acc R H1 (upd H1 D (.lst [])) D [] [] := ⟨upd_same, same_upd nD _, .nil⟩
theorem Acc.push {α : Type} {R : Hp → Addr → α → Prop} (f : Firm R) (t : Tupy R) {H1 H' H2 : Hp} {D q : Addr} {qs : List Addr} {xs : List α} {x : α} (a : Acc R H1 H' D qs xs) (nD : H1 D = none) (s : Same H' H2) (h : R H2 q x) :
    Acc R H1 (upd H2 D (.lst (qs.map V.ref ++ [V.ref q]))) D (qs ++ [q]) (xs ++ [x]) := by
  have hD := s _ _ a.own
  refine ⟨by rw [upd_same, List.map_append]; rfl, same_old (a.sm.trans s) nD _, ?_⟩
  have l := (a.lay.same f s).snoc h
  exact ⟨l.len, fun i p y hp hy => t _ _ _ _ _ _ hD (l.at_ i p y hp hy)⟩
theorem Acc.later {α : Type} {R : Hp → Addr → α → Prop} (f : Firm R) {H1 H' H2 : Hp} {D : Addr} {qs : List Addr} {xs : List α} (a : Acc R H1 H' D qs xs) (s : Same H' H2) : Acc R H1 H2 D qs xs := ⟨s _ _ a.own, a.sm.trans s, a.lay.same f s⟩
/-- the word of an end -/
def mvw (e : Bool) : Str := if e then "head" else "tail"
def MvR (H : Hp) (p : Addr) (m : Mv) : Prop := H p = some (.tup [.str (mvw m.1), iv m.2])
def BdR (H : Hp) (p : Addr) (l : List Nat) : Prop := H p = some (.tup (l.map iv))
theorem firmM : Firm MvR := fun _ _ _ _ s h => s _ _ h
theorem firmB : Firm BdR := fun _ _ _ _ s h => s _ _ h
theorem tupyM : Tupy MvR := fun _ _ _ _ _ _ hD h => by
  unfold MvR at h ⊢
  rw [upd_ne (ne_of h hD (by intro z; cases z))]
  exact h
theorem tupyB : Tupy BdR := fun _ _ _ _ _ _ hD h => by
  unfold BdR at h ⊢
  rw [upd_ne (ne_of h hD (by intro z; cases z))]
  exact h
theorem mvw_eq (a b : Bool) : decide (mvw a = mvw b) = decide (a = b) := by cases a <;> cases b <;> decide +kernel
/-- the rules of a comprehension, K given -/
theorem in_K {X : Cx} {K : PySem.W.Frag} (h : X.K = K) : OpR X (compareOp .In) (rIn K false) := by
  subst h
  exact op_in_seq
theorem nin_K {X : Cx} {K : PySem.W.Frag} (h : X.K = K) : OpR X (compareOp .NotIn) (rIn K true) := by
  subst h
  exact op_notIn_seq
theorem iv_flat (l : List Nat) : (l.map iv).all flatV = true := by
  rw [List.all_eq_true]
  intro x hx
  obtain ⟨n, _, rfl⟩ := List.mem_map.mp hx
  rfl
theorem inV_iv (w : Nat) (l : List Nat) : inV (iv w) (l.map iv) = decide (w ∈ l) := by
  unfold inV
  induction l with
  | nil => rfl
  | cons a r ih =>
    rw [List.map_cons, List.any_cons, ih]
    by_cases c : a = w
    · subst c
      rw [show eqV (iv a) (iv a) = true from by show ((a : Int) == (a : Int)) = true; exact beq_self_eq_true _]
      simp
    · rw [show eqV (iv a) (iv w) = false from by show ((a : Int) == (w : Int)) = false; exact beq_eq_false_iff_ne.mpr (by omega)]
      have : (w ∈ a :: r) ↔ w ∈ r := by
        rw [List.mem_cons]
        exact ⟨fun h => h.resolve_left (fun z => c z.symm), .inr⟩
      rw [Bool.false_or]
      exact (decide_eq_decide.mpr this).symm
end TR
namespace TR
open PySem PySem.Spec PyProof.Rows L2 L2.TT StX ClX
theorem canLay_prs : ∀ (l : List E2), PyData.canLayAll0 (l.map dpr) = true
  | [] => rfl
  | e :: l => by
    show (PyData.canLayAll0 ([e.1, e.2].map di) && PyData.canLayAll0 (l.map dpr)) = true
    rw [canLay_prs l, canLay_ints]
    rfl
theorem depth_prs : ∀ (l : List E2), PyData.depthAll (l.map dpr) ≤ 1
  | [] => Nat.zero_le _
  | e :: l => by
    show max (PyData.depthAll ([e.1, e.2].map di) + 1) (PyData.depthAll (l.map dpr)) ≤ 1
    have := depth_prs l
    rw [depth_ints]
    omega
theorem shaped_prs (l : List E2) : SeqAt.shaped (.tuple (l.map dpr)) = true := by
  unfold SeqAt.shaped
  rw [Bool.and_eq_true]
  refine ⟨canLay_prs l, decide_eq_true ?_⟩
  show PyData.depthAll (l.map dpr) + 1 ≤ 64
  have := depth_prs l
  omega
/-- what isinstance reads of an own class -/
structure InsK (K : PySem.W.Frag) (C : Addr) : Prop where
  ca : PySem.W.findIn K (.ref C) "__class__" = some (some (.builtin "object.__class__"))
  sg : PySem.W.specialIn K (.builtin "object.__class__") "__get__" = some (some (.builtin "getset_descriptor.__get__"))
  st : PySem.W.takesIn K (.builtin "object.__class__") = some true
  ob : PySem.W.mroIn K C (.type "object") = some true
end TR
namespace TR
open PySem PySem.Spec PyProof.Rows L2 L2.TT StX ClX
/-- a list of pairs, sorted -/
theorem sorted_prs {H : Hp} {qs : List Addr} {l : List E2} (h : Prs H qs l) (nd : qs.Nodup) {ys : List V} (hs : SrtO.Srtd (ltP (kfOf qs l)) ys) (hp : ys.Perm (qs.map V.ref)) : ∃ ps, ys = ps.map V.ref ∧ Prs H ps (srt2 l) ∧ ps.Nodup := by
  obtain ⟨ps, rfl, hpm⟩ := refs_perm hp
  have e : ps.map (edOf qs l) = srt2 l := by
    refine srt2_of ?_ ?_
    · have := hpm.map (edOf qs l)
      rw [ed_map h nd] at this
      exact this
    · have h0 : (ps.map V.ref).Pairwise (fun x y => ltP (kfOf qs l) y x = false) := hs
      rw [List.pairwise_map] at h0 ⊢
      refine h0.imp fun {a b} h => ?_
      have h2 := SrtO.lexB_no.mp h
      rw [lexle_iff]
      simp only [kfOf] at h2
      omega
  refine ⟨ps, rfl, ?_, hpm.nodup_iff.mpr nd⟩
  rw [← e]
  refine ⟨(List.length_map _).symm, fun i x y hx hy => ?_⟩
  obtain ⟨x', hx', rfl⟩ := map_got hy
  rw [hx] at hx'
  cases hx'
  exact ed_heap h nd (hpm.mem_iff.mp (List.mem_of_getElem? hx))
theorem kf_items {H : Hp} {qs : List Addr} {l : List E2} (h : Prs H qs l) (nd : qs.Nodup) : ∀ x ∈ qs.map V.ref, ∃ t, x = V.ref t ∧ H t = some (.tup [.int (kfOf qs l x).1, .int (kfOf qs l x).2]) := fun x hx => by
  obtain ⟨q, hq, rfl⟩ := List.mem_map.mp hx
  exact ⟨q, rfl, ed_heap h nd hq⟩
theorem ne_str {a b : Str} (h : a = b) : (!decide (V.str a = V.str b)) = false := by
  rw [h]
  simp
end TR
namespace L2.TT
open PySem PySem.Spec PyProof.Rows PySem.W
end L2.TT
namespace TR
open PySem PySem.Spec PyProof.Rows L2 L2.TT StX ClX
theorem cut_to {xs : List V} {z : Nat} (hz : z ≤ xs.length) : cutV xs none (some (z : Int)) = xs.take z := by
  unfold cutV
  rw [HT.sIx_nat, HT.sIx_none, Nat.min_eq_left hz, List.drop_zero, Nat.sub_zero]
theorem cut_from {xs : List V} {z : Nat} (hz : z ≤ xs.length) : cutV xs (some (z : Int)) none = xs.drop z := by
  unfold cutV
  rw [HT.sIx_nat, HT.sIx_none, Nat.min_eq_left hz]
  exact List.take_of_length_le (by rw [List.length_drop]; exact Nat.le_refl _)
end TR
namespace TR
open PySem PySem.Spec PyProof.Rows L2 L2.TT StX ClX
/-- t[z:] -/
theorem slT_fromU {K : PySem.W.Frag} {H : Hp} {Q : VK} {a : Addr} {xs : List V} {z : Nat} (ha : H a = some (.tup xs)) (hz : z ≤ xs.length) (k : ∀ p H', Same H H' → H' p = some (.tup (xs.drop z)) → Q (.ref p) H') : rSlA K (.ref a) (some (z : Int)) none H Q := by
  refine ⟨a, xs, rfl, SqT.of ha, fun ⟨h, _⟩ => ?_, fun _ p np => by rw [cut_from hz]; exact k p _ (same_upd np _) upd_same⟩
  rw [HT.sIx_nat] at h
  have h0 : z = 0 := by omega
  subst h0
  exact k a H (Same.refl _) (by rw [List.drop_zero]; exact ha)
/-- t[:z] -/
theorem slT_toU {K : PySem.W.Frag} {H : Hp} {Q : VK} {a : Addr} {xs : List V} {z : Nat} (ha : H a = some (.tup xs)) (hz : z ≤ xs.length) (k : ∀ p H', Same H H' → H' p = some (.tup (xs.take z)) → Q (.ref p) H') : rSlA K (.ref a) none (some (z : Int)) H Q := by
  refine ⟨a, xs, rfl, SqT.of ha, fun ⟨_, h⟩ => ?_, fun _ p np => by rw [cut_to hz]; exact k p _ (same_upd np _) upd_same⟩
  rw [HT.sIx_nat] at h
  have h0 : z = xs.length := by omega
  subst h0
  exact k a H (Same.refl _) (by rw [List.take_length]; exact ha)
end TR
namespace TR
open PySem PySem.Spec PyProof.Rows L2 L2.TT StX ClX
def RepF (K : PySem.W.Frag) (H : Hp) (vs : List V) (ds : List PyData) : Prop := DL K H vs ds ∧ PyData.showableAll ds = true ∧ PyData.leavesShortAll 13 ds = true ∧ PyData.weightAll ds ≤ 1000000 ∧ PyData.depthAll ds ≤ 20
theorem shw2 {a b : Nat} (ha : a ≤ 999) (hb : b ≤ 999) : Shw [a, b] := shw_of fun z hz => by
  simp only [List.mem_cons, List.not_mem_nil, or_false] at hz
  omega
theorem rep_two {K : PySem.W.Frag} {H : Hp} {a b : Nat} (ha : a ≤ 999) (hb : b ≤ 999) : RepF K H [iv a, iv b] [di a, di b] := by
  have S := shw2 ha hb
  have h1 : PyData.weightAll [di a, di b] ≤ 11 * 2 := S.wt
  have h2 : PyData.depthAll [di a, di b] = 0 := S.dp
  exact ⟨.inl ⟨dpAll_ints [a, b], canLay_ints [a, b]⟩, S.sh, S.lv, by omega, by omega⟩
end TR
namespace TR
open PySem PySem.Spec PyProof.Rows L2 L2.TT StX ClX
theorem inR_iv2 {n v : Nat} (h : v ≤ n) : inR (iv v) 0 n = true := by
  show (decide ((0 : Int) ≤ (v : Int)) && decide ((v : Int) ≤ (n : Int))) = true
  rw [Bool.and_eq_true]
  exact ⟨decide_eq_true (by omega), decide_eq_true (by omega)⟩
theorem all_bools2 {f : V → Bool} {xs : List V} : (xs.map f).all id = true ↔ ∀ x ∈ xs, f x = true := by
  rw [List.all_map]
  simp
theorem eqvAll_ints2 : ∀ (l m : List Nat), PyData.eqvAll (l.map di) (m.map di) = decide (l = m)
  | [], [] => rfl
  | [], _ :: _ => rfl
  | _ :: _, [] => rfl
  | x :: l, y :: m => by
    show (PyData.eqv (di x) (di y) && PyData.eqvAll (l.map di) (m.map di)) = _
    rw [eqvAll_ints2 l m]
    have e : PyData.eqv (di x) (di y) = decide (x = y) := by
      show ((x : Int) == (y : Int)) = _
      rw [Bool.eq_iff_iff, beq_iff_eq, decide_eq_true_iff]
      omega
    rw [e, Bool.eq_iff_iff, Bool.and_eq_true, decide_eq_true_iff, decide_eq_true_iff, decide_eq_true_iff, List.cons.injEq]
theorem eqv_ints (l m : List Nat) : PyData.eqv (.tuple (l.map di)) (.tuple (m.map di)) = decide (l = m) := eqvAll_ints2 l m
def PrR (H : Hp) (p : Addr) (e : E2) : Prop := H p = some (.tup [iv e.1, iv e.2])
theorem firmP : Firm PrR := fun _ _ _ _ s h => s _ _ h
theorem tupyP : Tupy PrR := fun _ _ _ _ _ _ hD h => by
  unfold PrR at h ⊢
  rw [upd_ne (ne_of h hD (by intro z; cases z))]
  exact h
theorem fil_snoc {α β : Type} {xs : List α} {i : Nat} {w : α} (p : α → Bool) (f : α → β) (h : xs[i]? = some w) : ((xs.take (i + 1)).filter p).map f = ((xs.take i).filter p).map f ++ (if p w = true then [f w] else []) := by
  rw [take_snoc h, List.filter_append, List.map_append]
  congr 1
  by_cases c : p w = true
  · rw [if_pos c, List.filter_cons_of_pos c]
    rfl
  · rw [if_neg c, List.filter_cons_of_neg c]
    rfl
theorem fil_len {α : Type} {xs : List α} {i : Nat} (p : α → Bool) : ((xs.take i).filter p).length ≤ xs.length := by
  have := List.length_filter_le p (xs.take i)
  rw [List.length_take] at this
  omega
theorem at_hd0 {l : List Nat} (h : 0 < l.length) : atI (l.map iv) 0 = some (iv (hd0 l)) := by
  match l, h with
  | x :: r, _ => exact atI_pos (by decide) rfl
theorem at_lt0 {l : List Nat} (h : 0 < l.length) : atI (l.map iv) (-1) = some (iv (lt0 l)) := by
  obtain ⟨r, x, rfl⟩ : ∃ r x, l = r ++ [x] := ⟨l.dropLast, l.getLast (List.length_pos_iff.mp h), (List.dropLast_concat_getLast _).symm⟩
  rw [lt0_snoc]
  exact at_last
theorem hd0_mem {l : List Nat} (h : 0 < l.length) : hd0 l ∈ l := by
  match l, h with
  | x :: r, _ => exact List.mem_cons_self
theorem lt0_mem {l : List Nat} (h : 0 < l.length) : lt0 l ∈ l := by
  obtain ⟨r, x, rfl⟩ : ∃ r x, l = r ++ [x] := ⟨l.dropLast, l.getLast (List.length_pos_iff.mp h), (List.dropLast_concat_getLast _).symm⟩
  rw [lt0_snoc]
  simp
end TR
namespace TR
open PySem PySem.Spec PyProof.Rows L2 L2.TT StX ClX
/-- a step: its move and the ends behind it -/
def SeR (l : List Nat) (H : Hp) (p : Addr) (m : Mv) : Prop := ∃ a b, H p = some (.tup [.ref a, .ref b]) ∧ MvR H a m ∧ PrR H b (endsB (aft l m))
theorem firmSe (l : List Nat) : Firm (SeR l) := fun _ _ _ _ s ⟨a, b, h1, h2, h3⟩ => ⟨a, b, s _ _ h1, firmM _ _ _ _ s h2, firmP _ _ _ _ s h3⟩
theorem tupySe (l : List Nat) : Tupy (SeR l) := fun _ _ _ _ _ _ hD ⟨a, b, h1, h2, h3⟩ => ⟨a, b, by rw [upd_ne (ne_of h1 hD (by intro z; cases z))]; exact h1, tupyM _ _ _ _ _ _ hD h2, tupyP _ _ _ _ _ _ hD h3⟩
def spSte (K : PySem.W.Frag) : Sp := fun vs H Q _ => ∃ (a t : Addr) (tr : List E2) (l : List Nat), vs = [.ref a, .ref t] ∧ Ard K H a tr ∧ TreeL tr ∧ tr.length ≤ 99 ∧ H t = some (.tup [iv (hd0 l), iv (lt0 l)]) ∧ Bd tr l ∧
  ∀ (q : Addr) (ps : List Addr) (H' : Hp), Same H H' → H q = none → H' q = some (.lst (ps.map V.ref)) → Lay (SeR l) H' ps (poss tr l) → Q (.ref q) H'
section
variable {P : Program} {w : World} {K : PySem.W.Frag} {mg : Str → Option Value} {base : Heap}
abbrev N_sc_ste : List Str := ["web", "pair", "row", "found", "spot"]
theorem sc_ste : FnScope N_sc_ste ["web", "pair"] (defScope s_law_steps) := ⟨rfl, rfl, rfl, by decide +kernel, rfl, by decide +kernel, by decide +kernel⟩
theorem ok_ste {f fB : Addr} {fd fdB : FuncData} (F : Fun K "_law_steps" "_law_steps" s_law_steps f fd) (UB : Use P w K mg base CX0 1 "_law_body" fB fdB ["web", "one", "two"] (spBdy K)) : FnOk P w K mg base CX0 2 f fd ["web", "pair"] (spSte K) := by
  refine F.ok sc_ste (fun vs H Q E h => ?_) (fun cdv A outer s H vs Q E hr h => ?_)
  · obtain ⟨a, t, tr, l, rfl, _⟩ := h
    rfl
  · obtain ⟨a, t, tr, l, rfl, hA, T, few, ht, b, k⟩ := h
    refine ⟨_, (pss_cons (ps_par (i := 2) (j := 3) (by rfl) sc_ste.nd rfl rfl (by decide) rfl rfl (pa_cons (pe_use UB hr (by rfl) (pa_cons (pv 0) (pa_cons (pe_ix ix_tup (pv 1) pe_int (fun _ _ => rfl)) (pa_cons (pe_ix ix_tup (pv 1) pe_int (fun _ _ => rfl)) pa_nil)))) (pa_cons (pe_lst pa_nil) pa_nil)) (by rfl))
        (pss_cons (ps_for PassesOwn.never rfl (pi_list (pe_ix ix_list (pv 0) (pe_ix ix_tup (pv 1) pe_int (fun _ _ => rfl)) (fun _ _ => rfl))) (pg_name (i := 4) sc_ste.nd rfl (.inl rfl))
          (pss_one (ps_if (pt_cmpR op_notIn_seq (pv 4) (pv 2) (by with_unfolding_all rfl)) (pss_one (ps_expr (pe_bm PySem.F.plainAttrs_list PySem.F.slot_list_append PySem.F.type_list_append mt_append (pv 3) (pa_cons (pe_tup (pa_cons (pe_tup (pa_cons pe_str (pa_cons (pv 4) pa_nil))) (pa_cons (pe_tup (pa_cons (pv 4) (pa_cons (pe_ix ix_list (pv 2) (pe_un un_neg pe_int) (fun _ _ => rfl)) pa_nil))) pa_nil))) pa_nil)))) pss_nil)))
        (pss_cons (ps_for PassesOwn.never rfl (pi_list (pe_ix ix_list (pv 0) (pe_ix ix_tup (pv 1) pe_int (fun _ _ => rfl)) (fun _ _ => rfl))) (pg_name (i := 4) sc_ste.nd rfl (.inl rfl))
          (pss_one (ps_if (pt_cmpR op_notIn_seq (pv 4) (pv 2) (by with_unfolding_all rfl)) (pss_one (ps_expr (pe_bm PySem.F.plainAttrs_list PySem.F.slot_list_append PySem.F.type_list_append mt_append (pv 3) (pa_cons (pe_tup (pa_cons (pe_tup (pa_cons pe_str (pa_cons (pv 4) pa_nil))) (pa_cons (pe_tup (pa_cons (pe_ix ix_list (pv 2) pe_int (fun _ _ => rfl)) (pa_cons (pv 4) pa_nil))) pa_nil))) pa_nil)))) pss_nil)))
        (pss_one (ps_ret (pv 3)))))), ?_⟩
    have two : (2 : Nat) ≤ sizeLine := by rw [sizeLine_eq]; decide
    have b2 := b.two
    have hl := b.hle
    have tl := b.lle
    have i0 : atI [iv (hd0 l), iv (lt0 l)] 0 = some (iv (hd0 l)) := atN (n := 0) rfl
    have i1 : atI [iv (hd0 l), iv (lt0 l)] 1 = some (iv (lt0 l)) := atN (n := 1) rfl
    obtain ⟨_, pen⟩ := nx_pen T b
    have eM : atI (l.map iv) (-2) = some (iv (lt0 l.dropLast)) := by
      have ex : ixN (l.map iv).length (-2) = some (l.length - 2) := by
        unfold ixN
        rw [if_neg (by omega), if_pos (by rw [List.length_map]; omega), List.length_map]
        congr 1
        omega
      unfold atI
      rw [ex]
      show (l.map iv)[l.length - 2]? = _
      have : l.dropLast[l.length - 2]? = some (lt0 l.dropLast) := by
        have h := sw_atl (nx_pen T b).1
        rw [List.length_dropLast, show l.length - 1 - 1 = l.length - 2 by omega] at h
        exact h
      rw [List.getElem?_map]
      rw [List.dropLast_eq_take, List.getElem?_take, if_pos (by omega)] at this
      rw [this]
      rw [List.dropLast_eq_take]
      rfl
    have e1 : atI (l.map iv) 1 = some (iv (hd0 l.tail)) := by
      obtain ⟨x, r, e, hr⟩ := bd_cons b2
      obtain ⟨y, r2, e2⟩ := List.exists_cons_of_ne_nil hr
      rw [e, e2]
      exact atN (n := 1) rfl
    have nbl := fun v => nb_len tr v
    refine ⟨_, rfl, _, rfl, t, _, _, _, rfl, rfl, SqT.of ht, i0, _, rfl, t, _, _, _, rfl, rfl, SqT.of ht, i1, a, tr, hd0 l, lt0 l, rfl, hA, T, by omega, hl, tl, fun p l2 H1 s1 np hp sw => ?_⟩
    cases SW.uniq T sw b.sw
    refine ⟨Nat.zero_le _, fun D nD => ⟨_, _, rfl, ?_⟩⟩
    have nDH := s1.free nD
    have hp2 := same_upd nD (.lst []) _ _ hp
    have sD := s1.trans (same_upd nD (.lst []))
    have ac0 : Acc (SeR l) H (upd H1 D (.lst [])) D [] [] := ⟨upd_same, sD, .nil⟩
    have Dp : p ≠ D := ne_of_none hp nD
    have row : ∀ {H' : Hp}, Same (upd H1 D (.lst [])) H' ∨ True → True := fun _ => trivial
    clear row
    generalize upd H1 D (.lst []) = H2 at hp2 sD ac0 ⊢
    obtain ⟨rs, q, r1, r2, r3⟩ := hA.row hl
    obtain ⟨rs', q', r1', r2', r3'⟩ := hA.row tl
    have step : ∀ {H' : Hp} {qs : List Addr} {xs : List Mv} {mv : Mv} {u v : Nat}, Acc (SeR l) H H' D qs xs → endsB (aft l mv) = (u, v) →
        ∀ z1, H' z1 = none → ∀ z2, upd H' z1 (.tup [.str (mvw mv.1), iv mv.2]) z2 = none → ∀ z3, upd (upd H' z1 (.tup [.str (mvw mv.1), iv mv.2])) z2 (.tup [iv u, iv v]) z3 = none →
          Acc (SeR l) H (upd (upd (upd (upd H' z1 (.tup [.str (mvw mv.1), iv mv.2])) z2 (.tup [iv u, iv v])) z3 (.tup [.ref z1, .ref z2])) D (.lst (qs.map V.ref ++ [V.ref z3]))) D (qs ++ [z3]) (xs ++ [mv]) ∧
          ∀ b o, H' b = some o → b ≠ D → upd (upd (upd (upd H' z1 (.tup [.str (mvw mv.1), iv mv.2])) z2 (.tup [iv u, iv v])) z3 (.tup [.ref z1, .ref z2])) D (.lst (qs.map V.ref ++ [V.ref z3])) b = some o := by
      intro H' qs xs mv u v ac e z1 n1 z2 n2 z3 n3
      have t1 := same_upd n1 (.tup [.str (mvw mv.1), iv mv.2])
      have t2 := same_upd n2 (.tup [iv u, iv v])
      have t3 := same_upd n3 (.tup [.ref z1, .ref z2])
      have h1 := t3 _ _ (t2 _ _ (upd_same (H := H') (a := z1) (o := .tup [.str (mvw mv.1), iv mv.2])))
      have h2 := t3 _ _ (upd_same (H := upd H' z1 (.tup [.str (mvw mv.1), iv mv.2])) (a := z2) (o := .tup [iv u, iv v]))
      have t := (t1.trans t2).trans t3
      refine ⟨ac.push (firmSe l) (tupySe l) nDH t ⟨z1, z2, upd_same, h1, ?_⟩, fun b o hb ne => by rw [upd_ne ne]; exact t _ _ hb⟩
      unfold PrR
      rw [e]
      exact h2
    refine ⟨_, rfl, _, rfl, t, _, _, _, rfl, rfl, SqT.of (sD _ _ ht), i0, a, _, _, _, rfl, rfl, sD.seq r1, atN r2, q, rfl, ⟨_, SqL.of (sD _ _ r3)⟩, ?_⟩
    refine for_list (K := K) (a := q) (xs := (nb tr (hd0 l)).map iv) (fun i σ H' => ∃ (ps : List Addr) (x4 : Option V), σ = [some (.ref a), some (.ref t), some (.ref p), some (.ref D), x4] ∧ H' p = some (.lst (l.map iv)) ∧ Acc (SeR l) H H' D ps ((((nb tr (hd0 l)).take i).filter fun w => decide (w ∉ l)).map fun w => (true, w)))
      ⟨[], _, rfl, hp2, ac0⟩ (fun i σ H' _ ⟨_, _, _, _, ac⟩ => SqL.of (ac.sm _ _ r3)) ?_ ?_
    · rintro i y σ H3 hy ⟨ps, x4, rfl, hp3, ac⟩
      obtain ⟨w, hw, rfl⟩ := map_got hy
      have e := fil_snoc (fun w => decide (w ∉ l)) (fun w => ((true, w) : Mv)) hw
      have fl := fil_len (xs := nb tr (hd0 l)) (i := i) (fun w => decide (w ∉ l))
      have lq := ac.lay.len
      rw [List.length_map] at lq
      have := nbl (hd0 l)
      refine ⟨_, rfl, _, rfl, p, _, rfl, .inl (SqL.of hp3), rfl, iv_flat _, _, rfl, ?_⟩
      rw [inV_iv, show (if true = true then !decide (w ∈ l) else decide (w ∈ l)) = !decide (w ∈ l) from rfl]
      by_cases c : w ∈ l
      · rw [decide_eq_true c]
        refine iteF ?_
        rw [if_neg (by simp [c]), List.append_nil] at e
        exact ⟨ps, _, rfl, hp3, by rw [e]; exact ac⟩
      · rw [decide_eq_false c]
        refine iteT ?_
        rw [if_pos (by simp [c])] at e
        refine ⟨_, rfl, .inl ⟨rfl, _, SqL.of ac.own⟩, ?_⟩
        refine ⟨_, rfl, two, fun z1 n1 => ⟨_, rfl, _, rfl, _, rfl, p, _, _, _, rfl, rfl, SqL.of (same_upd n1 _ _ _ hp3), eM, two, fun z2 n2 => ⟨two, fun z3 n3 => ?_⟩⟩⟩
        have own3 := (((same_upd n1 (.tup [.str "head", iv w])).trans (same_upd n2 (.tup [iv w, iv (lt0 l.dropLast)]))).trans (same_upd n3 (.tup [.ref z1, .ref z2]))) _ _ ac.own
        refine ⟨D, _, _, rfl, rfl, own3, by rw [List.length_map, sizeLine_eq]; omega, ?_⟩
        obtain ⟨az, kp⟩ := step (mv := (true, w)) ac (ends_head b2 w) z1 n1 z2 n2 z3 n3
        exact ⟨ps ++ [z3], _, rfl, kp _ _ hp3 Dp, by rw [e]; exact az⟩
    rintro σ H3 ⟨ps, x4, rfl, hp3, ac⟩
    rw [List.length_map, List.take_length] at ac
    have s3 := ac.sm
    refine ⟨_, rfl, _, rfl, t, _, _, _, rfl, rfl, SqT.of (s3 _ _ ht), i1, a, _, _, _, rfl, rfl, s3.seq r1', atN r2', q', rfl, ⟨_, SqL.of (s3 _ _ r3')⟩, ?_⟩
    have fx := List.length_filter_le (fun w => decide (w ∉ l)) (nb tr (hd0 l))
    have := nbl (hd0 l)
    refine for_list (K := K) (a := q') (xs := (nb tr (lt0 l)).map iv) (fun i σ H' => ∃ (ps : List Addr) (x4 : Option V), σ = [some (.ref a), some (.ref t), some (.ref p), some (.ref D), x4] ∧ H' p = some (.lst (l.map iv)) ∧ Acc (SeR l) H H' D ps (((nb tr (hd0 l)).filter fun w => decide (w ∉ l)).map (fun w => (true, w)) ++ (((nb tr (lt0 l)).take i).filter fun w => decide (w ∉ l)).map fun w => (false, w)))
      ⟨ps, _, rfl, hp3, by rw [List.take_zero, List.filter_nil, List.map_nil, List.append_nil]; exact ac⟩ (fun i σ H' _ ⟨_, _, _, _, ac⟩ => SqL.of (ac.sm _ _ r3')) ?_ ?_
    · clear ac s3 hp3
      rintro i y σ H3 hy ⟨ps, x4, rfl, hp3, ac⟩
      obtain ⟨w, hw, rfl⟩ := map_got hy
      have e := fil_snoc (fun w => decide (w ∉ l)) (fun w => ((false, w) : Mv)) hw
      have fl := fil_len (xs := nb tr (lt0 l)) (i := i) (fun w => decide (w ∉ l))
      have lq := ac.lay.len
      rw [List.length_append, List.length_map, List.length_map] at lq
      have := nbl (lt0 l)
      refine ⟨_, rfl, _, rfl, p, _, rfl, .inl (SqL.of hp3), rfl, iv_flat _, _, rfl, ?_⟩
      rw [inV_iv, show (if true = true then !decide (w ∈ l) else decide (w ∈ l)) = !decide (w ∈ l) from rfl]
      by_cases c : w ∈ l
      · rw [decide_eq_true c]
        refine iteF ?_
        rw [if_neg (by simp [c]), List.append_nil] at e
        exact ⟨ps, _, rfl, hp3, by rw [e]; exact ac⟩
      · rw [decide_eq_false c]
        refine iteT ?_
        rw [if_pos (by simp [c])] at e
        refine ⟨_, rfl, .inl ⟨rfl, _, SqL.of ac.own⟩, ?_⟩
        refine ⟨_, rfl, two, fun z1 n1 => ⟨_, rfl, p, _, _, _, rfl, rfl, SqL.of (same_upd n1 _ _ _ hp3), e1, _, rfl, two, fun z2 n2 => ⟨two, fun z3 n3 => ?_⟩⟩⟩
        have own3 := (((same_upd n1 (.tup [.str "tail", iv w])).trans (same_upd n2 (.tup [iv (hd0 l.tail), iv w]))).trans (same_upd n3 (.tup [.ref z1, .ref z2]))) _ _ ac.own
        refine ⟨D, _, _, rfl, rfl, own3, by rw [List.length_map, sizeLine_eq]; omega, ?_⟩
        obtain ⟨az, kp⟩ := step (mv := (false, w)) ac (ends_tail b2 w) z1 n1 z2 n2 z3 n3
        exact ⟨ps ++ [z3], _, rfl, kp _ _ hp3 Dp, by rw [e, ← List.append_assoc]; exact az⟩
    rintro σ H4 ⟨ps4, x4, rfl, hp4, ac4⟩
    rw [List.length_map, List.take_length] at ac4
    exact ⟨_, rfl, k D ps4 H4 ac4.sm nDH ac4.own ac4.lay⟩
end
end TR
namespace TR
open PySem PySem.Spec PyProof.Rows L2 L2.TT
theorem valV_none {kvs : List (List Key × V)} {k : List Key} (h : k ∉ kvs.map (·.1)) : valV kvs k = none := by
  induction kvs with
  | nil => rfl
  | cons p r ih =>
    rw [List.map_cons] at h
    rw [valV_neg fun z => h (by rw [← z]; exact List.mem_cons_self)]
    exact ih fun z => h (List.mem_cons_of_mem _ z)
theorem valV_at : ∀ {kvs : List (List Key × V)} {i : Nat} {k : List Key} {v : V}, (kvs.map (·.1)).Nodup → kvs[i]? = some (k, v) → valV kvs k = some v
  | p :: r, 0, k, v, _, h => by
    cases h
    exact valV_pos rfl
  | p :: r, i + 1, k, v, nd, h => by
    rw [List.map_cons] at nd
    have nd := List.nodup_cons.mp nd
    have hm : k ∈ r.map (·.1) := List.mem_map.mpr ⟨(k, v), List.mem_of_getElem? (show r[i]? = some (k, v) from h), rfl⟩
    rw [valV_neg fun z => nd.1 (z ▸ hm)]
    exact valV_at nd.2 h
end TR
namespace TR
open PySem PySem.Spec PyProof.Rows L2 L2.TT StX ClX
/-- a body as a key -/
def keyL (m : List Nat) : List Key := m.map fun x : Nat => (Sum.inl (x : Int) : Key)
theorem keyL_kV (m : List Nat) : (keyL m).map kV = m.map iv := by
  unfold keyL
  rw [List.map_map]
  rfl
theorem keyL_inj : ∀ {a b : List Nat}, keyL a = keyL b → a = b
  | [], [], _ => rfl
  | [], _ :: _, h => nomatch h
  | _ :: _, [], h => nomatch h
  | x :: a, y :: b, h => by
    have h1 := List.cons.inj (show (Sum.inl (x : Int) : Key) :: keyL a = Sum.inl (y : Int) :: keyL b from h)
    have e1 : (x : Int) = (y : Int) := Sum.inl.inj h1.1
    rw [keyL_inj h1.2, show x = y by omega]
theorem keyL_nd {bs : List (List Nat)} (nd : bs.Nodup) : (bs.map keyL).Nodup := by
  rw [List.nodup_iff_pairwise_ne, List.pairwise_map]
  exact (List.nodup_iff_pairwise_ne.mp nd).imp fun {a b} ne z => ne (keyL_inj z)
end TR
namespace TR
open PySem PySem.Spec PyProof.Rows L2 L2.TT StX ClX
section
variable {tr : List E2}
theorem poss_len2 {tr : List E2} (T : TreeL tr) (l : List Nat) : (poss tr l).length ≤ 2 * (tr.length + 1) := by
  unfold poss fre
  rw [List.length_append, List.length_map, List.length_map]
  have q1 := List.length_filter_le (fun w => decide (w ∉ l)) (nb tr (endM l true))
  have q2 := List.length_filter_le (fun w => decide (w ∉ l)) (nb tr (endM l false))
  have : (nb tr (endM l true)).length ≤ tr.length + 1 := nd_len (nb_nd T _) fun _ h => (T.adj_le ((mem_nb T.ne).mp h)).2
  have : (nb tr (endM l false)).length ≤ tr.length + 1 := nd_len (nb_nd T _) fun _ h => (T.adj_le ((mem_nb T.ne).mp h)).2
  omega
theorem hu1 {n : Nat} (h : n + 64 < cLine) : n + 1 < cLine := by omega
def RchN (tr : List E2) (l m : List Nat) (n : Nat) : Prop := ∃ ms, okM tr l ms = true ∧ endB l ms = m ∧ ms.length = n
theorem leads_rch {l m : List Nat} (h : Leads tr l m) : ∃ n, RchN tr l m n := by
  obtain ⟨ms, h1, h2⟩ := h
  exact ⟨ms.length, ms, h1, h2, rfl⟩
/-- the fewest moves -/
noncomputable def gd (tr : List E2) (l m : List Nat) : Nat := open Classical in if h : ∃ n, RchN tr l m n then (h.elim fun n hn => ex_min (P := RchN tr l m) n hn).choose else 0
theorem gd_spec {l m : List Nat} (h : Leads tr l m) : RchN tr l m (gd tr l m) ∧ ∀ n, RchN tr l m n → gd tr l m ≤ n := by
  have hx := leads_rch h
  have hs := (hx.elim fun n hn => ex_min (P := RchN tr l m) n hn).choose_spec
  unfold gd
  rw [dif_pos hx]
  exact ⟨hs.1, fun n hn => Nat.le_of_not_lt fun lt => hs.2 n lt hn⟩
theorem rch_rev (T : TreeL tr) {l m : List Nat} (b : Bd tr l) {n : Nat} (h : RchN tr l m n) : RchN tr m l n := by
  obtain ⟨ms, h1, rfl, h3⟩ := h
  obtain ⟨k1, k2⟩ := Bd.takes_back T ms b h1
  refine ⟨_, k1, k2, ?_⟩
  rw [List.length_reverse]
  have : ∀ (ms : List Mv) (l : List Nat), (oppL l ms).length = ms.length := by
    intro ms
    induction ms with
    | nil => intro l; rfl
    | cons a r ih => intro l; show (oppL (aft l a) r).length + 1 = r.length + 1; rw [ih]
  rw [this, h3]
theorem gd_symm (T : TreeL tr) {l m : List Nat} (b : Bd tr l) (h : Leads tr l m) : gd tr m l = gd tr l m := by
  have c := (h.bd T b).1
  have h2 := h.symm T b
  have s1 := gd_spec h
  have s2 := gd_spec h2
  have := s1.2 _ (rch_rev T c s2.1)
  have := s2.2 _ (rch_rev T b s1.1)
  omega
theorem gd_self (l : List Nat) : gd tr l l = 0 := by
  have := (gd_spec (Leads.refl l : Leads tr l l)).2 0 ⟨[], rfl, rfl, rfl⟩
  omega
theorem gd_zero {l m : List Nat} (h : Leads tr l m) (e : gd tr l m = 0) : l = m := by
  obtain ⟨ms, h1, h2, h3⟩ := (gd_spec h).1
  rw [e] at h3
  rw [List.length_eq_zero_iff.mp h3] at h2
  exact h2
theorem gd_le {l m : List Nat} {mv : Mv} (hc : canM tr l mv = true) (h : Leads tr (aft l mv) m) : gd tr l m ≤ gd tr (aft l mv) m + 1 := by
  obtain ⟨ms, h1, h2, h3⟩ := (gd_spec h).1
  refine (gd_spec ((Leads.one hc).trans h)).2 _ ⟨mv :: ms, ?_, h2, by rw [List.length_cons, h3]⟩
  show (canM tr l mv && okM tr (aft l mv) ms) = true
  rw [hc, h1]
  rfl
/-- the first one of the fewest moves -/
theorem gd_next {l m : List Nat} {k : Nat} (h : Leads tr l m) (e : gd tr l m = k + 1) : ∃ mv ∈ poss tr l, gd tr (aft l mv) m = k ∧ Leads tr (aft l mv) m := by
  obtain ⟨ms, h1, h2, h3⟩ := (gd_spec h).1
  rw [e] at h3
  match ms, h1, h2, h3 with
  | mv :: r, h1, h2, h3 =>
    have h1 : (canM tr l mv && okM tr (aft l mv) r) = true := h1
    rw [Bool.and_eq_true] at h1
    have ld : Leads tr (aft l mv) m := ⟨r, h1.2, h2⟩
    have le := (gd_spec ld).2 _ ⟨r, h1.2, h2, rfl⟩
    have ge := gd_le h1.1 ld
    rw [List.length_cons] at h3
    exact ⟨mv, mem_poss.mpr (of_decide_eq_true h1.1), by omega, ld⟩
theorem can_of {l : List Nat} {mv : Mv} (h : mv ∈ poss tr l) : canM tr l mv = true := decide_eq_true (mem_poss.mp h)
/-- a move changes the fewest moves by one at most -/
theorem gd_far (T : TreeL tr) {l m : List Nat} (b : Bd tr l) {mv : Mv} (hc : canM tr l mv = true) (h : Leads tr l m) : gd tr (aft l mv) m ≤ gd tr l m + 1 ∧ Leads tr (aft l mv) m := by
  have bx := (b.aft T hc).1
  have back := (Leads.one hc : Leads tr l (aft l mv)).symm T b
  have h2 := back.trans h
  refine ⟨?_, h2⟩
  have r1 := rch_rev T b ⟨[mv], by show (canM tr l mv && true) = true; rw [hc]; rfl, rfl, rfl⟩
  obtain ⟨ns, k1, k2, k3⟩ := r1
  obtain ⟨ms, h1, h2', h3⟩ := (gd_spec h).1
  refine (gd_spec h2).2 _ ⟨ns ++ ms, ?_, ?_, ?_⟩
  · rw [okM_app]
    have k2' : endB (aft l mv) ns = l := k2
    rw [k2', Bool.and_eq_true]
    exact ⟨k1, h1⟩
  · rw [endB_app]
    have k2' : endB (aft l mv) ns = l := k2
    rw [k2', h2']
  · rw [List.length_append, k3, h3]
    show 1 + _ = _
    omega
/-- a search from the goal, all bodies as far as k; qs the last ones -/
structure Ly (tr : List E2) (g : List Nat) (bs qs : List (List Nat)) (k : Nat) : Prop where
  nd : bs.Nodup
  mem : ∀ m, m ∈ bs ↔ Leads tr g m ∧ gd tr m g ≤ k
  q : ∀ m, m ∈ qs ↔ Leads tr g m ∧ gd tr m g = k
/-- .. while the next ones are looked for: the bodies before the place i of qs are done, of the next one its moves before j -/
structure Lm (tr : List E2) (g : List Nat) (qs : List (List Nat)) (k i j : Nat) (bs gs : List (List Nat)) : Prop where
  nd : bs.Nodup
  le : ∀ m ∈ bs, Leads tr g m ∧ gd tr m g ≤ k + 1
  old : ∀ m, Leads tr g m → gd tr m g ≤ k → m ∈ bs
  new : ∀ m, m ∈ gs ↔ m ∈ bs ∧ gd tr m g = k + 1
  don : ∀ m ∈ qs.take i, ∀ mv ∈ poss tr m, aft m mv ∈ bs
  cur : ∀ m, qs[i]? = some m → ∀ mv ∈ (poss tr m).take j, aft m mv ∈ bs
theorem Ly.start (T : TreeL tr) {g : List Nat} (b : Bd tr g) : Ly tr g [g] [g] 0 := by
  have key : ∀ m, m ∈ [g] ↔ Leads tr g m ∧ gd tr m g = 0 := fun m => by
    rw [List.mem_singleton]
    constructor
    · rintro rfl
      exact ⟨.refl m, gd_self m⟩
    · rintro ⟨h1, h2⟩
      exact gd_zero (h1.symm T b) h2
  exact ⟨by simp, fun m => by rw [key m]; simp, key⟩
theorem Ly.go {g : List Nat} {bs qs : List (List Nat)} {k : Nat} (h : Ly tr g bs qs k) : Lm tr g qs k 0 0 bs [] :=
  ⟨h.nd, fun m hm => ⟨((h.mem m).mp hm).1, by have := ((h.mem m).mp hm).2; omega⟩, fun m h1 h2 => (h.mem m).mpr ⟨h1, h2⟩, fun m => ⟨fun z => (by cases z), fun ⟨z1, z2⟩ => (by have := ((h.mem m).mp z1).2; omega)⟩, fun m hm => (by cases hm), fun m _ mv hm => (by cases hm)⟩
theorem Lm.skip {g : List Nat} {qs : List (List Nat)} {k i j : Nat} {bs gs : List (List Nat)} (h : Lm tr g qs k i j bs gs) {m : List Nat} (hm : qs[i]? = some m) {mv : Mv} (hj : (poss tr m)[j]? = some mv) (hb : aft m mv ∈ bs) : Lm tr g qs k i (j + 1) bs gs :=
  ⟨h.nd, h.le, h.old, h.new, h.don, fun m' hm' v hv => by
    rw [hm] at hm'
    cases hm'
    rw [List.take_add_one, hj] at hv
    rcases List.mem_append.mp hv with hv | hv
    · exact h.cur m hm v hv
    · have : v = mv := by simpa using hv
      rw [this]
      exact hb⟩
theorem Lm.add (T : TreeL tr) {g : List Nat} (bg : Bd tr g) {qs : List (List Nat)} {k i j : Nat} {bs gs : List (List Nat)} (h : Lm tr g qs k i j bs gs) {m : List Nat} (hm : qs[i]? = some m) (lm : Leads tr g m) (em : gd tr m g = k) {mv : Mv} (hj : (poss tr m)[j]? = some mv) (hb : aft m mv ∉ bs) :
    Lm tr g qs k i (j + 1) (bs ++ [aft m mv]) (gs ++ [aft m mv]) ∧ gd tr (aft m mv) g = k + 1 := by
  have hc := can_of (List.mem_of_getElem? hj)
  have bm := (lm.bd T bg).1
  have lx := lm.trans (.one hc)
  have f := (gd_far T bm hc (lm.symm T bg)).1
  have e : gd tr (aft m mv) g = k + 1 := by
    have : ¬ gd tr (aft m mv) g ≤ k := fun z => hb (h.old _ lx z)
    omega
  refine ⟨⟨?_, fun x hx => ?_, fun x h1 h2 => List.mem_append_left _ (h.old x h1 h2), fun x => ?_, fun x hx v hv => List.mem_append_left _ (h.don x hx v hv), fun m' hm' v hv => ?_⟩, e⟩
  · rw [List.nodup_append]
    refine ⟨h.nd, by simp, fun u hu v hv z => ?_⟩
    rw [List.mem_singleton] at hv
    rw [hv] at z
    exact hb (z ▸ hu)
  · rcases List.mem_append.mp hx with hx | hx
    · exact h.le x hx
    · rw [List.mem_singleton.mp hx]
      exact ⟨lx, by omega⟩
  · rw [List.mem_append, List.mem_append, h.new x]
    constructor
    · rintro (⟨h1, h2⟩ | h1)
      · exact ⟨.inl h1, h2⟩
      · exact ⟨.inr h1, by rw [List.mem_singleton.mp h1]; exact e⟩
    · rintro ⟨h1 | h1, h2⟩
      · exact .inl ⟨h1, h2⟩
      · exact .inr h1
  · rw [hm] at hm'
    cases hm'
    rw [List.take_add_one, hj] at hv
    rcases List.mem_append.mp hv with hv | hv
    · exact List.mem_append_left _ (h.cur m hm v hv)
    · have : v = mv := by simpa using hv
      rw [this]
      exact List.mem_append_right _ (by simp)
theorem Lm.next {g : List Nat} {qs : List (List Nat)} {k i : Nat} {bs gs : List (List Nat)} {m : List Nat} (hm : qs[i]? = some m) (h : Lm tr g qs k i (poss tr m).length bs gs) : Lm tr g qs k (i + 1) 0 bs gs :=
  ⟨h.nd, h.le, h.old, h.new, fun x hx v hv => by
    rw [List.take_add_one, hm] at hx
    rcases List.mem_append.mp hx with hx | hx
    · exact h.don x hx v hv
    · have : x = m := by simpa using hx
      subst this
      refine h.cur x hm v ?_
      rw [List.take_length]
      exact hv, fun _ _ mv hm => (by cases hm)⟩
theorem Lm.done (T : TreeL tr) {g : List Nat} (bg : Bd tr g) {qs : List (List Nat)} {k : Nat} {bs gs : List (List Nat)} (hq : ∀ m, Leads tr g m → gd tr m g = k → m ∈ qs) (h : Lm tr g qs k qs.length 0 bs gs) : Ly tr g bs gs (k + 1) := by
  have all : ∀ m, Leads tr g m → gd tr m g = k + 1 → m ∈ bs := fun m h1 h2 => by
    have bm := (h1.bd T bg).1
    obtain ⟨mv, hmv, e, ld⟩ := gd_next (h1.symm T bg) h2
    have hc := can_of hmv
    have bx := (bm.aft T hc).1
    -- back to m by one move
    obtain ⟨ns, k1, k2, k3⟩ := rch_rev T bm ⟨[mv], by show (canM tr m mv && true) = true; rw [hc]; rfl, rfl, rfl⟩
    match ns, k1, k2, k3 with
    | [v], k1, k2, _ =>
      have k1 : (canM tr (aft m mv) v && true) = true := k1
      rw [Bool.and_true] at k1
      have k2 : aft (aft m mv) v = m := k2
      have := h.don (aft m mv) (by rw [List.take_length]; exact hq _ (h1.trans (.one hc)) e) v (mem_poss.mpr (of_decide_eq_true k1))
      rw [k2] at this
      exact this
  refine ⟨h.nd, fun m => ⟨h.le m, fun ⟨h1, h2⟩ => ?_⟩, fun m => ?_⟩
  · by_cases c : gd tr m g ≤ k
    · exact h.old m h1 c
    · exact all m h1 (by omega)
  · rw [h.new m]
    exact ⟨fun ⟨h1, h2⟩ => ⟨(h.le m h1).1, h2⟩, fun ⟨h1, h2⟩ => ⟨all m h1 h2, h2⟩⟩
/-- no bodies at a distance: none farther -/
theorem ly_none (T : TreeL tr) {g : List Nat} (bg : Bd tr g) {k : Nat} (h : ∀ m, Leads tr g m → gd tr m g ≠ k) : ∀ (d : Nat) (m : List Nat), Leads tr g m → gd tr m g = k + d → False
  | 0, m, h1, h2 => h m h1 h2
  | d + 1, m, h1, h2 => by
    obtain ⟨mv, hmv, e, ld⟩ := gd_next (h1.symm T bg) (show gd tr m g = k + d + 1 from h2)
    exact ly_none T bg h d _ (h1.trans (.one (can_of hmv))) e
theorem Ly.empty (T : TreeL tr) {g : List Nat} (bg : Bd tr g) {bs : List (List Nat)} {k : Nat} (h : Ly tr g bs [] k) : ∀ m, Leads tr g m → m ∈ bs := fun m hm => by
  refine (h.mem m).mpr ⟨hm, Nat.le_of_not_lt fun lt => ?_⟩
  exact ly_none T bg (fun x h1 h2 => by cases (h.q x).mpr ⟨h1, h2⟩) (gd tr m g - k) m hm (by omega)
theorem gd_list (T : TreeL tr) {g : List Nat} : ∀ (k : Nat) (l : List Nat), Bd tr l → Leads tr l g → gd tr l g = k → ∃ bs : List (List Nat), bs.length = k + 1 ∧ bs.Nodup ∧ ∀ m ∈ bs, Bd tr m ∧ gd tr m g ≤ k
  | 0, l, b, _, e => ⟨[l], rfl, by simp, fun m hm => by rw [List.mem_singleton.mp hm]; exact ⟨b, by omega⟩⟩
  | k + 1, l, b, h, e => by
    obtain ⟨mv, hmv, e1, e2⟩ := gd_next h e
    obtain ⟨bs, h1, h2, h3⟩ := gd_list T k (aft l mv) (b.aft T (can_of hmv)).1 e2 e1
    refine ⟨l :: bs, by rw [List.length_cons, h1], List.nodup_cons.mpr ⟨fun z => by have := (h3 l z).2; omega, h2⟩, fun m hm => ?_⟩
    rcases List.mem_cons.mp hm with rfl | hm
    · exact ⟨b, by omega⟩
    · exact ⟨(h3 m hm).1, by have := (h3 m hm).2; omega⟩
theorem gd_bound (T : TreeL tr) {l g : List Nat} (b : Bd tr l) (h : Leads tr l g) : gd tr l g + 1 ≤ (tr.length + 1) * (tr.length + 1) := by
  obtain ⟨bs, h1, h2, h3⟩ := gd_list T _ l b h rfl
  have := bodies_le T h2 (fun m hm => (h3 m hm).1)
  omega
/-- a dict of bodies with their fewest moves -/
structure DG (tr : List E2) (g : List Nat) (kvs : List (List Key × V)) (bs : List (List Nat)) : Prop where
  keys : kvs.map (·.1) = bs.map keyL
  vals : ∀ (i : Nat) (m : List Nat) (kv : List Key × V), bs[i]? = some m → kvs[i]? = some kv → kv.2 = iv (gd tr m g)
theorem DG.len {g : List Nat} {kvs : List (List Key × V)} {bs : List (List Nat)} (d : DG tr g kvs bs) : kvs.length = bs.length := by
  have := congrArg List.length d.keys
  rw [List.length_map, List.length_map] at this
  exact this
theorem DG.one (g : List Nat) : DG tr g [(keyL g, iv 0)] [g] := ⟨rfl, fun i m kv h1 h2 => by
  cases i with
  | zero =>
    cases h1
    cases h2
    rw [gd_self]
  | succ i => cases h1⟩
theorem DG.get {g : List Nat} {kvs : List (List Key × V)} {bs : List (List Nat)} (d : DG tr g kvs bs) (nd : bs.Nodup) {m : List Nat} (hm : m ∈ bs) : valV kvs (keyL m) = some (iv (gd tr m g)) := by
  obtain ⟨i, hi⟩ := List.mem_iff_getElem?.mp hm
  have il := (List.getElem?_eq_some_iff.mp hi).1
  have kl : i < kvs.length := by rw [d.len]; exact il
  have hk := List.getElem?_eq_getElem kl
  have ek : kvs[i].1 = keyL m := by
    have := congrArg (fun z => z[i]?) d.keys
    simp only [List.getElem?_map, hk, hi, Option.map_some] at this
    exact Option.some.inj this
  have ev := d.vals i m _ hi hk
  refine valV_at (by rw [d.keys]; exact keyL_nd nd) (i := i) ?_
  rw [hk, ← ek, ← ev]
theorem DG.non {g : List Nat} {kvs : List (List Key × V)} {bs : List (List Nat)} (d : DG tr g kvs bs) {m : List Nat} (hm : m ∉ bs) : valV kvs (keyL m) = none := by
  refine valV_none ?_
  rw [d.keys]
  intro z
  obtain ⟨k, hk, e⟩ := List.mem_map.mp z
  exact hm (keyL_inj e ▸ hk)
theorem DG.add {g : List Nat} {kvs : List (List Key × V)} {bs : List (List Nat)} (d : DG tr g kvs bs) {m : List Nat} {n : Nat} (hn : valV kvs (keyL m) = none) (e : gd tr m g = n) : DG tr g (putK kvs (keyL m) (iv n)) (bs ++ [m]) := by
  rw [putK_new _ hn]
  have l := d.len
  refine ⟨by rw [List.map_append, List.map_append, d.keys]; rfl, fun i m' kv h1 h2 => ?_⟩
  by_cases c : i < bs.length
  · rw [List.getElem?_append_left c] at h1
    rw [List.getElem?_append_left (by omega)] at h2
    exact d.vals i m' kv h1 h2
  · rw [List.getElem?_append_right (by omega)] at h1 h2
    rw [l] at h2
    cases e2 : i - bs.length with
    | zero =>
      rw [e2] at h1 h2
      cases h1
      cases h2
      rw [e]
    | succ j =>
      rw [e2] at h1
      cases h1
open Classical in
/-- the least way of the fewest moves -/
noncomputable def lwy (tr : List E2) (g : List Nat) : Nat → List Nat → List Mv
  | 0, _ => []
  | k + 1, l => match (poss tr l).filter fun mv => decide (gd tr (aft l mv) g = k ∧ Leads tr (aft l mv) g) with
    | [] => []
    | mv :: _ => mv :: lwy tr g k (aft l mv)
open Classical in
theorem lwy_cons {g l : List Nat} {k : Nat} (h : Leads tr l g) (e : gd tr l g = k + 1) : ∃ mv r, (poss tr l).filter (fun mv => decide (gd tr (aft l mv) g = k ∧ Leads tr (aft l mv) g)) = mv :: r ∧ lwy tr g (k + 1) l = mv :: lwy tr g k (aft l mv) ∧ mv ∈ poss tr l ∧ gd tr (aft l mv) g = k ∧ Leads tr (aft l mv) g := by
  obtain ⟨v, hv, e1, e2⟩ := gd_next h e
  have hm : v ∈ (poss tr l).filter (fun mv => decide (gd tr (aft l mv) g = k ∧ Leads tr (aft l mv) g)) := List.mem_filter.mpr ⟨hv, decide_eq_true ⟨e1, e2⟩⟩
  cases hf : (poss tr l).filter (fun mv => decide (gd tr (aft l mv) g = k ∧ Leads tr (aft l mv) g)) with
  | nil => rw [hf] at hm; cases hm
  | cons mv r =>
    have : mv ∈ (poss tr l).filter (fun mv => decide (gd tr (aft l mv) g = k ∧ Leads tr (aft l mv) g)) := by rw [hf]; exact List.mem_cons_self
    obtain ⟨m1, m2⟩ := List.mem_filter.mp this
    have m2 := of_decide_eq_true m2
    refine ⟨mv, r, rfl, ?_, m1, m2.1, m2.2⟩
    show (match (poss tr l).filter (fun mv => decide (gd tr (aft l mv) g = k ∧ Leads tr (aft l mv) g)) with | [] => [] | mv :: _ => mv :: lwy tr g k (aft l mv)) = _
    rw [hf]
/-- it leads to the goal by the fewest moves -/
theorem lwy_ok : ∀ (k : Nat) (l g : List Nat), Leads tr l g → gd tr l g = k → okM tr l (lwy tr g k l) = true ∧ endB l (lwy tr g k l) = g ∧ (lwy tr g k l).length = k
  | 0, l, g, h, e => ⟨rfl, gd_zero h e, rfl⟩
  | k + 1, l, g, h, e => by
    obtain ⟨mv, r, _, e2, m1, m2, m3⟩ := lwy_cons h e
    obtain ⟨h1, h2, h3⟩ := lwy_ok k (aft l mv) g m3 m2
    rw [e2]
    refine ⟨?_, h2, by rw [List.length_cons, h3]⟩
    show (canM tr l mv && okM tr (aft l mv) _) = true
    rw [can_of m1, h1]
    rfl
end
end TR
namespace L2.TT
open PySem PySem.Spec PyProof.Rows
section
variable {X : Cx}
/-- {k: v}, k a tuple of ints and texts -/
def tDispT (tk tv : TE) : TE := fun σ H Q => ∀ p, H p = none → tk σ (upd H p (.dT [])) fun x H1 => tv σ H1 fun y H2 => H2 p = some (.dT []) ∧ ∃ (b : Addr) (k : List Key), x = .ref b ∧ H2 b = some (.tup (k.map kV)) ∧ Q (.ref p) (upd H2 p (.dT [(k, y)]))
theorem pe_dispT {pos : Pos} {k v : Expr} {tk tv : TE} (hu : X.A.units + 64 < cLine) (hk : PE X k tk) (hv : PE X v tv) : PE X (.Dict [some k] [v] pos) (tDispT tk tv) := by
  refine ⟨fun pins s σ H Q I q => ?_⟩
  have hn := I.hok.fresh (Nat.le_refl s.heap.objs.size)
  have I1 := I.laid (a := s.heap.objs.size) (o := .dT []) (h' := s.heap.push { cls := .type "dict", data := .dict #[] }) (t' := s.toks) (fun _ _ q => Heap.get?_push_of_some _ q) (Nat.le_refl _) (dt_empty s.heap I.big)
  have hshape := zip_pairTrees [some k] [v] X.env pos rfl rfl
  rw [arm_eval_Dict, hshape, dictDisplay_pairs (pairTrees [some k] [v] X.env pos) (by simp [pairTrees]) (by simp [pairTrees])]
  refine wpAny_bind (wpAny_standAt (wpAny_bind ?_))
  unfold subDict
  refine wpAny_bind (wpAny_alloc ?_)
  refine wpAny_bind (wpAny_holding ?_)
  rw [if_pos (by simp [pairTrees])]
  refine wpAny_bind (pairTrees_cons_walk (thn (hk.run pins _ σ _ _ I1 (q _ hn)) fun u s1 ⟨x, H1, I1, rx, q1⟩ => thn (hv.run pins s1 σ H1 _ I1 q1) fun w2 s2 ⟨y, H2, I2, ry, e, b, kk, ex, eb, q2⟩ => pairTrees_nil_walk ?_))
  subst ex
  cases (show u = Value.ref b from rx)
  refine wpAny_holding ?_
  obtain ⟨z, hd, xs, rel, dd⟩ := dt_of I2.hok e
  cases rel
  refine wpAny_bind ?_
  rw [List.forIn_cons]
  refine wpAny_bind (wpAny_bind (wpAny_dictSet_heap (knd := tupleKind (mixKind X.prog X.w)) (xs := []) (hsz := by simp) (show (tupleKind (mixKind X.prog X.w)).room X.A from (by show X.A.units < cLine; omega)) (key_of I2.hok eb) dd fun h' dd' hs => wpAny_pure ?_))
  dsimp only
  rw [List.forIn_nil]
  refine wpAny_pure (wpAny_pure (wpAny_pure (wpAny_pure ?_)))
  obtain ⟨o, es, ep, ho, h2, h3, h4, _, h5⟩ := dd'
  have rel : KT H2 (putK ([] : List (List Key × V)) kk y) (storedH [] kk b w2) := KT.put (.nil : KT H2 [] []) kk eb ry
  have hobj : ObjOk X.prog X.w (upd H2 s.heap.objs.size (.dT (putK [] kk y))) h' s.heap.objs.size (.dT (putK [] kk y)) := by
    refine ⟨by show 1 ≤ sizeLine; rw [sizeLine_eq]; decide, hd, _, rel.keeps fun c ys ec => ?_, o, es, ep, ho, h2, h3, h4, h5⟩
    rw [upd_ne (ne_of ec e (fun z => nomatch z))]
    exact ec
  exact ⟨.ref s.heap.objs.size, _, d_write I2 (by rw [e]; exact True.intro) hs ⟨o, ho⟩ hobj, rfl, q2⟩
end
end L2.TT
namespace TR
def hf (tr : List E2) (k : Nat) : List E2 := [((tr.getD k (0, 0)).1, tr.length + 1 + k), ((tr.getD k (0, 0)).2, tr.length + 1 + k)]
section
variable {tr : List E2}
/-- sorted lists of the same different items are the same -/
theorem sorted_ext {l m : List Nat} (h1 : l.Nodup) (h2 : m.Nodup) (s1 : l.Pairwise (· ≤ ·)) (s2 : m.Pairwise (· ≤ ·)) (h : ∀ x, x ∈ l ↔ x ∈ m) : l = m :=
  List.Perm.eq_of_pairwise (le := (· ≤ ·)) (fun a b _ _ h1 h2 => Nat.le_antisymm h1 h2) s1 s2 ((List.perm_ext_iff_of_nodup h1 h2).mpr h)
theorem nb_ext {tr tr' : List E2} (T : TreeL tr) (T' : TreeL tr') {v v' : Nat} (h : ∀ x, Adj tr v x ↔ Adj tr' v' x) : nb tr v = nb tr' v' :=
  sorted_ext (nb_nd T v) (nb_nd T' v') (srt_le _) (srt_le _) fun x => by rw [mem_nb T.ne, mem_nb T'.ne, h]
theorem nb_nrmS (T : TreeL tr) (v : Nat) : nb (nrmS tr) v = nb tr v := nb_ext T.nS T fun x => (nrmS_norm tr).adj
end
end TR
namespace TR
section
variable {tr : List E2}
def nm (o : List Nat) (v : Nat) : Nat := o.getD v 0
end
end TR
namespace TR
def onE (v : Nat) (e : E2) : Bool := decide (e.1 = v) || decide (e.2 = v)
def cut (tr : List E2) (v : Nat) : List E2 := tr.filter fun e => !onE v e
end TR
namespace TR
theorem tree_one : TreeL [(0, 1)] := tree_nil.push (x := 0) (Nat.le_refl _)
end TR
namespace TR
open PySem PySem.Spec PyProof.Rows L2 L2.TT StX ClX
theorem prs_one {H : Hp} {p : Addr} {a b : Nat} (hp : H p = some (.tup [iv a, iv b])) : Prs H [p] [(a, b)] := by
  refine ⟨rfl, fun i x e h1 h2 => ?_⟩
  match i with
  | 0 => cases h1; cases h2; exact hp
  | i + 1 => cases h1
theorem shaped_prT {l : List E2} (h : ∀ e ∈ l, e.1 ≤ 999 ∧ e.2 ≤ 999) : SeqAt.shaped (.tuple (l.map dpr)) = true := by
  have S := shwP_of h
  unfold SeqAt.shaped
  rw [Bool.and_eq_true]
  have := S.dp
  exact ⟨S.cl, decide_eq_true (by show PyData.depthAll (l.map dpr) + 1 ≤ 64; omega)⟩
theorem trk_readN {K : PySem.W.Frag} {σ : L2.St} {H : Hp} {Q : VK} {a : Addr} {ps : List Addr} {tr : List E2} (h3 : σ[3]? = some (some (.ref a))) (ha : H a = some (.tup (ps.map V.ref))) (hP : Prs H ps tr) (T : TreeL tr) (hl : tr.length ≤ 99)
    (k : ∀ (a' : Addr) (ps' : List Addr) (tr' : List E2) (H' : Hp), Same H H' → H' a' = some (.tup (ps'.map V.ref)) → Prs H' ps' tr' → TreeL tr' → tr'.length ≤ 99 → 1 ≤ tr'.length → tr'.length ≤ max 1 tr.length → Q (.ref a') H') :
    tIf (tTest (tOp (rNeD K) (tVar 3) (tTup tNil))) (tVar 3) (tTup (tCons (tTup (tCons (tC (V.int 0)) (tCons (tC (V.int 1)) tNil))) tNil)) σ H Q := by
  have two : (2 : Nat) ≤ sizeLine := by rw [sizeLine_eq]; decide
  have one : (1 : Nat) ≤ sizeLine := by rw [sizeLine_eq]; decide
  have le9 : ∀ e ∈ tr, e.1 ≤ 999 ∧ e.2 ≤ 999 := fun e he => by
    have := T.le e he
    omega
  refine ⟨_, h3, Nat.zero_le _, fun e ne => ?_⟩
  have se := same_upd ne (.tup [])
  refine ⟨.tuple (tr.map dpr), .tuple [], .tup (SqT.of (se _ _ ha)) (dpAll_prs (hP.same se)), .tup (SqT.of upd_same) .nil, shaped_prT le9, rfl, _, rfl, ?_⟩
  cases tr with
  | nil =>
    refine iteF ?_
    refine ⟨two, fun q nq => ⟨one, fun u nu => ?_⟩⟩
    have sq := se.trans (same_upd nq (.tup [V.int 0, V.int 1]))
    have su := same_upd nu (.tup [V.ref q])
    exact k u [q] [(0, 1)] _ (sq.trans su) upd_same (prs_one (su _ _ upd_same)) tree_one (by decide) (by decide) (by decide)
  | cons e0 r0 =>
    refine iteT ?_
    exact ⟨_, h3, k a ps (e0 :: r0) _ se (se _ _ ha) (hP.same se) T hl (Nat.succ_le_succ (Nat.zero_le _)) (Nat.le_max_right _ _)⟩
end TR
namespace L2.TT
open PySem PySem.Spec PyProof.Rows
theorem it_K {X : Cx} {K : PySem.W.Frag} (h : X.K = K) : IxR X (rIxT K) := by
  subst h
  exact ix_tup
end L2.TT
namespace TR
open PySem PySem.Spec PyProof.Rows L2 L2.TT StX ClX
theorem tyOf_same {K : PySem.W.Frag} {H H' : Hp} {v : V} {t : Value} (h : TyOf K H v t) (s : Same H H') : TyOf K H' v t := by
  cases h with
  | non => exact .non
  | bl x => exact .bl x
  | int x => exact .int x
  | str x => exact .str x
  | flt x => exact .flt x
  | lst e => exact .lst (s _ _ e)
  | frz e => exact .frz (s _ _ e)
  | tup e => exact .tup (s _ _ e)
  | dK e => exact .dK (s _ _ e)
  | dT e => exact .dT (s _ _ e)
  | ins e a b c d f => exact .ins (s _ _ e) a b c d f
theorem tyX_same {K : PySem.W.Frag} {H H' : Hp} {v : V} {t : Value} (h : TyX K H v t) (s : Same H H') : TyX K H' v t := by
  cases h with
  | base h => exact .base (tyOf_same h s)
  | byt b => exact .byt b
  | set e => exact .set (s _ _ e)
  | kList e c => exact .kList e c
  | kTuple e c => exact .kTuple e c
  | kDict e c => exact .kDict e c
  | fTuple e => exact .fTuple (s _ _ e)
  | fDict e => exact .fDict (s _ _ e)
theorem iv_same {K : PySem.W.Frag} {H H' : Hp} {v : V} (h : IV K H v) (s : Same H H') : IV K H' v := by
  rcases h with h | h | ⟨n, h, k⟩
  · exact .inl h
  · exact .inr (.inl h)
  · exact .inr (.inr ⟨n, tyX_same h s, k⟩)
end TR
namespace TR
open PySem PySem.Spec PyProof.Rows L2 L2.TT StX ClX
/-- a pair of stations as a key -/
def keyE (e : E2) : List Key := [Sum.inl (e.1 : Int), Sum.inl (e.2 : Int)]
theorem keyE_inj {a b : E2} (h : keyE a = keyE b) : a = b := by
  have h1 := congrArg (fun l => l[0]?) h
  have h2 := congrArg (fun l => l[1]?) h
  have e1 : (a.1 : Int) = (b.1 : Int) := Sum.inl.inj (Option.some.inj h1)
  have e2 : (a.2 : Int) = (b.2 : Int) := Sum.inl.inj (Option.some.inj h2)
  exact Prod.ext (by omega) (by omega)
theorem keys_nd {tr : List E2} (T : TreeL tr) {bs : List (List Nat)} (nd : bs.Nodup) (hb : ∀ m ∈ bs, Bd tr m) : (bs.map fun m => keyE (endsB m)).Nodup := by
  rw [List.nodup_iff_pairwise_ne, List.pairwise_map]
  exact (List.nodup_iff_pairwise_ne.mp nd).imp_of_mem fun {a b} ha hbb ne z => ne (ends_inj T (hb a ha) (hb b hbb) (keyE_inj z))
end TR
namespace TR
open PySem PySem.Spec PyProof.Rows L2 L2.TT StX ClX
/-- a dict of standings with their fewest moves -/
structure DH (tr : List E2) (g : List Nat) (kvs : List (List Key × V)) (bs : List (List Nat)) : Prop where
  keys : kvs.map (·.1) = bs.map fun m => keyE (endsB m)
  vals : ∀ (i : Nat) (m : List Nat) (kv : List Key × V), bs[i]? = some m → kvs[i]? = some kv → kv.2 = iv (gd tr m g)
theorem DH.len {tr : List E2} {g : List Nat} {kvs : List (List Key × V)} {bs : List (List Nat)} (d : DH tr g kvs bs) : kvs.length = bs.length := by
  have := congrArg List.length d.keys
  rw [List.length_map, List.length_map] at this
  exact this
theorem DH.one (tr : List E2) (g : List Nat) : DH tr g [(keyE (endsB g), iv 0)] [g] := ⟨rfl, fun i m kv h1 h2 => by
  cases i with
  | zero =>
    cases h1
    cases h2
    rw [gd_self]
  | succ i => cases h1⟩
theorem DH.get {tr : List E2} (T : TreeL tr) {g : List Nat} {kvs : List (List Key × V)} {bs : List (List Nat)} (d : DH tr g kvs bs) (nd : bs.Nodup) (hb : ∀ m ∈ bs, Bd tr m) {m : List Nat} (hm : m ∈ bs) : valV kvs (keyE (endsB m)) = some (iv (gd tr m g)) := by
  obtain ⟨i, hi⟩ := List.mem_iff_getElem?.mp hm
  have il := (List.getElem?_eq_some_iff.mp hi).1
  have kl : i < kvs.length := by rw [d.len]; exact il
  have hk := List.getElem?_eq_getElem kl
  have ek : kvs[i].1 = keyE (endsB m) := by
    have := congrArg (fun z => z[i]?) d.keys
    simp only [List.getElem?_map, hk, hi, Option.map_some] at this
    exact Option.some.inj this
  have ev := d.vals i m _ hi hk
  refine valV_at (by rw [d.keys]; exact keys_nd T nd hb) (i := i) ?_
  rw [hk, ← ek, ← ev]
theorem DH.non {tr : List E2} (T : TreeL tr) {g : List Nat} {kvs : List (List Key × V)} {bs : List (List Nat)} (d : DH tr g kvs bs) (hb : ∀ m ∈ bs, Bd tr m) {m : List Nat} (b : Bd tr m) (hm : m ∉ bs) : valV kvs (keyE (endsB m)) = none := by
  refine valV_none ?_
  rw [d.keys]
  intro z
  obtain ⟨k, hk, e⟩ := List.mem_map.mp z
  exact hm (ends_inj T (hb k hk) b (keyE_inj e) ▸ hk)
theorem DH.add {tr : List E2} {g : List Nat} {kvs : List (List Key × V)} {bs : List (List Nat)} (d : DH tr g kvs bs) {m : List Nat} {n : Nat} (hn : valV kvs (keyE (endsB m)) = none) (e : gd tr m g = n) : DH tr g (putK kvs (keyE (endsB m)) (iv n)) (bs ++ [m]) := by
  rw [putK_new _ hn]
  have l := d.len
  refine ⟨by rw [List.map_append, List.map_append, d.keys]; rfl, fun i m' kv h1 h2 => ?_⟩
  by_cases c : i < bs.length
  · rw [List.getElem?_append_left c] at h1
    rw [List.getElem?_append_left (by omega)] at h2
    exact d.vals i m' kv h1 h2
  · rw [List.getElem?_append_right (by omega)] at h1 h2
    rw [l] at h2
    cases e2 : i - bs.length with
    | zero =>
      rw [e2] at h1 h2
      cases h1
      cases h2
      rw [e]
    | succ j =>
      rw [e2] at h1
      cases h1
theorem SeR.dT {l : List Nat} {H : Hp} {p D : Addr} {m : Mv} {ks ks' : List (List Key × V)} (h : SeR l H p m) (hD : H D = some (.dT ks)) : SeR l (upd H D (.dT ks')) p m := by
  obtain ⟨a, b, h1, h2, h3⟩ := h
  unfold MvR at h2
  unfold PrR at h3
  refine ⟨a, b, by rw [upd_ne (ne_of h1 hD (by intro z; cases z))]; exact h1, ?_, ?_⟩
  · unfold MvR
    rw [upd_ne (ne_of h2 hD (by intro z; cases z))]
    exact h2
  · unfold PrR
    rw [upd_ne (ne_of h3 hD (by intro z; cases z))]
    exact h3
def spSrc (K : PySem.W.Frag) : Sp := fun vs H Q _ => ∃ (a t : Addr) (tr : List E2) (l : List Nat), vs = [.ref a, .ref t] ∧ Ard K H a tr ∧ TreeL tr ∧ tr.length ≤ 99 ∧ H t = some (.tup [iv (hd0 l), iv (lt0 l)]) ∧ Bd tr l ∧
  ∀ (D : Addr) (kvs : List (List Key × V)) (bs : List (List Nat)) (H' : Hp), Same H H' → H D = none → H' D = some (.dT kvs) → DH tr l kvs bs → bs.Nodup → (∀ m, Leads tr l m ↔ m ∈ bs) → Q (.ref D) H'
section
variable {P : Program} {w : World} {K : PySem.W.Frag} {mg : Str → Option Value} {base : Heap}
abbrev N_sc_src : List Str := ["web", "pair", "found", "edge", "fresh", "here", "move", "there"]
theorem sc_src : FnScope N_sc_src ["web", "pair"] (defScope s_law_search) := ⟨rfl, rfl, rfl, by decide +kernel, rfl, by decide +kernel, by decide +kernel⟩
theorem ok_src {f fS : Addr} {fd fdS : FuncData} (F : Fun K "_law_search" "_law_search" s_law_search f fd) (US : Use P w K mg base CX0 2 "_law_steps" fS fdS ["web", "pair"] (spSte K)) : FnOk P w K mg base CX0 3 f fd ["web", "pair"] (spSrc K) := by
  refine F.ok sc_src (fun vs H Q E h => ?_) (fun cdv A outer s H vs Q E hr h => ?_)
  · obtain ⟨a, t, tr, l, rfl, _⟩ := h
    rfl
  · obtain ⟨a, t, tr, l, rfl, hA, T, few, ht, b, k⟩ := h
    have hu64 : (A.deeper (envOfC "_law_search" (defScope s_law_search) s.heap.objs.size f cdv)).units + 64 < cLine := hr.units
    refine ⟨_, (pss_cons (ps_par (i := 2) (j := 3) (by rfl) sc_src.nd rfl rfl (by decide) rfl rfl (pa_cons (pe_dispT hu64 (pv 1) pe_int) (pa_cons (pe_lst (pa_cons (pv 1) pa_nil)) pa_nil)) (by rfl))
        (pss_cons (ps_while PassesOwn.never (pt_cmpR (op_neD hu64) (pv 3) (pe_lst pa_nil) (nomark _))
          (pss_cons (ps_set (i := 4) sc_src.nd rfl (.inl rfl) (pe_lst pa_nil))
          (pss_cons (ps_for PassesOwn.never rfl (pi_list (pv 3)) (pg_name (i := 5) sc_src.nd rfl (.inl rfl))
            (pss_one (ps_for PassesOwn.never rfl (pi_list (pe_use US hr (by rfl) (pa_cons (pv 0) (pa_cons (pv 5) pa_nil)))) (pg_tup rfl (pgs_cons (pg_name (i := 6) sc_src.nd rfl (.inl rfl)) (pgs_cons (pg_name (i := 7) sc_src.nd rfl (.inl rfl)) pgs_nil)))
              (pss_one (ps_if (pt_cmp (pc_dnotin (hu_of hr) (pv 7) (pv 2))) (pss_cons (ps_dput (hu_of hr) (pv 2) (pv 7) (pe_op op_add (pe_dget (hu_of hr) (pv 2) (pv 5) (fun _ _ => rfl)) pe_int) rfl)
                (pss_one (ps_expr (pe_bm PySem.F.plainAttrs_list PySem.F.slot_list_append PySem.F.type_list_append mt_append (pv 4) (pa_cons (pv 7) pa_nil))))) pss_nil)))))
          (pss_one (ps_set (i := 3) sc_src.nd rfl (.inl rfl) (pv 4))))))
        (pss_one (ps_ret (pv 2))))), ?_⟩
    have one : (1 : Nat) ≤ sizeLine := by rw [sizeLine_eq]; decide
    have nine : (tr.length + 1) * (tr.length + 1) ≤ 10000 := Nat.mul_le_mul (show tr.length + 1 ≤ 100 by omega) (show tr.length + 1 ≤ 100 by omega)
    refine fun D nD => ?_
    refine ⟨_, rfl, upd_same, t, keyE (endsB l), rfl, same_upd nD _ _ _ ht, ?_⟩
    rw [upd_upd]
    have sA := same_upd nD (.dT [(keyE (endsB l), V.int 0)])
    have hDA := upd_same (H := H) (a := D) (o := .dT [(keyE (endsB l), V.int 0)])
    generalize upd H D (.dT [(keyE (endsB l), V.int 0)]) = HA at sA hDA ⊢
    refine ⟨_, rfl, one, fun fr nfr => ⟨_, _, rfl, ?_⟩⟩
    have sB := same_upd nfr (.lst [V.ref t])
    have s0 := sA.trans sB
    have hD0 := sB _ _ hDA
    have hf0 : upd HA fr (.lst [V.ref t]) fr = some (.lst (([t] : List Addr).map V.ref)) := upd_same
    have L0 : Lay PrR (upd HA fr (.lst [V.ref t])) [t] ([l].map endsB) := .one (s0 _ _ ht)
    generalize upd HA fr (.lst [V.ref t]) = H0 at s0 hD0 hf0 L0 ⊢
    clear sA hDA sB nfr HA
    refine ⟨fun m σ H' => ∃ (kvs : List (List Key × V)) (bs qs : List (List Nat)) (kk : Nat) (fr : Addr) (ps : List Addr) (x4 x5 x6 x7 : Option V), m = 2 * ((tr.length + 1) * (tr.length + 1) - bs.length) + qs.length ∧ σ = [some (.ref a), some (.ref t), some (.ref D), some (.ref fr), x4, x5, x6, x7] ∧ Same H H' ∧ H' D = some (.dT kvs) ∧ DH tr l kvs bs ∧ Ly tr l bs qs kk ∧ H' fr = some (.lst (ps.map V.ref)) ∧ Lay PrR H' ps (qs.map endsB),
      ⟨_, _, [l], [l], 0, fr, [t], _, _, _, _, rfl, rfl, s0, hD0, DH.one tr l, Ly.start T b, hf0, L0⟩, ?_⟩
    clear s0 hD0 hf0 L0 H0 fr
    rintro m σ H1 ⟨kvs, bs, qs, kk, fr, ps, x4, x5, x6, x7, rfl, rfl, s1, hD1, dk, bc, hf1, L1⟩
    have bdl : ∀ m ∈ bs, Bd tr m := fun m hm => ((((bc.mem m).mp hm).1).bd T b).1
    have lps := L1.len
    rw [List.length_map] at lps
    refine ⟨_, rfl, Nat.zero_le _, fun e ne => ?_⟩
    have se := same_upd ne (.lst [])
    refine ⟨.list ((qs.map endsB).map dpr), .list [], .lst (SqL.of (se _ _ hf1)) (dpAll_prs (⟨(L1.same firmP se).len, (L1.same firmP se).at_⟩ : Prs _ ps (qs.map endsB))), .lst (SqL.of upd_same) .nil, shaped_prs _, rfl, _, rfl, ?_⟩
    have s1 := s1.trans se
    have hD1 := se _ _ hD1
    have hf1 := se _ _ hf1
    have L1 := L1.same firmP se
    generalize upd H1 e (.lst []) = H2 at s1 hD1 hf1 L1 ⊢
    cases qs with
    | nil =>
      refine iteF ?_
      exact ⟨_, rfl, k D kvs bs H2 s1 nD hD1 dk bc.nd (fun m => ⟨fun h => bc.empty T b m h, fun h => ((bc.mem m).mp h).1⟩)⟩
    | cons q0 qr =>
      refine iteT ?_
      generalize eq : q0 :: qr = qs at bc L1 lps ⊢
      have ql : 1 ≤ qs.length := by rw [← eq]; exact Nat.succ_le_succ (Nat.zero_le _)
      clear eq
      refine ⟨fun σ' H' => ∃ (kvs : List (List Key × V)) (bs' qs' : List (List Nat)) (kk : Nat) (fr : Addr) (ps : List Addr) (x4 x5 x6 x7 : Option V), 2 * ((tr.length + 1) * (tr.length + 1) - bs'.length) + qs'.length < 2 * ((tr.length + 1) * (tr.length + 1) - bs.length) + qs.length ∧ σ' = [some (.ref a), some (.ref t), some (.ref D), some (.ref fr), x4, x5, x6, x7] ∧ Same H H' ∧ H' D = some (.dT kvs) ∧ DH tr l kvs bs' ∧ Ly tr l bs' qs' kk ∧ H' fr = some (.lst (ps.map V.ref)) ∧ Lay PrR H' ps (qs'.map endsB),
        fun σ' H' ⟨kvs, bs', qs', kk, fr, ps, x4, x5, x6, x7, lt, r⟩ => ⟨_, lt, kvs, bs', qs', kk, fr, ps, x4, x5, x6, x7, rfl, r⟩, ?_⟩
      have bb := bodies_le T bc.nd bdl
      refine ⟨Nat.zero_le _, fun g ng => ?_⟩
      have sg := same_upd ng (.lst [])
      have s2 := s1.trans sg
      have ngH := s1.free ng
      have gf : fr ≠ g := ne_of_none hf1 ng
      have hD2 := sg _ _ hD1
      have hf2 := sg _ _ hf1
      have L2 := L1.same firmP sg
      have hg2 : upd H2 g (.lst []) g = some (.lst (([] : List Addr).map V.ref)) := upd_same
      generalize upd H2 g (.lst []) = H3 at s2 hD2 hf2 L2 hg2 ⊢
      clear sg s1 hD1 hf1 L1 ng
      refine ⟨_, rfl, fr, rfl, ⟨_, SqL.of hf2⟩, ?_⟩
      refine for_list (K := K) (a := fr) (xs := ps.map V.ref) (fun i σ H' => ∃ (kvs : List (List Key × V)) (bs' gs : List (List Nat)) (gps : List Addr) (x5 x6 x7 : Option V), σ = [some (.ref a), some (.ref t), some (.ref D), some (.ref fr), some (.ref g), x5, x6, x7] ∧ Same H H' ∧ H' D = some (.dT kvs) ∧ DH tr l kvs bs' ∧ H' fr = some (.lst (ps.map V.ref)) ∧ Lay PrR H' ps (qs.map endsB) ∧ H' g = some (.lst (gps.map V.ref)) ∧ Lay PrR H' gps (gs.map endsB) ∧ Lm tr l qs kk i 0 bs' gs ∧ bs'.length = bs.length + gs.length)
        ⟨kvs, bs, [], [], _, _, _, rfl, s2, hD2, dk, hf2, L2, hg2, .nil, bc.go, rfl⟩ (fun i σ H' _ ⟨_, _, _, _, _, _, _, _, _, _, _, h, _⟩ => SqL.of h) ?_ ?_
      · rintro i v σ H4 hv ⟨kvs4, bs4, gs, gps, x5, x6, x7, rfl, s4, hD4, dk4, hf4, L4, hg4, G4, bc4, lg⟩
        obtain ⟨q, eq, rfl, hq, heq, hqH⟩ := L4.get hv
        obtain ⟨m, hm, rfl⟩ := map_got heq
        obtain ⟨lm, em⟩ := (bc.q m).mp (List.mem_of_getElem? hm)
        have bmd := (lm.bd T b).1
        refine ⟨_, rfl, _, rfl, a, q, tr, m, rfl, hA.same s4, T, few, hqH, bmd, fun z zs H5 s5 nz hz LZ => ?_⟩
        have zg : z ≠ g := (ne_of_none hg4 nz).symm
        refine ⟨z, rfl, ⟨_, SqL.of hz⟩, ?_⟩
        have lzs := LZ.len
        refine for_list (K := K) (a := z) (xs := zs.map V.ref) (fun j σ H' => ∃ (kvs : List (List Key × V)) (bs' gs : List (List Nat)) (gps : List Addr) (x6 x7 : Option V), σ = [some (.ref a), some (.ref t), some (.ref D), some (.ref fr), some (.ref g), some (.ref q), x6, x7] ∧ Same H H' ∧ H' D = some (.dT kvs) ∧ DH tr l kvs bs' ∧ H' fr = some (.lst (ps.map V.ref)) ∧ Lay PrR H' ps (qs.map endsB) ∧ H' g = some (.lst (gps.map V.ref)) ∧ Lay PrR H' gps (gs.map endsB) ∧ H' z = some (.lst (zs.map V.ref)) ∧ Lay (SeR m) H' zs (poss tr m) ∧ PrR H' q (endsB m) ∧ Lm tr l qs kk i j bs' gs ∧ m ∈ bs' ∧ bs'.length = bs.length + gs.length)
          ⟨kvs4, bs4, gs, gps, _, _, rfl, s4.trans s5, s5 _ _ hD4, dk4, s5 _ _ hf4, L4.same firmP s5, s5 _ _ hg4, G4.same firmP s5, hz, LZ, s5 _ _ hqH, bc4, bc4.old m lm (by omega), lg⟩ (fun j σ H' _ ⟨_, _, _, _, _, _, _, _, _, _, _, _, _, _, h, _⟩ => SqL.of h) ?_ ?_
        · rintro j v σ H6 hv ⟨kvs6, bs6, gs6, gps6, x6, x7, rfl, s6, hD6, dk6, hf6, L6, hg6, G6, hz6, Z6, hq6, bm6, mm6, lg6⟩
          obtain ⟨pp, mv, rfl, hpp, hmv, hR⟩ := Z6.get hv
          obtain ⟨mp, bp, h1, h2, h3⟩ := hR
          have hc := can_of (List.mem_of_getElem? hmv)
          have bx : Bd tr (aft m mv) := (bmd.aft T hc).1
          have bdl6 : ∀ k ∈ bs6, Bd tr k := fun k hk => (((bm6.le k hk).1).bd T b).1
          refine ⟨pp, _, rfl, SqT.of h1, rfl, _, _, rfl, _, _, rfl, rfl, ?_⟩
          refine ⟨_, rfl, _, rfl, D, _, rfl, DGet.t (k := keyE (endsB (aft m mv))) hD6 h3, _, rfl, ?_⟩
          by_cases cz : aft m mv ∈ bs6
          · rw [dk6.get T bm6.nd bdl6 cz]
            refine iteF ?_
            exact ⟨kvs6, bs6, gs6, gps6, _, _, rfl, s6, hD6, dk6, hf6, L6, hg6, G6, hz6, Z6, hq6, bm6.skip hm hmv cz, mm6, lg6⟩
          · have vn := dk6.non T bdl6 bx cz
            rw [vn]
            refine iteT ?_
            have kl := dk6.len
            obtain ⟨bm7, eg⟩ := bm6.add T b hm lm em hmv cz
            have bb7 := bodies_le T bm7.nd (fun k hk => ((bm7.le k hk).1.bd T b).1)
            rw [List.length_append, List.length_singleton] at bb7
            have vm := dk6.get T bm6.nd bdl6 mm6
            rw [em] at vm
            have dg : DGet H6 D (.ref q) (some (iv kk)) := by rw [← vm]; exact DGet.t (k := keyE (endsB m)) hD6 hq6
            refine ⟨_, rfl, _, rfl, D, _, rfl, dg, _, _, rfl, rfl, _, rfl, _, rfl, D, _, rfl, DPut.t (k := keyE (endsB (aft m mv))) hD6 h3 (by rw [sizeLine_eq]; omega), ?_⟩
            have ev : V.int ((kk : Int) + 1) = iv (kk + 1) := by
              show V.int _ = V.int ((kk + 1 : Nat) : Int)
              congr 1
            rw [show (fun i j => V.int (i + j)) (kk : Int) 1 = iv (kk + 1) from ev]
            have dk8 := dk6.add (n := kk + 1) vn eg
            have s8 := same_old s6 nD (.dT (putK kvs6 (keyE (endsB (aft m mv))) (iv (kk + 1))))
            have hD8 := upd_same (H := H6) (a := D) (o := .dT (putK kvs6 (keyE (endsB (aft m mv))) (iv (kk + 1))))
            have hf8 : upd H6 D (.dT (putK kvs6 (keyE (endsB (aft m mv))) (iv (kk + 1)))) fr = _ := (upd_ne (ne_of hf6 hD6 (by intro z; cases z))).trans hf6
            have hg8 : upd H6 D (.dT (putK kvs6 (keyE (endsB (aft m mv))) (iv (kk + 1)))) g = _ := (upd_ne (ne_of hg6 hD6 (by intro z; cases z))).trans hg6
            have hz8 : upd H6 D (.dT (putK kvs6 (keyE (endsB (aft m mv))) (iv (kk + 1)))) z = _ := (upd_ne (ne_of hz6 hD6 (by intro z; cases z))).trans hz6
            have pr8 : ∀ {p : Addr} {x : E2}, PrR H6 p x → PrR (upd H6 D (.dT (putK kvs6 (keyE (endsB (aft m mv))) (iv (kk + 1))))) p x := fun {p x} h => by
              unfold PrR at h ⊢
              rw [upd_ne (ne_of h hD6 (by intro z; cases z))]
              exact h
            have hq8 := pr8 hq6
            have h38 := pr8 h3
            have L8 : Lay PrR _ ps (qs.map endsB) := L6.map fun p x _ h => pr8 h
            have G8 : Lay PrR _ gps6 (gs6.map endsB) := G6.map fun p x _ h => pr8 h
            have Z8 : Lay (SeR m) (upd H6 D (.dT (putK kvs6 (keyE (endsB (aft m mv))) (iv (kk + 1))))) zs (poss tr m) := Z6.map fun p x _ h => h.dT hD6
            clear pr8
            generalize upd H6 D (.dT (putK kvs6 (keyE (endsB (aft m mv))) (iv (kk + 1)))) = H8 at dk8 s8 hD8 hf8 hg8 hz8 hq8 h38 L8 G8 Z8 ⊢
            have lgp := G8.len
            rw [List.length_map] at lgp
            refine ⟨_, rfl, .inl ⟨rfl, _, SqL.of hg8⟩, _, rfl, g, _, _, rfl, rfl, hg8, by rw [List.length_map, sizeLine_eq]; omega, ?_⟩
            refine ⟨_, bs6 ++ [aft m mv], gs6 ++ [aft m mv], gps6 ++ [bp], _, _, rfl, same_old s8 ngH _, by rw [upd_ne (ne_of hD8 hg8 (by intro z; cases z))]; exact hD8, dk8, by rw [upd_ne gf]; exact hf8, L8.map fun p x _ h => tupyP _ _ _ _ _ _ hg8 h, by rw [upd_same, List.map_append]; rfl,
              ?_, by rw [upd_ne zg]; exact hz8, Z8.map fun p x _ h => tupySe m _ _ _ _ _ _ hg8 h, tupyP _ _ _ _ _ _ hg8 hq8, bm7, List.mem_append_left _ mm6, by rw [List.length_append, List.length_append, lg6]; rfl⟩
            rw [List.map_append]
            exact (G8.map fun p x _ h => tupyP _ _ _ _ _ _ hg8 h).snoc (tupyP _ _ _ _ _ _ hg8 h38)
        · rintro σ H6 ⟨kvs6, bs6, gs6, gps6, x6, x7, rfl, s6, hD6, dk6, hf6, L6, hg6, G6, hz6, Z6, hq6, bm6, mm6, lg6⟩
          rw [List.length_map, lzs] at bm6
          exact ⟨kvs6, bs6, gs6, gps6, _, _, _, rfl, s6, hD6, dk6, hf6, L6, hg6, G6, bm6.next hm, lg6⟩
      · rintro σ H4 ⟨kvs4, bs4, gs, gps, x5, x6, x7, rfl, s4, hD4, dk4, hf4, L4, hg4, G4, bc4, lg⟩
        rw [List.length_map, lps] at bc4
        have ly := bc4.done T b (fun m h1 h2 => (bc.q m).mpr ⟨h1, h2⟩)
        have bb4 := bodies_le T ly.nd (fun m hm => (((ly.mem m).mp hm).1.bd T b).1)
        exact ⟨_, rfl, kvs4, bs4, gs, kk + 1, g, gps, _, _, _, _, by omega, rfl, s4, hD4, dk4, ly, hg4, G4⟩
end
end TR
namespace TR
open PySem PySem.Spec PyProof.Rows L2 L2.TT StX ClX
theorem eqD_K {X : Cx} {K : PySem.W.Frag} (h : X.K = K) (hu : X.A.units + 64 < cLine) : OpR X (compareOp .Eq) (rEqD K) := by
  subst h
  exact op_eqD hu
end TR
namespace TR
open PySem PySem.Spec PyProof.Rows L2 L2.TT StX ClX
def mvD (m : Mv) : PyData := .tuple [.str (mvw m.1), di m.2]
theorem mvD_dp {K : PySem.W.Frag} {H : Hp} {p : Addr} {m : Mv} (h : MvR H p m) : Dp K H (.ref p) (mvD m) := .tup (SqT.of h) (.cons (.str _) (.cons (.int _) .nil))
theorem mvD_lay (m : Mv) : (mvD m).canLay0 = true := by
  show ((PyData.str (mvw m.1)).canLay0 && ((di m.2).canLay0 && true)) = true
  rw [show (PyData.str (mvw m.1)).canLay0 = true from by cases m.1 <;> decide +kernel]
  rfl
theorem mvD_shaped (m : Mv) : SeqAt.shaped (mvD m) = true := by
  unfold SeqAt.shaped
  rw [mvD_lay]
  rfl
theorem mvD_eqv (a b : Mv) : PyData.eqv (mvD a) (mvD b) = decide (a = b) := by
  obtain ⟨e, x⟩ := a
  obtain ⟨f, y⟩ := b
  have q : PyData.eqv (mvD (e, x)) (mvD (f, y)) = ((mvw e == mvw f) && (((x : Int) == (y : Int)) && true)) := by simp only [mvD, di, PyData.eqv, PyData.eqvAll]
  rw [q, Bool.and_true, Bool.eq_iff_iff, Bool.and_eq_true, beq_iff_eq, beq_iff_eq, decide_eq_true_iff]
  constructor
  · rintro ⟨h1, h2⟩
    have h3 : e = f := by
      have := mvw_eq e f
      rw [h1, decide_eq_true rfl] at this
      exact of_decide_eq_true this.symm
    rw [h3, show x = y by omega]
  · intro h
    cases h
    exact ⟨rfl, rfl⟩
theorem mvs_dp {K : PySem.W.Frag} {H : Hp} : ∀ {ps : List Addr} {ms : List Mv}, Lay MvR H ps ms → DpAll K H (ps.map V.ref) (ms.map mvD)
  | [], [], _ => .nil
  | [], _ :: _, h => by cases h.len
  | _ :: _, [], h => by cases h.len
  | p :: ps, m :: ms, h => .cons (mvD_dp (h.at_ 0 p m rfl rfl)) (mvs_dp ⟨Nat.succ.inj h.len, fun i p x hp hx => h.at_ (i + 1) p x hp hx⟩)
theorem mvs_lay : ∀ (ms : List Mv), PyData.canLayAll0 (ms.map mvD) = true
  | [] => rfl
  | m :: ms => by
    show ((mvD m).canLay0 && PyData.canLayAll0 (ms.map mvD)) = true
    rw [mvD_lay, mvs_lay]
    rfl
theorem mvs_depth : ∀ (ms : List Mv), PyData.depthAll (ms.map mvD) ≤ 1
  | [] => Nat.zero_le _
  | m :: ms => by
    have := mvs_depth ms
    have e : (mvD m).depth = 1 := rfl
    show max (mvD m).depth (PyData.depthAll (ms.map mvD)) ≤ 1
    omega
end TR
namespace TR
open PySem PySem.Spec PyProof.Rows L2 L2.TT StX ClX
theorem mem_one {α : Type} [DecidableEq α] {xs : List α} {x : α} (nd : xs.Nodup) (hx : x ∈ xs) : xs.filter (fun y => decide (y = x)) = [x] := by
  induction xs with
  | nil => cases hx
  | cons y r ih =>
    rw [List.nodup_cons] at nd
    rw [List.filter_cons]
    by_cases c : y = x
    · subst c
      rw [if_pos (decide_eq_true rfl)]
      congr 1
      rw [List.filter_eq_nil_iff]
      intro z hz e
      have := of_decide_eq_true e
      exact nd.1 (this ▸ hz)
    · rw [if_neg (by rw [decide_eq_true_iff]; exact c)]
      exact ih nd.2 ((List.mem_cons.mp hx).resolve_left (fun e => c e.symm))
theorem poss_nd {tr : List E2} (T : TreeL tr) (l : List Nat) : (poss tr l).Nodup := by
  unfold poss fre
  rw [List.nodup_append]
  refine ⟨?_, ?_, fun a ha b hb e => ?_⟩
  · rw [List.nodup_iff_pairwise_ne, List.pairwise_map]
    exact (List.nodup_iff_pairwise_ne.mp ((nb_nd T _).filter _)).imp fun {a b} ne z => ne (Prod.mk.inj z).2
  · rw [List.nodup_iff_pairwise_ne, List.pairwise_map]
    exact (List.nodup_iff_pairwise_ne.mp ((nb_nd T _).filter _)).imp fun {a b} ne z => ne (Prod.mk.inj z).2
  · obtain ⟨x, _, rfl⟩ := List.mem_map.mp ha
    obtain ⟨y, _, rfl⟩ := List.mem_map.mp hb
    cases e
def spWlk (K : PySem.W.Frag) : Sp := fun vs H Q _ => ∃ (a t q : Addr) (tr : List E2) (l : List Nat) (ps : List Addr) (ms : List Mv), vs = [.ref a, .ref t, .ref q] ∧ Ard K H a tr ∧ TreeL tr ∧ tr.length ≤ 99 ∧ H t = some (.tup [iv (hd0 l), iv (lt0 l)]) ∧ Bd tr l ∧ H q = some (.tup (ps.map V.ref)) ∧ Lay MvR H ps ms ∧ okM tr l ms = true ∧
  ∀ (z : Addr) (H' : Hp), Same H H' → H' z = some (.tup [iv (hd0 (endB l ms)), iv (lt0 (endB l ms))]) → Q (.ref z) H'
section
variable {P : Program} {w : World} {K : PySem.W.Frag} {mg : Str → Option Value} {base : Heap}
abbrev N_sc_wlk : List Str := ["web", "pair", "moves", "move", "after", "one", "there"]
theorem sc_wlk : FnScope N_sc_wlk ["web", "pair", "moves"] (defScope s_law_walked) := ⟨rfl, rfl, rfl, by decide +kernel, rfl, by decide +kernel, by decide +kernel⟩
theorem ok_wlk {f fS : Addr} {fd fdS : FuncData} (F : Fun K "_law_walked" "_law_walked" s_law_walked f fd) (US : Use P w K mg base CX0 2 "_law_steps" fS fdS ["web", "pair"] (spSte K)) : FnOk P w K mg base CX0 3 f fd ["web", "pair", "moves"] (spWlk K) := by
  refine F.ok sc_wlk (fun vs H Q E h => ?_) (fun cdv A outer s H vs Q E hr h => ?_)
  · obtain ⟨a, t, q, tr, l, ps, ms, rfl, _⟩ := h
    rfl
  · obtain ⟨a, t, q, tr, l, ps, ms, rfl, hA, T, few, ht, b, hq, LM, ok, k⟩ := h
    have hu64 : (A.deeper (envOfC "_law_walked" (defScope s_law_walked) s.heap.objs.size f cdv)).units + 64 < cLine := hr.units
    refine ⟨_, (pss_cons (ps_for PassesOwn.never rfl (pi_tup (pv 2)) (pg_name (i := 3) sc_wlk.nd rfl (.inr rfl))
          (pss_cons (ps_setLc (i := 4) (own := [("one", 5), ("there", 6)]) (g := (gTup K 2 (gCons (gName 5) (gCons (gName 6) gNil)))) (by rfl) sc_wlk.nd rfl rfl (sw_true rfl rfl rfl (by decide +kernel)) (pi_list (pe_use US hr (by rfl) (pa_cons (pv 0) (pa_cons (pv 1) pa_nil)))) (blkOk_by (N := N_sc_wlk) (sc := defScope s_law_walked) (by decide +kernel)) (fun _ _ _ _ _ => pg_tupK (K := K) (n := 2) (t := (gCons (gName 5) (gCons (gName 6) gNil))) rfl rfl (pgs_cons (pg_name (i := 5) sc_wlk.nd rfl (Or.inl rfl)) (pgs_cons (pg_name (i := 6) sc_wlk.nd rfl (Or.inl rfl)) pgs_nil)) rfl) (fun _ _ _ _ _ => pts_one (pt_cmpR (eqD_K (K := K) rfl hu64) (pv 5) (pv 3) (nomark _))) (fun _ _ _ _ _ => (pv 6)))
          (pss_cons (ps_if (pt_cmpR (op_eqD hu64) (pv 4) (pe_lst pa_nil) (nomark _)) (pss_one (ps_ret pe_non)) pss_nil)
          (pss_one (ps_set (i := 1) sc_wlk.nd rfl (.inl rfl) (pe_ix ix_list (pv 4) pe_int (fun _ _ => rfl)))))))
        (pss_one (ps_ret (pv 1)))), ?_⟩
    refine ⟨_, rfl, q, rfl, ⟨_, SqT.of hq⟩, ?_⟩
    refine for_tup (K := K) (a := q) (xs := ps.map V.ref) (fun i σ H' => ∃ (z : Addr) (x3 x4 x5 x6 : Option V), σ = [some (.ref a), some (.ref z), some (.ref q), x3, x4, x5, x6] ∧ Same H H' ∧ H' z = some (.tup [iv (hd0 (endB l (ms.take i))), iv (lt0 (endB l (ms.take i)))]))
      ⟨t, _, _, _, _, rfl, Same.refl _, ht⟩ (fun i σ H' _ ⟨_, _, _, _, _, _, s1, _⟩ => SqT.of (s1 _ _ hq)) ?_ ?_
    · rintro i v σ H1 hv ⟨z, x3, x4, x5, x6, rfl, s1, hz⟩
      obtain ⟨pm, mv, rfl, hpm, hmv, hM⟩ := LM.get hv
      have okI : okM tr l (ms.take i) = true ∧ canM tr (endB l (ms.take i)) mv = true := by
        have e : ms = ms.take i ++ mv :: ms.drop (i + 1) := by
          obtain ⟨lt, e⟩ := List.getElem?_eq_some_iff.mp hmv
          rw [← e, ← List.drop_eq_getElem_cons lt, List.take_append_drop]
        rw [e, okM_app, Bool.and_eq_true] at ok
        refine ⟨ok.1, ?_⟩
        have h2 : (canM tr (endB l (ms.take i)) mv && okM tr (aft (endB l (ms.take i)) mv) (ms.drop (i + 1))) = true := ok.2
        rw [Bool.and_eq_true] at h2
        exact h2.1
      obtain ⟨okT, can⟩ := okI
      have be := (Bd.run T _ b okT).1
      have en : endB l (ms.take (i + 1)) = aft (endB l (ms.take i)) mv := by
        rw [take_snoc hmv, endB_app]
        rfl
      generalize endB l (ms.take i) = x at hz can be en
      have s12 := s1
      refine ⟨_, rfl, _, rfl, a, z, tr, x, rfl, hA.same s1, T, few, hz, be, fun y ys H2 s2 ny hy LY => ⟨y, rfl, ⟨_, SqL.of hy⟩, fun C nC => ?_⟩⟩
      have hM2 := firmM _ _ _ _ (s1.trans s2) hM
      refine lc_list (K := K) (a := y) (xs := ys.map V.ref) (fun j H' => ∃ qs, Acc PrR H2 H' C qs ((((poss tr x).take j).filter fun w => decide (w = mv)).map fun w => endsB (aft x w))) ⟨[], .start nC⟩ (fun j H' _ ⟨_, a⟩ => SqL.of (a.sm _ _ hy)) ?_ ?_
      · rintro j v H' hv ⟨qs, ac⟩
        obtain ⟨pp, w, rfl, hpp, hw, hR⟩ := LY.get hv
        obtain ⟨a1, b1, h1, h2, h3⟩ := firmSe x _ _ _ _ ac.sm hR
        have e := fil_snoc (fun w => decide (w = mv)) (fun w => endsB (aft x w)) hw
        have fl := fil_len (xs := poss tr x) (i := j) (fun w => decide (w = mv))
        have pl2 := poss_len2 T x
        have lq := ac.lay.len
        rw [List.length_map] at lq
        refine ⟨pp, _, rfl, SqT.of h1, rfl, _, _, rfl, _, _, rfl, rfl, rfl, ?_⟩
        refine ⟨_, rfl, _, rfl, mvD w, mvD mv, mvD_dp h2, mvD_dp (firmM _ _ _ _ ac.sm hM2), mvD_shaped w, mvD_shaped mv, _, rfl, ?_⟩
        rw [mvD_eqv]
        by_cases c : w = mv
        · rw [decide_eq_true c]
          refine iteT ?_
          rw [if_pos (decide_eq_true c)] at e
          refine ⟨_, rfl, _, ac.own, by rw [List.length_map, sizeLine_eq]; omega, qs ++ [b1], ?_⟩
          rw [e]
          exact ac.push firmP tupyP nC (Same.refl _) h3
        · rw [decide_eq_false c]
          refine iteF ?_
          rw [if_neg (by rw [decide_eq_true_iff]; exact c), List.append_nil] at e
          exact ⟨qs, by rw [e]; exact ac⟩
      rintro H3 ⟨qs, ac⟩
      rw [List.length_map, LY.len, List.take_length, mem_one (poss_nd T x) (mem_poss.mpr (of_decide_eq_true can))] at ac
      obtain ⟨q0, hq0, h0⟩ := ac.lay.of (i := 0) (x := endsB (aft x mv)) rfl
      have s13 := (s1.trans s2).trans ac.sm
      refine ⟨_, rfl, Nat.zero_le _, fun e ne => ?_⟩
      have se := same_upd ne (.lst [])
      refine ⟨.list (([mv].map fun w => endsB (aft x w)).map dpr), .list [], .lst (SqL.of (se _ _ ac.own)) (dpAll_prs (⟨(ac.lay.same firmP se).len, (ac.lay.same firmP se).at_⟩ : Prs _ qs ([mv].map fun w => endsB (aft x w)))), .lst (SqL.of upd_same) .nil, shaped_prs _, rfl, _, rfl, ?_⟩
      refine iteF ?_
      refine ⟨_, rfl, C, _, _, _, rfl, rfl, SqL.of (se _ _ ac.own), atN (n := 0) (by rw [List.getElem?_map, hq0]; rfl), ?_⟩
      exact ⟨q0, _, _, _, _, rfl, s13.trans se, by rw [en]; exact se _ _ h0⟩
    · rintro σ H1 ⟨z, x3, x4, x5, x6, rfl, s1, hz⟩
      rw [List.length_map, LM.len, List.take_length] at hz
      exact ⟨_, rfl, k z H1 s1 hz⟩
end
end TR
namespace TR
open PySem PySem.Spec PyProof.Rows L2 L2.TT StX ClX
def spLst (K : PySem.W.Frag) : Sp := fun vs H Q _ => ∃ (a t D : Addr) (tr : List E2) (l m : List Nat) (kvs : List (List Key × V)) (bs : List (List Nat)), vs = [.ref a, .ref t, .ref D] ∧ Ard K H a tr ∧ TreeL tr ∧ tr.length ≤ 99 ∧ H t = some (.tup [iv (hd0 l), iv (lt0 l)]) ∧ Bd tr l ∧ H D = some (.dT kvs) ∧ DH tr m kvs bs ∧ bs.Nodup ∧ (∀ x, Leads tr m x ↔ x ∈ bs) ∧ Leads tr l m ∧
  ∀ (p : Addr) (ps : List Addr) (H' : Hp), Same H H' → H p = none → H' p = some (.tup (ps.map V.ref)) → Lay MvR H' ps (lwy tr m (gd tr l m) l) → Q (.ref p) H'
section
variable {P : Program} {w : World} {K : PySem.W.Frag} {mg : Str → Option Value} {base : Heap}
abbrev N_sc_lst : List Str := ["web", "first", "gaps", "found", "here", "nearer", "row"]
theorem sc_lst : FnScope N_sc_lst ["web", "first", "gaps"] (defScope s_law_least) := ⟨rfl, rfl, rfl, by decide +kernel, rfl, by decide +kernel, by decide +kernel⟩
theorem ok_lst {f fS : Addr} {fd fdS : FuncData} (F : Fun K "_law_least" "_law_least" s_law_least f fd) (N : Nm mg) (US : Use P w K mg base CX0 2 "_law_steps" fS fdS ["web", "pair"] (spSte K)) : FnOk P w K mg base CX0 3 f fd ["web", "first", "gaps"] (spLst K) := by
  refine F.ok sc_lst (fun vs H Q E h => ?_) (fun cdv A outer s H vs Q E hr h => ?_)
  · obtain ⟨a, t, D, tr, l, m, kvs, bs, rfl, _⟩ := h
    rfl
  · obtain ⟨a, t, D, tr, l, m, kvs, bs, rfl, hA, T, few, ht, b, hD, dk, nd, all, ld, k⟩ := h
    have hu64 : (A.deeper (envOfC "_law_least" (defScope s_law_least) s.heap.objs.size f cdv)).units + 64 < cLine := hr.units
    refine ⟨_, (pss_cons (ps_asg (pe_tup (pa_cons (pe_lst pa_nil) (pa_cons (pv 1) pa_nil))) (pg_tup rfl (pgs_cons (pg_name (i := 3) sc_lst.nd rfl (.inl rfl)) (pgs_cons (pg_name (i := 4) sc_lst.nd rfl (.inr rfl)) pgs_nil))))
        (pss_cons (ps_while PassesOwn.never (pt_cmpR op_gt (pe_dget (hu_of hr) (pv 2) (pv 4) (fun _ _ => rfl)) pe_int (nomark _))
          (pss_cons (ps_setLc (i := 5) (own := [("row", 6)]) (g := (gName 6)) (by rfl) sc_lst.nd rfl rfl (sw_true rfl rfl rfl (by decide +kernel)) (pi_list (pe_use US hr (by rfl) (pa_cons (pv 0) (pa_cons (pv 4) pa_nil)))) (blkOk_by (N := N_sc_lst) (sc := defScope s_law_least) (by decide +kernel)) (fun _ _ _ _ _ => pg_name (i := 6) sc_lst.nd rfl (Or.inl rfl)) (fun _ _ _ _ _ => pts_one (pt_cmpR op_eq (pe_dget (hu1 hu64) (pv 2) (pe_ix (it_K (K := K) rfl) (pv 6) pe_int (fun _ _ => rfl)) (fun _ _ => rfl)) (pe_op op_sub (pe_dget (hu_of hr) (pv 2) (pv 4) (fun _ _ => rfl)) pe_int) (nomark _))) (fun _ _ _ _ _ => (pv 6)))
          (pss_cons (ps_expr (pe_bm PySem.F.plainAttrs_list PySem.F.slot_list_append PySem.F.type_list_append mt_append (pv 3) (pa_cons (pe_ix ix_tup (pe_ix ix_list (pv 5) pe_int (fun _ _ => rfl)) pe_int (fun _ _ => rfl)) pa_nil)))
          (pss_one (ps_set (i := 4) sc_lst.nd rfl (.inr rfl) (pe_ix ix_tup (pe_ix ix_list (pv 5) pe_int (fun _ _ => rfl)) pe_int (fun _ _ => rfl)))))))
        (pss_one (ps_ret (pe_callTy call_tuple_of (by rfl) N.tuple boot_tuple (pa_cons (pv 3) pa_nil)))))), ?_⟩
    have two : (2 : Nat) ≤ sizeLine := by rw [sizeLine_eq]; decide
    have nine : (tr.length + 1) * (tr.length + 1) ≤ 10000 := Nat.mul_le_mul (show tr.length + 1 ≤ 100 by omega) (show tr.length + 1 ≤ 100 by omega)
    have bnd := gd_bound T b ld
    have bm := (ld.bd T b).1
    have bdl : ∀ x ∈ bs, Bd tr x := fun x hx => ((all x).mpr hx |>.bd T bm).1
    have inb : ∀ {x : List Nat}, Bd tr x → Leads tr x m → x ∈ bs := fun bx h => (all _).mp (h.symm T bx)
    have dgt : ∀ {Hx : Hp} {p : Addr} {x : List Nat}, Same H Hx → PrR Hx p (endsB x) → Bd tr x → Leads tr x m → DGet Hx D (.ref p) (some (iv (gd tr x m))) := fun {Hx p x} s h bx lx => by
      rw [← dk.get T nd bdl (inb bx lx)]
      exact DGet.t (k := keyE (endsB x)) (s _ _ hD) h
    generalize eN : gd tr l m = N at bnd k
    refine ⟨Nat.zero_le _, fun M nM => ⟨_, rfl, two, fun e ne => ?_⟩⟩
    have ac0 := Acc.start (R := MvR) nM
    have se := same_upd ne (.tup [.ref M, .ref t])
    have he := upd_same (H := upd H M (.lst [])) (a := e) (o := .tup [.ref M, .ref t])
    have ac1 := ac0.later firmM se
    generalize upd (upd H M (.lst [])) e (.tup [.ref M, .ref t]) = H1 at he ac1 ⊢
    clear ac0 se ne
    refine ⟨e, _, rfl, SqT.of he, rfl, _, _, rfl, _, _, rfl, rfl, ?_⟩
    clear he e
    refine ⟨fun d σ H' => ∃ (x : List Nat) (px : Addr) (ps : List Addr) (done : List Mv) (x5 x6 : Option V), d = gd tr x m ∧ σ = [some (.ref a), some (.ref t), some (.ref D), some (.ref M), some (.ref px), x5, x6] ∧ Acc MvR H H' M ps done ∧ PrR H' px (endsB x) ∧ Bd tr x ∧ Leads tr x m ∧ done.length + gd tr x m = N ∧ done ++ lwy tr m (gd tr x m) x = lwy tr m N l,
      ⟨_, l, t, [], [], _, _, rfl, rfl, ac1, ac1.sm _ _ ht, b, ld, by rw [eN]; simp, by rw [eN]; rfl⟩, ?_⟩
    rintro d σ H2 ⟨x, px, ps, done, x5, x6, rfl, rfl, ac, hpx, bx, lx, dl, el⟩
    have s2 := ac.sm
    refine ⟨_, rfl, _, rfl, D, _, rfl, dgt s2 hpx bx lx, _, _, rfl, rfl, _, rfl, ?_⟩
    cases ex : gd tr x m with
    | zero =>
      refine iteF ?_
      rw [ex] at el
      have el : done = lwy tr m N l := by rw [← el]; exact (List.append_nil _).symm
      refine ⟨_, rfl, M, _, rfl, .inl ⟨SqL.of ac.own, fun z nz => ?_⟩⟩
      have sz := same_upd nz (.tup (ps.map V.ref))
      refine k z ps _ (s2.trans sz) (s2.free nz) upd_same ?_
      rw [← el]
      exact ac.lay.same firmM sz
    | succ kk =>
      rw [show decide ((0 : Int) < ((kk + 1 : Nat) : Int)) = true from decide_eq_true (by omega)]
      refine iteT ?_
      rw [ex] at el dl
      refine ⟨fun σ' H' => ∃ (x : List Nat) (px : Addr) (ps : List Addr) (done : List Mv) (x5 x6 : Option V), gd tr x m < kk + 1 ∧ σ' = [some (.ref a), some (.ref t), some (.ref D), some (.ref M), some (.ref px), x5, x6] ∧ Acc MvR H H' M ps done ∧ PrR H' px (endsB x) ∧ Bd tr x ∧ Leads tr x m ∧ done.length + gd tr x m = N ∧ done ++ lwy tr m (gd tr x m) x = lwy tr m N l,
        fun σ' H' ⟨x, px, ps, done, x5, x6, lt, r⟩ => ⟨_, by omega, x, px, ps, done, x5, x6, rfl, r⟩, ?_⟩
      obtain ⟨mv, rs, ef, e2, hmv, em, lm⟩ := lwy_cons lx ex
      refine ⟨_, rfl, _, rfl, a, px, tr, x, rfl, hA.same s2, T, few, hpx, bx, fun y ys H3 s3 ny hy LY => ⟨y, rfl, ⟨_, SqL.of hy⟩, fun C nC => ?_⟩⟩
      have s23 := s2.trans s3
      refine lc_list (K := K) (a := y) (xs := ys.map V.ref) (fun j H' => ∃ qs, Acc (SeR x) H3 H' C qs (((poss tr x).take j).filter fun w => decide (gd tr (aft x w) m = kk))) ⟨[], .start nC⟩ (fun j H' _ ⟨_, a⟩ => SqL.of (a.sm _ _ hy)) ?_ ?_
      · rintro j v H' hv ⟨qs, a5⟩
        obtain ⟨pp, w, rfl, hpp, hw, hR⟩ := LY.get hv
        have hR' := firmSe x _ _ _ _ a5.sm hR
        obtain ⟨mp, bp, h1, h2, h3⟩ := id hR'
        have wp := List.mem_of_getElem? hw
        have lw := (gd_far T bx (can_of wp) lx).2
        have bw := (bx.aft T (can_of wp)).1
        have es := fil_snoc (fun w => decide (gd tr (aft x w) m = kk)) id hw
        rw [List.map_id, List.map_id] at es
        have fl := fil_len (xs := poss tr x) (i := j) (fun w => decide (gd tr (aft x w) m = kk))
        have pl2 := poss_len2 T x
        have s' := s23.trans a5.sm
        have hpx' : PrR H' px (endsB x) := firmP _ _ _ _ (s3.trans a5.sm) hpx
        refine ⟨rfl, _, rfl, _, rfl, pp, _, _, _, rfl, rfl, SqT.of h1, atN (n := 1) rfl, D, _, rfl, dgt s' h3 bw lw, _, rfl, _, rfl, D, _, rfl, dgt s' hpx' bx lx, _, _, rfl, rfl, rfl, _, rfl, ?_⟩
        rw [ex]
        have eC : decide (V.int ((gd tr (aft x w) m : Nat) : Int) = (fun i j => V.int (i - j)) ((kk + 1 : Nat) : Int) 1) = decide (gd tr (aft x w) m = kk) := decide_eq_decide.mpr ⟨fun h => by have := V.int.inj h; omega, fun h => by rw [h]; congr 1; omega⟩
        rw [eC]
        by_cases cw : gd tr (aft x w) m = kk
        · rw [decide_eq_true cw]
          refine iteT ?_
          rw [if_pos (decide_eq_true cw)] at es
          have lq := a5.lay.len
          refine ⟨_, rfl, _, a5.own, by rw [List.length_map, sizeLine_eq]; omega, qs ++ [pp], ?_⟩
          rw [es]
          exact a5.push (firmSe x) (tupySe x) nC (Same.refl _) hR'
        · rw [decide_eq_false cw]
          refine iteF ?_
          rw [if_neg (by rw [decide_eq_true_iff]; exact cw), List.append_nil] at es
          exact ⟨qs, by rw [es]; exact a5⟩
      rintro H6 ⟨qs, a6⟩
      rw [List.length_map, LY.len, List.take_length] at a6
      have ef2 : (poss tr x).filter (fun w => decide (gd tr (aft x w) m = kk)) = mv :: rs := by
        rw [← ef]
        refine List.filter_congr fun w hw => ?_
        exact decide_eq_decide.mpr ⟨fun h => ⟨h, (gd_far T bx (can_of hw) lx).2⟩, fun h => h.1⟩
      rw [ef2] at a6
      obtain ⟨q0, hq0, mp, bp, h1, h2, h3⟩ := a6.lay.of (i := 0) (x := mv) rfl
      have ac6 := (ac.later firmM s3).later firmM a6.sm
      have g0 : atI (qs.map V.ref) 0 = some (.ref q0) := atN (n := 0) (by rw [List.getElem?_map, hq0]; rfl)
      have lq := ac.lay.len
      refine ⟨_, rfl, .inl ⟨rfl, _, SqL.of ac6.own⟩, _, rfl, C, _, _, _, rfl, rfl, SqL.of a6.own, g0, q0, _, _, _, rfl, rfl, SqT.of h1, atN (n := 0) rfl, M, _, _, rfl, rfl, ac6.own, by rw [List.length_map, sizeLine_eq]; omega, ?_⟩
      have CM : C ≠ M := fun z => by
        have := (ac.later firmM s3).own
        rw [← z, nC] at this
        cases this
      have ac7 := ac6.push firmM tupyM nM (Same.refl _) h2
      have own7 : ∀ {Hy : Hp}, Hy = upd H6 M (.lst (ps.map V.ref ++ [V.ref mp])) → Hy C = some (.lst (qs.map V.ref)) ∧ Hy q0 = some (.tup [.ref mp, .ref bp]) ∧ PrR Hy bp (endsB (aft x mv)) := fun {Hy} e => by
        subst e
        exact ⟨by rw [upd_ne CM]; exact a6.own, by rw [upd_ne (ne_of h1 ac6.own (by intro z; cases z))]; exact h1, tupyP _ _ _ _ _ _ ac6.own h3⟩
      obtain ⟨o1, o2, o3⟩ := own7 rfl
      refine ⟨_, rfl, C, _, _, _, rfl, rfl, SqL.of o1, g0, q0, _, _, _, rfl, rfl, SqT.of o2, atN (n := 1) rfl, ?_⟩
      refine ⟨aft x mv, bp, ps ++ [mp], done ++ [mv], _, _, by omega, rfl, ac7, o3, (bx.aft T (can_of hmv)).1, lm, by rw [List.length_append, em]; simp; omega, ?_⟩
      rw [em, ← el, e2, List.append_assoc]
      rfl
end
end TR
namespace TR
open PySem PySem.Spec PyProof.Rows L2 L2.TT StX ClX
/-- a method of the class at C, with its promise -/
structure MU (P : Program) (w : World) (K : PySem.W.Frag) (mg : Str → Option Value) (base : Heap) (C : Addr) (k : Nat) (x : Str) (f : Addr) (fd : FuncData) (ps : List Str) (sp : Sp) : Prop where
  m : Meth K C x f
  G : FnOk P w K mg base CX0 k f fd ps sp
  b : Binds K fd ps []
end TR
namespace TR
open PySem PySem.Spec PyProof.Rows L2 L2.TT StX ClX
def spAft : Sp := fun vs H Q _ => ∃ (p : Addr) (l : List Nat) (m : Mv), vs = [.ref p, .str (mvw m.1), iv m.2] ∧ BdR H p l ∧ 2 ≤ l.length ∧ l.length ≤ 1000 ∧ ∀ q H', Same H H' → H q = none → BdR H' q (aft l m) → Q (.ref q) H'
def StR (H : Hp) (p : Addr) (x : Mv × List Nat) : Prop := ∃ a b, H p = some (.tup [.ref a, .ref b]) ∧ MvR H a x.1 ∧ BdR H b x.2
theorem tupyS : Tupy StR := fun _ _ _ _ _ _ hD ⟨a, b, h1, h2, h3⟩ => ⟨a, b, by rw [upd_ne (ne_of h1 hD (by intro z; cases z))]; exact h1, tupyM _ _ _ _ _ _ hD h2, tupyB _ _ _ _ _ _ hD h3⟩
theorem nb_in {tr : List E2} (T : TreeL tr) {v w : Nat} (h : w ∈ nb tr v) : w ≤ tr.length := (T.adj_le ((mem_nb T.ne).mp h)).2
theorem nb_len2 {tr : List E2} (T : TreeL tr) (v : Nat) : (nb tr v).length ≤ tr.length + 1 := nd_len (nb_nd T v) fun _ h => nb_in T h
theorem fre_snoc (l : List Nat) (e : Bool) {xs : List Nat} {i w : Nat} (h : xs[i]? = some w) : (((xs.take (i + 1)).filter fun w => decide (w ∉ l)).map fun w => (e, w)) = (((xs.take i).filter fun w => decide (w ∉ l)).map fun w => (e, w)) ++ (if w ∉ l then [(e, w)] else []) := by
  rw [take_snoc h, List.filter_append, List.map_append]
  congr 1
  by_cases c : w ∉ l
  · rw [if_pos c]
    simp [c]
  · rw [if_neg c]
    simp [c]
theorem firmS : Firm StR := fun _ _ _ _ s ⟨a, b, h1, h2, h3⟩ => ⟨a, b, s _ _ h1, s _ _ h2, s _ _ h3⟩
def stpL (tr : List E2) (l : List Nat) : List (Mv × List Nat) := (poss tr l).map fun m => (m, aft l m)
def spStp (C : Addr) : Sp := fun vs H Q _ => ∃ (r p : Addr) (tr : List E2) (l : List Nat), vs = [.ref r, .ref p] ∧ RailAt C H r tr ∧ BdR H p l ∧ Bd tr l ∧ ∀ q ps H', Same H H' → H' q = some (.lst (ps.map V.ref)) → Lay StR H' ps (stpL tr l) → Q (.ref q) H'
theorem mvw_hdV (a : Bool) : decide (V.str (mvw a) = V.str "head") = a := by cases a <;> decide +kernel
theorem atHd {l : List Nat} (h : 2 ≤ l.length) : atI (l.map iv) 0 = some (iv (hd0 l)) := by
  obtain ⟨a, r, rfl, _⟩ := bd_cons h
  exact atI_pos (by decide) rfl
theorem atLt {l : List Nat} (h : 2 ≤ l.length) : atI (l.map iv) (-1) = some (iv (lt0 l)) := by
  obtain ⟨r, b, rfl, _⟩ := bd_snoc h
  rw [lt0_snoc]
  exact at_last
/-- t[:-1] and t[1:] of a body -/
theorem slB_init {K : PySem.W.Frag} {H : Hp} {Q : VK} {a : Addr} {l : List Nat} (ha : BdR H a l) (h : 2 ≤ l.length) (k : ∀ p H', Same H H' → H p = none → BdR H' p l.dropLast → Q (.ref p) H') : rSlA K (.ref a) none (some (-1)) H Q := by
  have e : HT.sIx (l.map iv).length (l.map iv).length (some (-1)) = l.length - 1 := by
    rw [List.length_map]
    show ((-1 : Int) + (l.length : Int)).toNat = l.length - 1
    omega
  refine ⟨a, _, rfl, SqT.of ha, fun ⟨_, z⟩ => ?_, fun _ p np => k p _ (same_upd np _) np ?_⟩
  · rw [e, List.length_map] at z
    omega
  · have e2 : cutV (l.map iv) none (some (-1)) = l.dropLast.map iv := by
      unfold cutV
      rw [e, HT.sIx_none, List.drop_zero, Nat.sub_zero, ← List.map_take, List.dropLast_eq_take]
    rw [e2]
    exact upd_same
theorem slB_tail {K : PySem.W.Frag} {H : Hp} {Q : VK} {a : Addr} {l : List Nat} (ha : BdR H a l) (h : 2 ≤ l.length) (k : ∀ p H', Same H H' → H p = none → BdR H' p l.tail → Q (.ref p) H') : rSlA K (.ref a) (some 1) none H Q := by
  have e : HT.sIx (l.map iv).length 0 (some 1) = 1 := by
    rw [List.length_map]
    show min 1 l.length = 1
    omega
  refine ⟨a, _, rfl, SqT.of ha, fun ⟨z, _⟩ => ?_, fun _ p np => k p _ (same_upd np _) np ?_⟩
  · rw [e] at z
    cases z
  · have e2 : cutV (l.map iv) (some 1) none = l.tail.map iv := by
      unfold cutV
      rw [e, HT.sIx_none, ← List.map_drop, List.length_map, List.take_of_length_le (by rw [List.length_map, List.length_drop]; exact Nat.le_refl _), List.drop_one]
    rw [e2]
    exact upd_same
section
variable {P : Program} {w : World} {K : PySem.W.Frag} {mg : Str → Option Value} {base : Heap}
abbrev N_sc_aft : List Str := ["body", "end", "station"]
theorem sc_aft : FnScope N_sc_aft ["body", "end", "station"] (defScope s_body_after) := ⟨rfl, rfl, rfl, by decide +kernel, rfl, by decide +kernel, by decide +kernel⟩
theorem ok_aft {f : Addr} {fd : FuncData} (F : Fun K "_body_after" "_body_after" s_body_after f fd) : FnOk P w K mg base CX0 1 f fd ["body", "end", "station"] spAft := by
  refine F.ok sc_aft (fun vs H Q E h => ?_) (fun cdv A outer s H vs Q E hr h => ?_)
  · obtain ⟨p, l, m, rfl, _⟩ := h
    rfl
  · obtain ⟨p, l, m, rfl, hp, h2, hl, k⟩ := h
    refine ⟨_, (pss_cons (ps_if (pt_cmpR op_eq (pv 1) pe_str (nomark _)) (pss_one (ps_ret (pe_op op_catA (pe_tup (pa_cons (pv 2) pa_nil)) (pe_slice sl_tupA (pv 0) po_none (po_some (pe_un un_neg pe_int)))))) pss_nil)
        (pss_one (ps_ret (pe_op op_catA (pe_slice sl_tupA (pv 0) (po_some pe_int) po_none) (pe_tup (pa_cons (pv 2) pa_nil)))))), ?_⟩
    obtain ⟨e, x⟩ := m
    have one : (1 : Nat) ≤ sizeLine := by rw [sizeLine_eq]; decide
    refine ⟨_, rfl, rfl, _, rfl, ?_⟩
    rw [mvw_hdV]
    cases e with
    | true =>
      refine iteT ?_
      refine ⟨_, rfl, one, fun u nu => ?_⟩
      have su := same_upd nu (.tup [iv x])
      refine ⟨_, rfl, ?_⟩
      unfold tNoPart
      refine ⟨_, rfl, _, rfl, slB_init (su _ _ hp) h2 fun q H2 s2 nq hq => ?_⟩
      have hu2 := s2 _ _ (upd_same (H := H) (a := u) (o := .tup [iv x]))
      refine ⟨u, q, _, _, rfl, rfl, SqT.of hu2, SqT.of hq, by rw [List.length_map, List.length_dropLast, sizeLine_eq, List.length_singleton]; omega, fun z => (by cases z), fun _ z => ?_, fun _ _ p2 np2 => ?_⟩
      · have := congrArg List.length z
        rw [List.length_map, List.length_dropLast, List.length_nil] at this
        omega
      · exact k p2 _ ((su.trans s2).trans (same_upd np2 _)) ((su.trans s2).free np2) upd_same
    | false =>
      refine iteF ?_
      refine ⟨_, rfl, ?_⟩
      refine ⟨_, rfl, ?_⟩
      unfold tNoPart
      refine slB_tail hp h2 fun q H2 s2 nq hq => ?_
      refine ⟨_, rfl, one, fun u nu => ?_⟩
      have su := same_upd nu (.tup [iv x])
      refine ⟨q, u, _, _, rfl, rfl, SqT.of (su _ _ hq), SqT.of upd_same, by rw [List.length_map, List.length_tail, sizeLine_eq, List.length_singleton]; omega, fun z => ?_, fun _ z => (by cases z), fun _ _ p2 np2 => ?_⟩
      · have := congrArg List.length z
        rw [List.length_map, List.length_tail, List.length_nil] at this
        omega
      · refine k p2 _ ((s2.trans su).trans (same_upd np2 _)) ((s2.trans su).free np2) ?_
        show _ = some (HO.tup ((l.tail ++ [x]).map iv))
        rw [upd_same, List.map_append]
        rfl
abbrev N_sc_stp : List Str := ["railway", "body", "heads", "near", "tails", "end"]
theorem sc_stp : FnScope N_sc_stp ["railway", "body"] (defScope s_steps_from) := ⟨rfl, rfl, rfl, by decide +kernel, rfl, by decide +kernel, by decide +kernel⟩
theorem ok_stp {f fA fN C : Addr} {fd fdA fdN : FuncData} (F : Fun K "steps_from" "steps_from" s_steps_from f fd) (X : TxtR K mg C) (UA : Use P w K mg base CX0 1 "_body_after" fA fdA ["body", "end", "station"] spAft) (Mn : MU P w K mg base C 5 "neighbours" fN fdN ["self", "station"] (spNbr C)) : FnOk P w K mg base CX0 6 f fd ["railway", "body"] (spStp C) := by
  refine F.ok sc_stp (fun vs H Q E h => ?_) (fun cdv A outer s H vs Q E hr h => ?_)
  · obtain ⟨r, p, tr, l, rfl, _⟩ := h
    rfl
  · obtain ⟨r, p, tr, l, rfl, R, hp, b, k⟩ := h
    have hr1 : Room 1 (A.deeper (envOfC "steps_from" (defScope s_steps_from) s.heap.objs.size f cdv)) := hr.mono (by decide)
    refine ⟨_, (pss_cons (ps_setLc (i := 2) (own := [("near", 3)]) (g := (gName 3)) (by rfl) sc_stp.nd rfl rfl (sw_true rfl rfl rfl (by decide +kernel)) (pi_tup (pe_meth (pv 0) X.cl Mn.m Mn.G hr Mn.b .nil pass0 (pa_cons (pe_ix ix_tup (pv 1) pe_int (fun _ _ => rfl)) pa_nil))) (blkOk_by (N := N_sc_stp) (sc := defScope s_steps_from) (by decide +kernel)) (fun _ _ _ _ _ => pg_name (i := 3) sc_stp.nd rfl (Or.inl rfl)) (fun _ _ _ _ _ => pts_one (pt_cmpR (nin_K (K := K) rfl) (pv 3) (pv 1) (by with_unfolding_all rfl))) (fun _ _ _ _ _ => (pe_tup (pa_cons pe_str (pa_cons (pv 3) pa_nil)))))
        (pss_cons (ps_setLc (i := 4) (own := [("near", 3)]) (g := (gName 3)) (by rfl) sc_stp.nd rfl rfl (sw_true rfl rfl rfl (by decide +kernel)) (pi_tup (pe_meth (pv 0) X.cl Mn.m Mn.G hr Mn.b .nil pass0 (pa_cons (pe_ix ix_tup (pv 1) (pe_un un_neg pe_int) (fun _ _ => rfl)) pa_nil))) (blkOk_by (N := N_sc_stp) (sc := defScope s_steps_from) (by decide +kernel)) (fun _ _ _ _ _ => pg_name (i := 3) sc_stp.nd rfl (Or.inl rfl)) (fun _ _ _ _ _ => pts_one (pt_cmpR (nin_K (K := K) rfl) (pv 3) (pv 1) (by with_unfolding_all rfl))) (fun _ _ _ _ _ => (pe_tup (pa_cons pe_str (pa_cons (pv 3) pa_nil)))))
        (pss_one (ps_ret (pe_lc (own := [("end", 5), ("near", 3)]) (g := (gTup K 2 (gCons (gName 5) (gCons (gName 3) gNil)))) (tt := tYes) rfl sc_stp.nd (pi_list (pe_op op_catL (pv 2) (pv 4))) (blkOk_by (N := N_sc_stp) (sc := defScope s_steps_from) (by decide +kernel)) (fun _ _ _ _ _ => pg_tupK (K := K) (n := 2) (t := (gCons (gName 5) (gCons (gName 3) gNil))) rfl rfl (pgs_cons (pg_name (i := 5) sc_stp.nd rfl (Or.inl rfl)) (pgs_cons (pg_name (i := 3) sc_stp.nd rfl (Or.inl rfl)) pgs_nil)) rfl) (fun _ _ _ _ _ => pts_nil) (fun _ _ _ _ _ => (pe_tup (pa_cons (pe_tup (pa_cons (pv 5) (pa_cons (pv 3) pa_nil))) (pa_cons (pe_use UA hr1 (by rfl) (pa_cons (pv 1) (pa_cons (pv 5) (pa_cons (pv 3) pa_nil)))) pa_nil))))))))), ?_⟩
    have T := R.T
    have few := R.few
    have two : (2 : Nat) ≤ sizeLine := by rw [sizeLine_eq]; decide
    obtain ⟨_, _, dx, tt, na, Aa, L, ps0, ts0, h1, _⟩ := id R
    refine ⟨_, rfl, r, dx, _, rfl, h1, flR_no (by decide +kernel) (by decide +kernel) (by decide +kernel) (by decide +kernel), _, rfl, p, _, _, _, rfl, rfl, SqT.of hp, atHd b.two, r, tr, hd0 l, rfl, R, b.hle, fun t ht => ?_⟩
    refine ⟨t, rfl, ⟨_, SqT.of ht⟩, fun D nD => ?_⟩
    refine lc_tup (K := K) (a := t) (xs := (nb tr (hd0 l)).map iv) (fun i H' => ∃ qs, Acc MvR H H' D qs ((((nb tr (hd0 l)).take i).filter fun w => decide (w ∉ l)).map fun w => (true, w))) ⟨[], .start nD⟩ (fun i H' _ ⟨_, a⟩ => SqT.of (a.sm _ _ ht)) ?_ ?_
    · rintro i v H' hv ⟨qs, a⟩
      obtain ⟨x, hx, rfl⟩ := map_got hv
      have lb : qs.length < sizeLine := by
        have q1 := a.lay.len
        rw [List.length_map] at q1
        have q2 := List.length_filter_le (fun w => decide (w ∉ l)) ((nb tr (hd0 l)).take i)
        rw [List.length_take] at q2
        have := nb_len2 T (hd0 l)
        rw [sizeLine_eq]
        omega
      have e := fre_snoc l true hx
      refine ⟨rfl, _, rfl, _, rfl, p, _, rfl, .inr (SqT.of (a.sm _ _ hp)), rfl, iv_flat l, _, rfl, ?_⟩
      rw [inV_iv]
      by_cases c : x ∉ l
      · rw [if_pos c] at e
        rw [e, show (if true = true then !decide (x ∈ l) else decide (x ∈ l)) = true from by simp [c]]
        refine iteT ?_
        exact ⟨_, rfl, two, fun q nq => ⟨_, same_upd nq _ _ _ a.own, by rw [List.length_map]; exact lb, qs ++ [q], a.push firmM tupyM nD (same_upd nq _) upd_same⟩⟩
      · rw [if_neg c, List.append_nil] at e
        rw [e, show (if true = true then !decide (x ∈ l) else decide (x ∈ l)) = false from by simp [Decidable.not_not.mp c]]
        exact iteF ⟨qs, a⟩
    rintro H1 ⟨qs1, a1⟩
    rw [show (nb tr (hd0 l)).take ((nb tr (hd0 l)).map iv).length = nb tr (hd0 l) from List.take_of_length_le (by rw [List.length_map]; exact Nat.le_refl _)] at a1
    have s1 := a1.sm
    have R1 := R.same s1
    have h11 := s1 _ _ h1
    refine ⟨_, rfl, r, dx, _, rfl, h11, flR_no (by decide +kernel) (by decide +kernel) (by decide +kernel) (by decide +kernel), _, rfl, _, rfl, p, _, _, _, rfl, rfl, SqT.of (s1 _ _ hp), atLt b.two, r, tr, lt0 l, rfl, R1, b.lle, fun t2 ht2 => ?_⟩
    refine ⟨t2, rfl, ⟨_, SqT.of ht2⟩, fun D2 nD2 => ?_⟩
    refine lc_tup (K := K) (a := t2) (xs := (nb tr (lt0 l)).map iv) (fun i H' => ∃ qs, Acc MvR H1 H' D2 qs ((((nb tr (lt0 l)).take i).filter fun w => decide (w ∉ l)).map fun w => (false, w))) ⟨[], .start nD2⟩ (fun i H' _ ⟨_, a⟩ => SqT.of (a.sm _ _ ht2)) ?_ ?_
    · rintro i v H' hv ⟨qs, a⟩
      obtain ⟨x, hx, rfl⟩ := map_got hv
      have lb : qs.length < sizeLine := by
        have q1 := a.lay.len
        rw [List.length_map] at q1
        have q2 := List.length_filter_le (fun w => decide (w ∉ l)) ((nb tr (lt0 l)).take i)
        rw [List.length_take] at q2
        have := nb_len2 T (lt0 l)
        rw [sizeLine_eq]
        omega
      have e := fre_snoc l false hx
      refine ⟨rfl, _, rfl, _, rfl, p, _, rfl, .inr (SqT.of ((s1.trans a.sm) _ _ hp)), rfl, iv_flat l, _, rfl, ?_⟩
      rw [inV_iv]
      by_cases c : x ∉ l
      · rw [if_pos c] at e
        rw [e, show (if true = true then !decide (x ∈ l) else decide (x ∈ l)) = true from by simp [c]]
        refine iteT ?_
        exact ⟨_, rfl, two, fun q nq => ⟨_, same_upd nq _ _ _ a.own, by rw [List.length_map]; exact lb, qs ++ [q], a.push firmM tupyM nD2 (same_upd nq _) upd_same⟩⟩
      · rw [if_neg c, List.append_nil] at e
        rw [e, show (if true = true then !decide (x ∈ l) else decide (x ∈ l)) = false from by simp [Decidable.not_not.mp c]]
        exact iteF ⟨qs, a⟩
    rintro H2 ⟨qs2, a2⟩
    rw [show (nb tr (lt0 l)).take ((nb tr (lt0 l)).map iv).length = nb tr (lt0 l) from List.take_of_length_le (by rw [List.length_map]; exact Nat.le_refl _)] at a2
    have a1 := a1.later firmM a2.sm
    have s2 := s1.trans a2.sm
    have LP : Lay MvR H2 (qs1 ++ qs2) (poss tr l) := a1.lay.app a2.lay
    have ll : (poss tr l).length ≤ 400 := by
      have l1 := a1.lay.len
      have l2 := a2.lay.len
      have := LP.len
      rw [List.length_append, l1, l2] at this
      rw [← this, List.length_map, List.length_map]
      have q1 := List.length_filter_le (fun w => decide (w ∉ l)) (nb tr (hd0 l))
      have q2 := List.length_filter_le (fun w => decide (w ∉ l)) (nb tr (lt0 l))
      have := nb_len2 T (hd0 l)
      have := nb_len2 T (lt0 l)
      omega
    refine ⟨_, rfl, _, rfl, D, D2, _, _, rfl, rfl, SqL.of a1.own, SqL.of a2.own, by rw [← List.length_append, ← List.map_append, List.length_map, LP.len, sizeLine_eq]; omega, fun u nu => ?_⟩
    rw [← List.map_append]
    have su := same_upd nu (.lst ((qs1 ++ qs2).map V.ref))
    have hu := upd_same (H := H2) (a := u) (o := .lst ((qs1 ++ qs2).map V.ref))
    generalize upd H2 u (.lst ((qs1 ++ qs2).map V.ref)) = H3 at su hu ⊢
    have LP := LP.same firmM su
    have s3 := s2.trans su
    refine ⟨u, rfl, ⟨_, SqL.of hu⟩, fun D3 nD3 => ?_⟩
    refine lc_list (K := K) (a := u) (xs := (qs1 ++ qs2).map V.ref) (fun i H' => ∃ qs, Acc StR H3 H' D3 qs (((poss tr l).take i).map fun m => (m, aft l m))) ⟨[], .start nD3⟩ (fun i H' _ ⟨_, a⟩ => SqL.of (a.sm _ _ hu)) ?_ ?_
    · rintro i v H' hv ⟨qs, a⟩
      obtain ⟨q, m, rfl, hq, hm, hR⟩ := LP.get hv
      have hR := firmM _ _ _ _ a.sm hR
      have lb : qs.length < sizeLine := by
        have q1 := a.lay.len
        rw [List.length_map, List.length_take] at q1
        rw [sizeLine_eq]
        omega
      have ll2 : l.length ≤ 1000 := by
        have := nd_len b.sw.nd b.le
        omega
      refine ⟨q, _, rfl, SqT.of hR, rfl, _, _, rfl, _, _, rfl, rfl, ?_⟩
      refine ⟨rfl, _, rfl, _, rfl, two, fun q1 nq1 => ⟨_, rfl, _, rfl, _, rfl, p, l, m, rfl, same_upd nq1 _ _ _ ((s3.trans a.sm) _ _ hp), b.two, ll2, fun q2 Hb sb nq2 hb => ⟨two, fun q3 nq3 => ?_⟩⟩⟩
      have sf := (same_upd nq1 (.tup [.str (mvw m.1), iv m.2])).trans (sb.trans (same_upd nq3 (.tup [.ref q1, .ref q2])))
      have e : ((poss tr l).take (i + 1)).map (fun m => (m, aft l m)) = ((poss tr l).take i).map (fun m => (m, aft l m)) ++ [(m, aft l m)] := by
        rw [take_snoc hm, List.map_append]
        rfl
      rw [e]
      refine ⟨_, sf _ _ a.own, by rw [List.length_map]; exact lb, qs ++ [q3], a.push firmS tupyS nD3 sf ⟨q1, q2, upd_same, ?_, ?_⟩⟩
      · exact (sb.trans (same_upd nq3 _)) _ _ upd_same
      · exact same_upd nq3 _ _ _ hb
    · rintro H4 ⟨qs, a⟩
      rw [List.length_map, LP.len, List.take_length] at a
      exact k D3 qs H4 (s3.trans a.sm) a.own a.lay
end
end TR
namespace L2.TT
open PySem PySem.Spec PyProof.Rows
section
variable {prog : Program} {w : World} {A : Around} {E : Value → Shared → Prop} {s : Shared}
theorem wpAny_tellsNone {K : Type} [DecidableEq K] {knd : HeapKind prog w K} {stored : List Value} {Q : Bool → Shared → Prop} (hst : ∀ v ∈ stored, ∃ k' b, v = .ref b ∧ knd.is s.heap k' b) (h : Q false s) : wpAny (model prog w) A (tableMayTell .none stored) Q E s := by
  unfold tableMayTell
  split
  · exact wpAny_pure h
  · rw [eqIsQuiet_byValue 8 (v := .none) rfl]
    refine wpAny_bind (wpAny_pure ?_)
    simp only [Bool.not_true, Bool.false_eq_true, if_false]
    refine wpAny_bind ?_
    refine wpAny_forIn_list _ (fun rest r s' => s' = s ∧ r = (none, ()) ∧ ∀ v ∈ rest, ∃ k' b, v = .ref b ∧ knd.is s.heap k' b) _ ?_ ?_ _ _ ⟨rfl, rfl, hst⟩
    · rintro x rest r s' ⟨rfl, rfl, hr⟩
      obtain ⟨k', b, rfl, hb⟩ := hr x List.mem_cons_self
      refine wpAny_bind (knd.quiet hb ?_)
      simp only [Bool.not_true, Bool.false_eq_true, if_false]
      exact wpAny_pure ⟨rfl, rfl, fun v hv => hr v (List.mem_cons_of_mem _ hv)⟩
    · rintro r s' ⟨rfl, rfl, _⟩
      exact wpAny_pure h
theorem wpAny_findNone {d : Addr} {o : Obj} {es : Array DictEntry} {ep : Nat} {xs : List (List Key × Addr × Value)} {hh : Int} {Q : Option Nat → Shared → Prop} (hu : A.units < cLine) (ho : s.heap.get? d = some o) (hd : o.data = .dict es ep)
    (he : es.toList = xs.map (entryOfKey (tupleKind (mixKind prog w)))) (his : ∀ x ∈ xs, (tupleKind (mixKind prog w)).is s.heap x.1 x.2.1) (h : Q none s) : wpAny (model prog w) A (dictFind d .none hh) Q E s := by
  have hmem : ∀ e ∈ es, ∃ x ∈ xs, e = entryOfKey (tupleKind (mixKind prog w)) x := by
    intro e hin
    have : e ∈ xs.map (entryOfKey (tupleKind (mixKind prog w))) := he ▸ Array.mem_toList_iff.mpr hin
    obtain ⟨x, hx, rfl⟩ := List.mem_map.mp this
    exact ⟨x, hx, rfl⟩
  have hst : ∀ v ∈ (placesWithHash es.size (fun i => es[i]?.map (·.hash)) hh).filterMap (fun i => es[i]?.map (·.key)), ∃ k' b, v = .ref b ∧ (tupleKind (mixKind prog w)).is s.heap k' b := by
    intro v hv
    obtain ⟨i, _, hi⟩ := List.mem_filterMap.mp hv
    cases hei : es[i]? with
    | none => rw [hei] at hi; cases hi
    | some e =>
      rw [hei] at hi
      obtain rfl : e.key = v := by simpa using hi
      obtain ⟨x, hx, rfl⟩ := hmem e (Array.mem_of_getElem? hei)
      exact ⟨x.1, x.2.1, rfl, his x hx⟩
  have tup : ∀ (b : Addr) (k : List Key), (tupleKind (mixKind prog w)).is s.heap k b → ∃ items, s.heap.IsTuple b items := fun b k ⟨o, items, n, h1, h2, h3, _⟩ => ⟨items, o, h1, h2, n, h3⟩
  unfold dictFind
  try with_reducible refine wpAny_holding ?_
  refine wpAny_bind (wpAny_dictEntries ho hd ?_)
  dsimp only
  by_cases hall : ((Value.none :: (placesWithHash es.size (fun i => es[i]?.map (·.hash)) hh).filterMap (fun i => es[i]?.map (·.key))).all carriedByValue) = true
  · rw [if_pos hall]
    have hne : (placesWithHash es.size (fun i => es[i]?.map (·.hash)) hh).filterMap (fun i => es[i]?.map (·.key)) = [] := by
      rw [List.all_cons, Bool.and_eq_true] at hall
      cases hl : (placesWithHash es.size (fun i => es[i]?.map (·.hash)) hh).filterMap (fun i => es[i]?.map (·.key)) with
      | nil => rfl
      | cons v r =>
        rw [hl] at hall hst
        obtain ⟨_, b, rfl, _⟩ := hst v List.mem_cons_self
        have := List.all_eq_true.mp hall.2 _ List.mem_cons_self
        exact absurd (show false = true from this) (by decide)
    unfold dictWalkPlain
    refine wpAny_bind ?_
    refine wpAny_forIn_list _ (fun rest b s' => s' = s ∧ b = (none, ()) ∧ rest.filterMap (fun i => es[i]?.map (·.key)) = []) _ ?_ ?_ _ _ ⟨rfl, rfl, hne⟩
    · rintro x rest b s' ⟨rfl, rfl, hr⟩
      rw [List.filterMap_cons] at hr
      cases hx : es[x]? with
      | none =>
        rw [hx] at hr
        exact wpAny_pure ⟨rfl, rfl, hr⟩
      | some e =>
        rw [hx] at hr
        cases hr
    · rintro b s' ⟨rfl, rfl, _⟩
      exact wpAny_pure h
  rw [if_neg hall]
  by_cases hone : (((placesWithHash es.size (fun i => es[i]?.map (·.hash)) hh).filterMap (fun i => es[i]?.map (·.key))) == [Value.none]) = true <;>
  (first | rw [if_pos hone] | rw [if_neg hone]) <;> (first | refine wpAny_bind (wpAny_pure ?_) | refine wpAny_bind (wpAny_tellsNone hst ?_)) <;> (
    rw [if_neg (by simp)]
    refine wpAny_bind ?_
    refine wpAny_forIn_list _ (fun rest b s' => s' = s ∧ b = (none, none)) _ ?_ ?_ _ _ ⟨rfl, rfl⟩
    · rintro x rest b s' ⟨rfl, rfl⟩
      cases hx : es[x]? with
      | none => exact wpAny_pure ⟨rfl, rfl⟩
      | some e =>
        obtain ⟨y, hy, rfl⟩ := hmem e (Array.mem_of_getElem? hx)
        obtain ⟨items, it⟩ := tup _ _ (his y hy)
        dsimp only
        by_cases hq : ((entryOfKey (tupleKind (mixKind prog w)) y).hash == hh) = true
        · rw [if_pos hq]
          refine wpAny_bind (wpAny_dictEpoch ho hd (wpAny_bind (SeqAt.EqAt.tuple_none it hu _ _ _ _ (wpAny_bind (wpAny_dictEpoch ho hd ?_)))))
          show wpAny _ _ (if (ep != ep) = true then _ else _) _ E _
          rw [if_neg (by simp)]
          simp only [Bool.false_eq_true, if_false]
          refine wpAny_bind (wpAny_rule ?_)
          first | rw [if_neg (by simp)] | skip
          first
            | exact wpAny_pure ⟨rfl, rfl⟩
            | exact wpAny_bind (wpAny_pure (wpAny_pure ⟨rfl, rfl⟩))
        · rw [if_neg hq]
          exact wpAny_pure ⟨rfl, rfl⟩
    · rintro b s' ⟨rfl, rfl⟩
      exact wpAny_pure h)
theorem wpAny_getNone {d : Addr} {xs : List (List Key × Addr × Value)} {Q : Option Value → Shared → Prop} (hu : A.units < cLine) (hm : s.heap.DictOfH (tupleKind (mixKind prog w)) d xs)
    (h : Q none { s with toks := s.toks + 1 }) : wpAny (model prog w) A (dictGet d .none) Q E s := by
  obtain ⟨o, es, ep, ho, _, hd, he, his, hn⟩ := hm
  unfold dictGet
  try with_reducible refine wpAny_holding ?_
  refine wpAny_bind ((noneKind prog w).pyHash (k := none) (v := .none) rfl (wpAny_bind (wpAny_findNone (s := { s with toks := s.toks + 1 }) hu ho hd he his ?_)))
  exact wpAny_pure h
theorem wpAny_notInNone {d : Addr} {xs : List (List Key × Addr × Value)} {Q : Value → Shared → Prop} (hu : A.in1.units < cLine) (hd : (d == sysModules) = false) (hm : s.heap.DictOfH (tupleKind (mixKind prog w)) d xs)
    (h : Q (.bool true) { s with toks := s.toks + 1 }) : wpAny (model prog w) A (compareOp .NotIn .none (.ref d)) Q E s := by
  show wpAny _ _ (do return .bool (!(← contains (.ref d) .none))) Q E s
  refine wpAny_bind ?_
  unfold contains
  try with_reducible refine wpAny_holding ?_
  refine wpAny_bind (wpAny_specialOf hm.typeIs PySem.F.slot_dict_contains.lookup ?_)
  show wpAny _ _ (if (some (Value.builtin "dict.__contains__") == some Value.none) = true then _ else _) _ E s
  rw [if_neg (by rw [beq_builtin_none]; exact Bool.false_ne_true)]
  refine wpAny_bind (wpAny_callSpecialUnlessNone?_slot (name := Str.ofString "__contains__") hm.typeIs PySem.F.slot_dict_contains
    (wpAny_call_entry PySem.F.slot_dict_contains hm.typeIs PySem.F.entry_dict_contains ?_ (PySem.F.args_dict_contains_2 _ _)))
  show wpAny _ _ (dictGet d .none >>= _) _ _ s
  refine wpAny_bind (wpAny_getNone hu hm ?_)
  show wpAny _ _ (Builtin.Dict.pendingKey? d .none >>= _) _ _ _
  exact wpAny_bind (wpAny_pendingKey_other hd (wpAny_pure ⟨_, rfl, wpAny_truthy_bool (wpAny_pure h)⟩))
end
/-- y not in d; y may be None (d's keys tuples then) -/
def tDNotInT (ty td : TE) : TE := fun σ H Q => ty σ H fun y H1 => td σ H1 fun x H2 => (∃ a o, x = .ref a ∧ DGet H2 a y o ∧ Q (.bl (!o.isSome)) H2) ∨ ∃ a kvs, x = .ref a ∧ y = .non ∧ Rd H2 a (.dT kvs) ∧ Q (.bl true) H2
section
variable {X : Cx} {o i : Expr} {td ty : TE}
theorem pc_dnotinT (hu : X.A.units + 1 < cLine) (hi : PE X i ty) (ho : PE X o td) : PC X .NotIn i o (tDNotInT ty td) := by
  refine ⟨fun pins s σ H Q I h => ?_⟩
  refine thn (hi.run pins s σ H _ I h) fun iv s1 ⟨y, H1, I1, ry, q1⟩ => thn (ho.run pins s1 σ H1 _ I1 q1) fun u s2 ⟨x, H2, I2, rx, q2⟩ => ?_
  rcases q2 with ⟨a, ov, ex, g, q2⟩ | ⟨a, kvs, ex, ey, g, q2⟩
  · subst ex
    obtain rfl : u = Value.ref a := rx
    exact d_notIn hu I2 g ry fun s3 I3 => ⟨.bl (!ov.isSome), H2, I3, rfl, q2⟩
  · subst ex ey
    obtain rfl : u = Value.ref a := rx
    obtain rfl : iv = Value.none := ry
    obtain ⟨z, hd, xs, rel, dd⟩ := dt_rd I2.hok g
    exact wpAny_notInNone (show X.A.in1.units < cLine from hu) hd dd ⟨.bl true, H2, I2.tok _, rfl, q2⟩
end
end L2.TT
namespace TR
open PySem PySem.Spec PyProof.Rows L2 L2.TT StX ClX
theorem BdR.dT {H : Hp} {p D : Addr} {m : List Nat} {ks ks' : List (List Key × V)} (h : BdR H p m) (hD : H D = some (.dT ks)) : BdR (upd H D (.dT ks')) p m := by
  unfold BdR at h ⊢
  rw [upd_ne (ne_of h hD (by intro z; cases z))]
  exact h
theorem StR.dT {H : Hp} {p D : Addr} {x : Mv × List Nat} {ks ks' : List (List Key × V)} (h : StR H p x) (hD : H D = some (.dT ks)) : StR (upd H D (.dT ks')) p x := by
  obtain ⟨a, b, h1, h2, h3⟩ := h
  unfold MvR at h2
  refine ⟨a, b, by rw [upd_ne (ne_of h1 hD (by intro z; cases z))]; exact h1, ?_, h3.dT hD⟩
  unfold MvR
  rw [upd_ne (ne_of h2 hD (by intro z; cases z))]
  exact h2
/-- a list of steps is no list of bodies -/
theorem st_ne {H : Hp} {z g : Addr} {zs gps : List Addr} {xs : List (Mv × List Nat)} {gs : List (List Nat)} (hz : H z = some (.lst (zs.map V.ref))) (LZ : Lay StR H zs xs) (hg : H g = some (.lst (gps.map V.ref))) (LG : Lay BdR H gps gs) (h : zs ≠ []) : z ≠ g := by
  rintro rfl
  rw [hz] at hg
  have e := HO.lst.inj (Option.some.inj hg)
  match zs, h with
  | p :: zr, _ =>
    match gps, e with
    | q :: gr, e =>
      have e0 : V.ref p = V.ref q := (List.cons.inj e).1
      cases e0
      have l1 := LZ.len
      have l2 := LG.len
      match xs, gs, l1, l2 with
      | x :: _, m :: _, _, _ =>
        obtain ⟨a, b, h1, _⟩ := LZ.at_ 0 p x rfl rfl
        have h2 : H p = some (.tup (m.map iv)) := LG.at_ 0 p m rfl rfl
        rw [h1] at h2
        have e2 := HO.tup.inj (Option.some.inj h2)
        cases m with
        | nil => cases e2
        | cons y r => cases e2
end TR
namespace TR
open PySem PySem.Spec PyProof.Rows L2 L2.TT StX ClX
def spCntS (C : Addr) : Sp := fun vs H Q _ => ∃ (r st g : Addr) (tr : List E2) (s l : List Nat), vs = [.ref r, .ref st, .ref g] ∧ RailAt C H r tr ∧ BdR H st s ∧ BdR H g l ∧ Bd tr l ∧ Leads tr l s ∧
  ∀ (D : Addr) (kvs : List (List Key × V)) (bs : List (List Nat)) (H' : Hp), Same H H' → H D = none → H' D = some (.dT kvs) → DG tr l kvs bs → bs.Nodup → (∀ m ∈ bs, Leads tr l m) → (∀ m, Leads tr l m → gd tr m l ≤ gd tr s l → m ∈ bs) → Q (.ref D) H'
section
variable {P : Program} {w : World} {K : PySem.W.Frag} {mg : Str → Option Value} {base : Heap}
abbrev N_sc_cns : List Str := ["railway", "start", "goal", "counts", "layer", "farther", "body", "_", "other"]
theorem sc_cns : FnScope N_sc_cns ["railway", "start", "goal"] (defScope s_counts_to) := ⟨rfl, rfl, rfl, by decide +kernel, rfl, by decide +kernel, by decide +kernel⟩
theorem ok_cns {f fS C : Addr} {fd fdS : FuncData} (F : Fun K "_counts_to" "_counts_to" s_counts_to f fd) (US : Use P w K mg base CX0 6 "steps_from" fS fdS ["railway", "body"] (spStp C)) :
    FnOk P w K mg base CX0 7 f fd ["railway", "start", "goal"] (spCntS C) := by
  refine F.ok sc_cns (fun vs H Q E h => ?_) (fun cdv A outer s H vs Q E hr h => ?_)
  · obtain ⟨r, st, g, tr, sb, l, rfl, _⟩ := h
    rfl
  · obtain ⟨r, st, gl, tr, sb, l, rfl, R, hst, hg, b, ld, k⟩ := h
    have hu64 : (A.deeper (envOfC "_counts_to" (defScope s_counts_to) s.heap.objs.size f cdv)).units + 64 < cLine := hr.units
    refine ⟨_, (pss_cons (ps_set (i := 3) sc_cns.nd rfl (.inl rfl) (pe_dispT hu64 (pv 2) pe_int))
        (pss_cons (ps_set (i := 4) sc_cns.nd rfl (.inl rfl) (pe_lst (pa_cons (pv 2) pa_nil)))
        (pss_cons (ps_while PassesOwn.never (PW.pt (pw_and (pt_truth (pv 4) (by intro _; rfl)) (pw_and1 (pt_cmp (pc_dnotinT (hu_of hr) (pv 1) (pv 3))))))
          (pss_cons (ps_set (i := 5) sc_cns.nd rfl (.inl rfl) (pe_lst pa_nil))
          (pss_cons (ps_for PassesOwn.never rfl (pi_list (pv 4)) (pg_name (i := 6) sc_cns.nd rfl (.inl rfl))
            (pss_one (ps_for PassesOwn.never rfl (pi_list (pe_use US hr (by rfl) (pa_cons (pv 0) (pa_cons (pv 6) pa_nil)))) (pg_tup rfl (pgs_cons (pg_name (i := 7) sc_cns.nd rfl (.inl rfl)) (pgs_cons (pg_name (i := 8) sc_cns.nd rfl (.inl rfl)) pgs_nil)))
              (pss_one (ps_if (pt_cmp (pc_dnotin (hu_of hr) (pv 8) (pv 3))) (pss_cons (ps_dput (hu_of hr) (pv 3) (pv 8) (pe_op op_add (pe_dget (hu_of hr) (pv 3) (pv 6) (fun _ _ => rfl)) pe_int) rfl)
                (pss_one (ps_expr (pe_bm PySem.F.plainAttrs_list PySem.F.slot_list_append PySem.F.type_list_append mt_append (pv 5) (pa_cons (pv 8) pa_nil))))) pss_nil)))))
          (pss_one (ps_set (i := 4) sc_cns.nd rfl (.inl rfl) (pv 5))))))
        (pss_one (ps_ret (pv 3)))))), ?_⟩
    have T := R.T
    have few := R.few
    have one : (1 : Nat) ≤ sizeLine := by rw [sizeLine_eq]; decide
    have nine : (tr.length + 1) * (tr.length + 1) ≤ 10000 := Nat.mul_le_mul (show tr.length + 1 ≤ 100 by omega) (show tr.length + 1 ≤ 100 by omega)
    refine fun D nD => ?_
    refine ⟨_, rfl, upd_same, gl, keyL l, rfl, by rw [keyL_kV]; exact same_upd nD _ _ _ hg, ?_⟩
    rw [upd_upd]
    have sA := same_upd nD (.dT [(keyL l, V.int 0)])
    have hDA := upd_same (H := H) (a := D) (o := .dT [(keyL l, V.int 0)])
    generalize upd H D (.dT [(keyL l, V.int 0)]) = HA at sA hDA ⊢
    refine ⟨_, rfl, one, fun fr nfr => ?_⟩
    have sB := same_upd nfr (.lst [V.ref gl])
    have s0 := sA.trans sB
    have hD0 := sB _ _ hDA
    have hf0 : upd HA fr (.lst [V.ref gl]) fr = some (.lst (([gl] : List Addr).map V.ref)) := upd_same
    have L0 : Lay BdR (upd HA fr (.lst [V.ref gl])) [gl] [l] := .one (s0 _ _ hg)
    generalize upd HA fr (.lst [V.ref gl]) = H0 at s0 hD0 hf0 L0 ⊢
    clear sA hDA sB nfr HA
    refine ⟨fun m σ H' => ∃ (kvs : List (List Key × V)) (bs qs : List (List Nat)) (kk : Nat) (fr : Addr) (ps : List Addr) (x5 x6 x7 x8 : Option V), m = 2 * ((tr.length + 1) * (tr.length + 1) - bs.length) + qs.length ∧ σ = [some (.ref r), some (.ref st), some (.ref gl), some (.ref D), some (.ref fr), x5, x6, x7, x8] ∧ Same H H' ∧ H' D = some (.dT kvs) ∧ DG tr l kvs bs ∧ Ly tr l bs qs kk ∧ H' fr = some (.lst (ps.map V.ref)) ∧ Lay BdR H' ps qs,
      ⟨_, _, [l], [l], 0, fr, [gl], _, _, _, _, rfl, rfl, s0, hD0, DG.one l, Ly.start T b, hf0, L0⟩, ?_⟩
    clear s0 hD0 hf0 L0 H0 fr
    rintro m σ H1 ⟨kvs, bs, qs, kk, fr, ps, x5, x6, x7, x8, rfl, rfl, s1, hD1, dk, bc, hf1, L1⟩
    have bdl : ∀ m ∈ bs, Bd tr m := fun m hm => ((((bc.mem m).mp hm).1).bd T b).1
    have hst1 : H1 st = some (.tup ((keyL sb).map kV)) := by rw [keyL_kV]; exact s1 _ _ hst
    have lps := L1.len
    cases qs with
    | nil =>
      cases ps with
      | cons p0 pr => cases lps
      | nil =>
        refine ⟨_, rfl, _, .inl ⟨_, SqL.of hf1, rfl⟩, ?_⟩
        refine iteF ?_
        refine iteF ?_
        exact ⟨_, rfl, k D kvs bs H1 s1 nD hD1 dk bc.nd (fun m hm => ((bc.mem m).mp hm).1) (fun m hm _ => bc.empty T b m hm)⟩
    | cons q0 qr =>
      cases ps with
      | nil => cases lps
      | cons p0 pr =>
        refine ⟨_, rfl, _, .inl ⟨_, SqL.of hf1, rfl⟩, ?_⟩
        refine iteT ?_
        refine ⟨_, rfl, _, rfl, .inl ⟨D, _, rfl, DGet.t (k := keyL sb) hD1 hst1, _, rfl, ?_⟩⟩
        by_cases inb : sb ∈ bs
        · rw [dk.get bc.nd inb]
          refine iteF ?_
          have gk := ((bc.mem sb).mp inb).2
          exact ⟨_, rfl, k D kvs bs H1 s1 nD hD1 dk bc.nd (fun m hm => ((bc.mem m).mp hm).1) (fun m hm hg2 => (bc.mem m).mpr ⟨hm, by omega⟩)⟩
        rw [dk.non inb]
        refine iteT ?_
        generalize eq : q0 :: qr = qs at bc L1 lps ⊢
        generalize p0 :: pr = ps at hf1 L1 lps ⊢
        have ql : 1 ≤ qs.length := by rw [← eq]; exact Nat.succ_le_succ (Nat.zero_le _)
        clear eq
        refine ⟨fun σ' H' => ∃ (kvs : List (List Key × V)) (bs' qs' : List (List Nat)) (kk : Nat) (fr : Addr) (ps : List Addr) (x5 x6 x7 x8 : Option V), 2 * ((tr.length + 1) * (tr.length + 1) - bs'.length) + qs'.length < 2 * ((tr.length + 1) * (tr.length + 1) - bs.length) + qs.length ∧ σ' = [some (.ref r), some (.ref st), some (.ref gl), some (.ref D), some (.ref fr), x5, x6, x7, x8] ∧ Same H H' ∧ H' D = some (.dT kvs) ∧ DG tr l kvs bs' ∧ Ly tr l bs' qs' kk ∧ H' fr = some (.lst (ps.map V.ref)) ∧ Lay BdR H' ps qs',
          fun σ' H' ⟨kvs, bs', qs', kk, fr, ps, x5, x6, x7, x8, lt, r⟩ => ⟨_, lt, kvs, bs', qs', kk, fr, ps, x5, x6, x7, x8, rfl, r⟩, ?_⟩
        have bb := bodies_le T bc.nd bdl
        refine ⟨Nat.zero_le _, fun g ng => ?_⟩
        have sg := same_upd ng (.lst [])
        have s2 := s1.trans sg
        have ngH := s1.free ng
        have gf : fr ≠ g := ne_of_none hf1 ng
        have hD2 := sg _ _ hD1
        have hf2 := sg _ _ hf1
        have L2 := L1.same firmB sg
        have hg2 : upd H1 g (.lst []) g = some (.lst (([] : List Addr).map V.ref)) := upd_same
        generalize upd H1 g (.lst []) = H3 at s2 hD2 hf2 L2 hg2 ⊢
        clear sg s1 hD1 hf1 L1 ng
        refine ⟨_, rfl, fr, rfl, ⟨_, SqL.of hf2⟩, ?_⟩
        refine for_list (K := K) (a := fr) (xs := ps.map V.ref) (fun i σ H' => ∃ (kvs : List (List Key × V)) (bs' gs : List (List Nat)) (gps : List Addr) (x6 x7 x8 : Option V), σ = [some (.ref r), some (.ref st), some (.ref gl), some (.ref D), some (.ref fr), some (.ref g), x6, x7, x8] ∧ Same H H' ∧ H' D = some (.dT kvs) ∧ DG tr l kvs bs' ∧ H' fr = some (.lst (ps.map V.ref)) ∧ Lay BdR H' ps qs ∧ H' g = some (.lst (gps.map V.ref)) ∧ Lay BdR H' gps gs ∧ Lm tr l qs kk i 0 bs' gs ∧ bs'.length = bs.length + gs.length)
          ⟨kvs, bs, [], [], _, _, _, rfl, s2, hD2, dk, hf2, L2, hg2, .nil, bc.go, rfl⟩ (fun i σ H' _ ⟨_, _, _, _, _, _, _, _, _, _, _, h, _⟩ => SqL.of h) ?_ ?_
        · rintro i v σ H4 hv ⟨kvs4, bs4, gs, gps, x6, x7, x8, rfl, s4, hD4, dk4, hf4, L4, hg4, G4, bc4, lg⟩
          obtain ⟨q, m, rfl, hq, hm, hqR⟩ := L4.get hv
          obtain ⟨lm, em⟩ := (bc.q m).mp (List.mem_of_getElem? hm)
          have bmd := (lm.bd T b).1
          have bm := bc4
          refine ⟨_, rfl, _, rfl, r, q, tr, m, rfl, R.same s4, hqR, bmd, fun z zs H5 s5 hz LZ => ⟨z, rfl, ⟨_, SqL.of hz⟩, ?_⟩⟩
          have lzs : zs.length = (poss tr m).length := by rw [LZ.len]; exact List.length_map _
          have zg : zs ≠ [] → z ≠ g := st_ne hz LZ (s5 _ _ hg4) (G4.same firmB s5)
          refine for_list (K := K) (a := z) (xs := zs.map V.ref) (fun j σ H' => ∃ (kvs : List (List Key × V)) (bs' gs : List (List Nat)) (gps : List Addr) (x7 x8 : Option V), σ = [some (.ref r), some (.ref st), some (.ref gl), some (.ref D), some (.ref fr), some (.ref g), some (.ref q), x7, x8] ∧ Same H H' ∧ H' D = some (.dT kvs) ∧ DG tr l kvs bs' ∧ H' fr = some (.lst (ps.map V.ref)) ∧ Lay BdR H' ps qs ∧ H' g = some (.lst (gps.map V.ref)) ∧ Lay BdR H' gps gs ∧ H' z = some (.lst (zs.map V.ref)) ∧ Lay StR H' zs (stpL tr m) ∧ BdR H' q m ∧ Lm tr l qs kk i j bs' gs ∧ m ∈ bs' ∧ bs'.length = bs.length + gs.length)
            ⟨kvs4, bs4, gs, gps, _, _, rfl, s4.trans s5, s5 _ _ hD4, dk4, s5 _ _ hf4, L4.same firmB s5, s5 _ _ hg4, G4.same firmB s5, hz, LZ, s5 _ _ hqR, bm, bm.old m lm (by omega), lg⟩ (fun j σ H' _ ⟨_, _, _, _, _, _, _, _, _, _, _, _, _, _, h, _⟩ => SqL.of h) ?_ ?_
          · rintro j v σ H6 hv ⟨kvs6, bs6, gs6, gps6, x7, x8, rfl, s6, hD6, dk6, hf6, L6, hg6, G6, hz6, Z6, hq6, bm6, mm6, lg6⟩
            have zne : zs ≠ [] := fun e => by rw [e] at hv; cases hv
            have zg := zg zne
            obtain ⟨pp, x, rfl, hpp, hx, hR⟩ := Z6.get hv
            obtain ⟨mv, hmv, rfl⟩ := map_got hx
            obtain ⟨mp, bp, h1, h2, h3⟩ := hR
            have bx : Bd tr (aft m mv) := (bmd.aft T (decide_eq_true (mem_poss.mp (List.mem_of_getElem? hmv)))).1
            have h3k : H6 bp = some (.tup ((keyL (aft m mv)).map kV)) := by rw [keyL_kV]; exact h3
            have hqk : H6 q = some (.tup ((keyL m).map kV)) := by rw [keyL_kV]; exact hq6
            refine ⟨pp, _, rfl, SqT.of h1, rfl, _, _, rfl, _, _, rfl, rfl, ?_⟩
            refine ⟨_, rfl, _, rfl, D, _, rfl, DGet.t (k := keyL (aft m mv)) hD6 h3k, _, rfl, ?_⟩
            by_cases cz : aft m mv ∈ bs6
            · rw [dk6.get bm6.nd cz]
              refine iteF ?_
              exact ⟨kvs6, bs6, gs6, gps6, _, _, rfl, s6, hD6, dk6, hf6, L6, hg6, G6, hz6, Z6, hq6, bm6.skip hm hmv cz, mm6, lg6⟩
            · have vn := dk6.non cz
              rw [vn]
              refine iteT ?_
              have kl := dk6.len
              obtain ⟨bm7, eg⟩ := bm6.add T b hm lm em hmv cz
              have bb7 := bodies_le T bm7.nd (fun k hk => ((bm7.le k hk).1.bd T b).1)
              rw [List.length_append, List.length_singleton] at bb7
              have vm := dk6.get bm6.nd mm6
              rw [em] at vm
              have dg : DGet H6 D (.ref q) (some (iv kk)) := by rw [← vm]; exact DGet.t (k := keyL m) hD6 hqk
              refine ⟨_, rfl, _, rfl, D, _, rfl, dg, _, _, rfl, rfl, _, rfl, _, rfl, D, _, rfl, DPut.t (k := keyL (aft m mv)) hD6 h3k (by rw [sizeLine_eq]; omega), ?_⟩
              have ev : V.int ((kk : Int) + 1) = iv (kk + 1) := by
                show V.int _ = V.int ((kk + 1 : Nat) : Int)
                congr 1
              rw [show (fun i j => V.int (i + j)) (kk : Int) 1 = iv (kk + 1) from ev]
              have dk8 := dk6.add (n := kk + 1) vn eg
              have s8 := same_old s6 nD (.dT (putK kvs6 (keyL (aft m mv)) (iv (kk + 1))))
              have hD8 := upd_same (H := H6) (a := D) (o := .dT (putK kvs6 (keyL (aft m mv)) (iv (kk + 1))))
              have hf8 : upd H6 D (.dT (putK kvs6 (keyL (aft m mv)) (iv (kk + 1)))) fr = _ := (upd_ne (ne_of hf6 hD6 (by intro z; cases z))).trans hf6
              have hg8 : upd H6 D (.dT (putK kvs6 (keyL (aft m mv)) (iv (kk + 1)))) g = _ := (upd_ne (ne_of hg6 hD6 (by intro z; cases z))).trans hg6
              have hz8 : upd H6 D (.dT (putK kvs6 (keyL (aft m mv)) (iv (kk + 1)))) z = _ := (upd_ne (ne_of hz6 hD6 (by intro z; cases z))).trans hz6
              have hq8 := hq6.dT hD6 (ks' := putK kvs6 (keyL (aft m mv)) (iv (kk + 1)))
              have h38 : BdR (upd H6 D (.dT (putK kvs6 (keyL (aft m mv)) (iv (kk + 1))))) bp (aft m mv) := BdR.dT h3 hD6
              have L8 : Lay BdR (upd H6 D (.dT (putK kvs6 (keyL (aft m mv)) (iv (kk + 1))))) ps qs := L6.map fun p x _ h => h.dT hD6
              have G8 : Lay BdR (upd H6 D (.dT (putK kvs6 (keyL (aft m mv)) (iv (kk + 1))))) gps6 gs6 := G6.map fun p x _ h => h.dT hD6
              have Z8 : Lay StR (upd H6 D (.dT (putK kvs6 (keyL (aft m mv)) (iv (kk + 1))))) zs (stpL tr m) := Z6.map fun p x _ h => h.dT hD6
              generalize upd H6 D (.dT (putK kvs6 (keyL (aft m mv)) (iv (kk + 1)))) = H8 at dk8 s8 hD8 hf8 hg8 hz8 hq8 h38 L8 G8 Z8 ⊢
              have lgp := G8.len
              refine ⟨_, rfl, .inl ⟨rfl, _, SqL.of hg8⟩, _, rfl, g, _, _, rfl, rfl, hg8, by rw [List.length_map, sizeLine_eq]; omega, ?_⟩
              refine ⟨_, bs6 ++ [aft m mv], gs6 ++ [aft m mv], gps6 ++ [bp], _, _, rfl, same_old s8 ngH _, by rw [upd_ne (ne_of hD8 hg8 (by intro z; cases z))]; exact hD8, dk8, by rw [upd_ne gf]; exact hf8, L8.map fun p x _ h => tupyB _ _ _ _ _ _ hg8 h, by rw [upd_same, List.map_append]; rfl,
                (G8.map fun p x _ h => tupyB _ _ _ _ _ _ hg8 h).snoc (tupyB _ _ _ _ _ _ hg8 h38), by rw [upd_ne zg]; exact hz8, Z8.map fun p x _ h => tupyS _ _ _ _ _ _ hg8 h, tupyB _ _ _ _ _ _ hg8 hq8, bm7, List.mem_append_left _ mm6, by rw [List.length_append, List.length_append, lg6]; rfl⟩
          · rintro σ H6 ⟨kvs6, bs6, gs6, gps6, x7, x8, rfl, s6, hD6, dk6, hf6, L6, hg6, G6, hz6, Z6, hq6, bm6, mm6, lg6⟩
            rw [List.length_map, lzs] at bm6
            exact ⟨kvs6, bs6, gs6, gps6, _, _, _, rfl, s6, hD6, dk6, hf6, L6, hg6, G6, bm6.next hm, lg6⟩
        · rintro σ H4 ⟨kvs4, bs4, gs, gps, x6, x7, x8, rfl, s4, hD4, dk4, hf4, L4, hg4, G4, bc4, lg⟩
          rw [List.length_map, lps] at bc4
          have ly := bc4.done T b (fun m h1 h2 => (bc.q m).mpr ⟨h1, h2⟩)
          have bb4 := bodies_le T ly.nd (fun m hm => (((ly.mem m).mp hm).1.bd T b).1)
          exact ⟨_, rfl, kvs4, bs4, gs, kk + 1, g, gps, _, _, _, _, by omega, rfl, s4, hD4, dk4, ly, hg4, G4⟩
end
end TR
namespace TR
open PySem PySem.Spec PyProof.Rows L2 L2.TT StX ClX
def bv : Option Nat → V
  | none => .non
  | some n => iv n
/-- all but one object stand as before -/
def FrB (a : Addr) (H H' : Hp) : Prop := ∀ b o, H b = some o → b ≠ a → H' b = some o
/-- a layer in the heap: a list of pairs -/
structure LY (H : Hp) (a : Addr) (es : List Addr) (xs : List (Nat × Option Nat)) : Prop where
  hl : H a = some (.lst (es.map V.ref))
  len : es.length = xs.length
  at_ : ∀ (i : Nat) (p : Addr) (x : Nat × Option Nat), es[i]? = some p → xs[i]? = some x → H p = some (.tup [iv x.1, bv x.2])
theorem LY.same {H H' : Hp} {a : Addr} {es : List Addr} {xs : List (Nat × Option Nat)} (l : LY H a es xs) (s : Same H H') : LY H' a es xs := ⟨s _ _ l.hl, l.len, fun i p x h1 h2 => s _ _ (l.at_ i p x h1 h2)⟩
theorem LY.grow {H : Hp} {a : Addr} {es : List Addr} {xs : List (Nat × Option Nat)} (l : LY H a es xs) {p : Addr} (np : H p = none) {x : Nat × Option Nat} :
    LY (upd (upd H p (.tup [iv x.1, bv x.2])) a (.lst (es.map V.ref ++ [.ref p]))) a (es ++ [p]) (xs ++ [x]) := by
  have pa : p ≠ a := fun z => by rw [z, l.hl] at np; cases np
  refine ⟨by rw [upd_same, List.map_append]; rfl, by rw [List.length_append, List.length_append, l.len]; rfl, fun i q y h1 h2 => ?_⟩
  rcases get_snoc h1 with h1 | ⟨e1, rfl⟩
  · rcases get_snoc h2 with h2 | ⟨e3, e4⟩
    · have h := l.at_ i q y h1 h2
      have q1 : q ≠ a := ne_of h l.hl (by intro z; cases z)
      rw [upd_ne q1, upd_ne (ne_of_none h np)]
      exact h
    · exfalso
      have := (List.getElem?_eq_some_iff.mp h1).1
      have := l.len
      omega
  · rcases get_snoc h2 with h2 | ⟨e3, rfl⟩
    · exfalso
      have := (List.getElem?_eq_some_iff.mp h2).1
      have := l.len
      omega
    · rw [upd_ne pa, upd_same]
def spLayers (C : Addr) : Sp := fun vs H Q _ => ∃ (r : Addr) (tr : List E2) (s : Nat) (b : Option Nat), vs = [.ref r, iv s, bv b] ∧ RailAt C H r tr ∧ s ≤ tr.length ∧
  ∀ (fl : Addr) (fs : List Addr) (H' : Hp), Same H H' → H' fl = some (.lst (fs.map V.ref)) → (∀ (k : Nat) (f : Addr), fs[k]? = some f → H' f = some (.lst (((lyr tr s b k).map Prod.fst).map iv))) → (∀ k, k < fs.length → lyr tr s b k ≠ []) → lyr tr s b fs.length = [] → Q (.ref fl) H'
section
variable {P : Program} {w : World} {K : PySem.W.Frag} {mg : Str → Option Value} {base : Heap}
abbrev NLy : List Str := ["railway", "station", "barred", "found", "layer", "place", "_", "entered", "near"]
theorem sc_ly : FnScope NLy ["railway", "station", "barred"] (defScope s_layers) := ⟨rfl, rfl, rfl, by decide +kernel, rfl, by decide +kernel, by decide +kernel⟩
theorem ok_layers {f fn C : Addr} {fd fdn : FuncData} (F : Fun K "layers" "layers" s_layers f fd) (X : TxtR K mg C) (m : Meth K C "neighbours" fn) (G : FnOk P w K mg base CX0 5 fn fdn ["self", "station"] (spNbr C)) (bn : Binds K fdn ["self", "station"] []) : FnOk P w K mg base CX0 6 f fd ["railway", "station", "barred"] (spLayers C) := by
  refine F.ok sc_ly (fun vs H Q E h => ?_) (fun cdv A outer s H vs Q E hr h => ?_)
  · obtain ⟨r, tr, s, b, rfl, _⟩ := h
    rfl
  · obtain ⟨r, tr, sn, b, rfl, R, hs, k⟩ := h
    refine ⟨_, pss_cons (ps_set (i := 3) sc_ly.nd rfl (.inl rfl) (pe_lst pa_nil))
      (pss_cons (ps_set (i := 4) sc_ly.nd rfl (.inl rfl) (pe_lst (pa_cons (pe_tup (pa_cons (pv 1) (pa_cons (pv 2) pa_nil))) pa_nil)))
      (pss_cons (ps_while PassesOwn.never (pt_truth (pv 4) (by intro _; rfl))
        (pss_cons (ps_expr (pe_bm PySem.F.plainAttrs_list PySem.F.slot_list_append PySem.F.type_list_append mt_append (pv 3) (pa_cons
          (pe_lc (own := [("place", 5), ("_", 6)]) (g := gTup K 2 (gCons (gName 5) (gCons (gName 6) gNil))) (tt := tYes) rfl sc_ly.nd (pi_list (pv 4)) (blkOk_by (N := NLy) (sc := defScope s_layers) (by decide +kernel))
            (fun _ _ _ _ _ => pg_tupK (K := K) (n := 2) (t := gCons (gName 5) (gCons (gName 6) gNil)) rfl rfl (pgs_cons (pg_name (i := 5) sc_ly.nd rfl (Or.inl rfl)) (pgs_cons (pg_name (i := 6) sc_ly.nd rfl (Or.inl rfl)) pgs_nil)) rfl) (fun _ _ _ _ _ => pts_nil) (fun _ _ _ _ _ => pv 5)) pa_nil)))
        (pss_one (ps_setLc2 (i := 4) (own := [("place", 5), ("entered", 7), ("near", 8)]) (vs1 := [8]) (g := gTup K 2 (gCons (gName 5) (gCons (gName 7) gNil))) (g1 := gName 8) (tt := tYes) (by rfl) sc_ly.nd rfl rfl (sw_true rfl rfl rfl (by decide +kernel)) (pi_list (pv 4)) (blkOk_by (N := NLy) (sc := defScope s_layers) (by decide +kernel)) (by decide)
            (fun _ _ _ _ _ => pg_tupK (K := K) (n := 2) (t := gCons (gName 5) (gCons (gName 7) gNil)) rfl rfl (pgs_cons (pg_name (i := 5) sc_ly.nd rfl (Or.inl rfl)) (pgs_cons (pg_name (i := 7) sc_ly.nd rfl (Or.inl rfl)) pgs_nil)) rfl) (fun _ _ _ _ _ => pts_nil)
            (fun _ _ _ _ _ => pi_tupK (K := K) rfl (pe_meth (pv 0) X.cl m G hr bn .nil pass0 (pa_cons (pv 5) pa_nil))) (fun _ _ _ _ _ => pg_name (i := 8) sc_ly.nd rfl (Or.inl rfl)) (fun _ _ _ _ _ => pts_one (pt_cmpR op_ne (pv 8) (pv 7) (nomark _)))
            (fun _ _ _ _ _ => pe_tup (pa_cons (pv 8) (pa_cons (pv 5) pa_nil)))))))
      (pss_one (ps_ret (pv 3))))), ?_⟩
    obtain ⟨T, few, dx, tt, na, Aa, L, ps, ts, h1, h2⟩ := id R
    have two : (2 : Nat) ≤ sizeLine := by rw [sizeLine_eq]; decide
    refine ⟨by show 0 ≤ sizeLine; exact Nat.zero_le _, fun fl nfl => ?_⟩
    have s0 := same_upd nfl (.lst [])
    have hf0 := upd_same (H := H) (a := fl) (o := .lst [])
    generalize upd H fl (.lst []) = H0 at s0 hf0
    refine ⟨_, rfl, _, rfl, two, fun t0 nt0 => ?_⟩
    have s1 := s0.trans (same_upd nt0 (.tup [iv sn, bv b]))
    have hf1 := same_upd nt0 (.tup [iv sn, bv b]) _ _ hf0
    have ht1 := upd_same (H := H0) (a := t0) (o := .tup [iv sn, bv b])
    generalize upd H0 t0 (.tup [iv sn, bv b]) = H1 at s1 hf1 ht1
    refine ⟨by show 1 ≤ sizeLine; rw [sizeLine_eq]; decide, fun l0 nl0 => ?_⟩
    have sl := same_upd nl0 (.lst [V.ref t0])
    have s2 := s1.trans sl
    have hf2 := sl _ _ hf1
    have lf : l0 ≠ fl := fun z => by rw [z, hf1] at nl0; cases nl0
    have LY0 : LY (upd H1 l0 (.lst [V.ref t0])) l0 [t0] (lyr tr sn b 0) := by
      refine ⟨upd_same, rfl, fun i p x hp hx => ?_⟩
      cases i with
      | zero =>
        have e1 : t0 = p := Option.some.inj hp
        have e2 : (sn, b) = x := Option.some.inj hx
        subst e1 e2
        exact sl _ _ ht1
      | succ i => cases hp
    generalize upd H1 l0 (.lst [V.ref t0]) = H2 at s2 hf2 LY0
    refine ⟨fun m σ H' => ∃ (kk : Nat) (ly : Addr) (es fs : List Addr) (x5 x6 x7 x8 : Option V), m = 2 * tr.length + 3 - kk ∧ σ = [some (.ref r), some (iv sn), some (bv b), some (.ref fl), some (.ref ly), x5, x6, x7, x8] ∧ Same H H' ∧ ly ≠ fl ∧ H' fl = some (.lst (fs.map V.ref)) ∧ fs.length = kk ∧
        (∀ (j : Nat) (f : Addr), fs[j]? = some f → f ≠ fl ∧ H' f = some (.lst (((lyr tr sn b j).map Prod.fst).map iv))) ∧ (∀ j, j < kk → lyr tr sn b j ≠ []) ∧ LY H' ly es (lyr tr sn b kk),
      ⟨_, 0, l0, [t0], [], _, _, _, _, rfl, rfl, s2, lf, hf2, rfl, fun _ _ h => (nomatch h), fun j hj => absurd hj (Nat.not_lt_zero j), LY0⟩, ?_⟩
    clear s0 hf0 s1 hf1 ht1 sl s2 hf2 lf LY0 nt0 nl0 H0 H1 H2 t0 l0
    rintro m σ H1 ⟨kk, ly, es, fs, x5, x6, x7, x8, rfl, rfl, s1, lf, hf1, hk, hfs, hne, Ly⟩
    refine ⟨_, rfl, _, .inl ⟨_, SqL.of Ly.hl, rfl⟩, ?_⟩
    refine ite2 (fun hc => ?_) (fun hc => ?_)
    · have hk0 : lyr tr sn b kk ≠ [] := fun z => by
        have := Ly.len
        rw [z] at this
        have : es = [] := List.length_eq_zero_iff.mp this
        rw [this] at hc
        cases hc
      have hkk := lyr_le T hs hk0
      refine ⟨fun σ' H' => ∃ (ly : Addr) (es fs : List Addr) (x5 x6 x7 x8 : Option V), σ' = [some (.ref r), some (iv sn), some (bv b), some (.ref fl), some (.ref ly), x5, x6, x7, x8] ∧ Same H H' ∧ ly ≠ fl ∧ H' fl = some (.lst (fs.map V.ref)) ∧ fs.length = kk + 1 ∧
          (∀ (j : Nat) (f : Addr), fs[j]? = some f → f ≠ fl ∧ H' f = some (.lst (((lyr tr sn b j).map Prod.fst).map iv))) ∧ (∀ j, j < kk + 1 → lyr tr sn b j ≠ []) ∧ LY H' ly es (lyr tr sn b (kk + 1)),
        fun σ' H' ⟨ly, es, fs, x5, x6, x7, x8, e⟩ => ⟨2 * tr.length + 3 - (kk + 1), by omega, kk + 1, ly, es, fs, x5, x6, x7, x8, rfl, e⟩, ?_⟩
      have llen := lyr_len T (b := b) hs kk
      refine ⟨_, rfl, .inl ⟨rfl, _, SqL.of hf1⟩, _, rfl, ly, rfl, ⟨_, SqL.of Ly.hl⟩, fun D nD => ?_⟩
      have Df : D ≠ fl := fun z => by rw [z, hf1] at nD; cases nD
      refine lc_list (K := K) (a := ly) (xs := es.map V.ref) (fun i H' => H' = upd H1 D (.lst ((((lyr tr sn b kk).take i).map Prod.fst).map iv))) rfl (fun i H' _ e => by rw [e]; exact SqL.of (same_upd nD _ _ _ Ly.hl)) ?_ ?_
      · rintro i v H' hv rfl
        obtain ⟨p, hp, rfl⟩ := map_got hv
        have hil := (List.getElem?_eq_some_iff.mp hp).1
        rw [Ly.len] at hil
        have hx := List.getElem?_eq_getElem hil
        have ha := same_upd nD (.lst ((((lyr tr sn b kk).take i).map Prod.fst).map iv)) _ _ (Ly.at_ i p _ hp hx)
        refine ⟨p, _, rfl, SqT.of ha, rfl, _, _, rfl, _, _, rfl, rfl, rfl, _, rfl, _, upd_same, by rw [List.length_map, List.length_map, List.length_take, sizeLine_eq]; omega, ?_⟩
        rw [upd_upd, take_snoc hx, List.map_append, List.map_append]
        rfl
      · rintro H' rfl
        have e1 : (lyr tr sn b kk).take (es.map V.ref).length = lyr tr sn b kk := List.take_of_length_le (by rw [List.length_map, Ly.len]; exact Nat.le_refl _)
        rw [e1]
        have sD := same_upd nD (.lst (((lyr tr sn b kk).map Prod.fst).map iv))
        have hD2 := upd_same (H := H1) (a := D) (o := .lst (((lyr tr sn b kk).map Prod.fst).map iv))
        generalize upd H1 D (.lst (((lyr tr sn b kk).map Prod.fst).map iv)) = H2 at sD hD2
        refine ⟨fl, _, _, rfl, rfl, sD _ _ hf1, by rw [List.length_map, hk, sizeLine_eq]; omega, ?_⟩
        have s3 := same_old (s1.trans sD) nfl (.lst (fs.map V.ref ++ [V.ref D]))
        have hf3 : upd H2 fl (.lst (fs.map V.ref ++ [V.ref D])) fl = some (.lst ((fs ++ [D]).map V.ref)) := by rw [upd_same, List.map_append]; rfl
        have hfs3 : ∀ (j : Nat) (f : Addr), (fs ++ [D])[j]? = some f → f ≠ fl ∧ upd H2 fl (.lst (fs.map V.ref ++ [V.ref D])) f = some (.lst (((lyr tr sn b j).map Prod.fst).map iv)) := fun j f h => by
          rcases get_snoc h with h | ⟨e1, rfl⟩
          · obtain ⟨g1, g2⟩ := hfs j f h
            exact ⟨g1, by rw [upd_ne g1]; exact sD _ _ g2⟩
          · exact ⟨Df, by rw [upd_ne Df, e1, hk]; exact hD2⟩
        have Ly3 : LY (upd H2 fl (.lst (fs.map V.ref ++ [V.ref D]))) ly es (lyr tr sn b kk) := by
          have l2 := Ly.same sD
          exact ⟨by rw [upd_ne lf]; exact l2.hl, l2.len, fun i p x a1 a2 => by rw [upd_ne (ne_of (l2.at_ i p x a1 a2) (sD _ _ hf1) (by intro z; cases z))]; exact l2.at_ i p x a1 a2⟩
        generalize upd H2 fl (.lst (fs.map V.ref ++ [V.ref D])) = H3 at s3 hf3 hfs3 Ly3
        clear sD hD2 Ly hfs hf1 s1 nD H2
        -- the next layer
        refine ⟨_, rfl, ly, rfl, ⟨_, SqL.of Ly3.hl⟩, fun E' nE => ?_⟩
        have Ef : E' ≠ fl := fun z => by rw [z, hf3] at nE; cases nE
        have sE := same_upd nE (.lst [])
        have nlen := lyr_len T (b := b) hs (kk + 1)
        refine ⟨fun i m H' => m = (es.map V.ref).length - i ∧ i ≤ (es.map V.ref).length ∧ ∃ es2, Same H3 H' ∧ LY H' E' es2 (((lyr tr sn b kk).take i).flatMap (nxt tr)), ⟨_, rfl, Nat.zero_le _, [], sE, ⟨upd_same, rfl, fun _ _ _ h => (nomatch h)⟩⟩, ?_⟩
        rintro i m H4 ⟨rfl, hi, es2, s4, Ly4⟩
        have q4 : SqL K H4 ly (es.map V.ref) := SqL.of (s4 _ _ Ly3.hl)
        by_cases hlt : i < (es.map V.ref).length
        · refine .inr ⟨⟨_, _, q4, List.getElem?_eq_getElem hlt⟩, fun H' => ∃ es2, Same H3 H' ∧ LY H' E' es2 (((lyr tr sn b kk).take (i + 1)).flatMap (nxt tr)), fun H' p' => ⟨(es.map V.ref).length - (i + 1), by omega, rfl, hlt, p'⟩, fun x G4 y => ?_⟩
          obtain ⟨e, y⟩ := y
          subst e
          obtain ⟨p, hp, rfl⟩ := map_got (y _ q4)
          have hil := (List.getElem?_eq_some_iff.mp hp).1
          rw [Ly3.len] at hil
          have hx := List.getElem?_eq_getElem hil
          have ha := s4 _ _ (Ly3.at_ i p _ hp hx)
          have hxle := (lyr_ms T hs kk _ (List.mem_of_getElem? hx)).2
          have pre : (((lyr tr sn b kk).take (i + 1)).flatMap (nxt tr)).length ≤ (lyr tr sn b (kk + 1)).length := by
            show _ ≤ ((lyr tr sn b kk).flatMap (nxt tr)).length
            rw [show (lyr tr sn b kk).flatMap (nxt tr) = ((lyr tr sn b kk).take (i + 1)).flatMap (nxt tr) ++ ((lyr tr sn b kk).drop (i + 1)).flatMap (nxt tr) by rw [← List.flatMap_append, List.take_append_drop], List.length_append]
            omega
          have enx : ((lyr tr sn b kk).take (i + 1)).flatMap (nxt tr) = ((lyr tr sn b kk).take i).flatMap (nxt tr) ++ nxt tr ((lyr tr sn b kk)[i]) := by
            rw [take_snoc hx, List.flatMap_append]
            simp
          generalize (lyr tr sn b kk)[i] = x at hx ha hxle enx
          obtain ⟨v, e⟩ := x
          have R4 := R.same (s3.trans s4)
          have h14 := (s3.trans s4) _ _ h1
          refine ⟨p, _, rfl, SqT.of ha, rfl, _, _, rfl, _, _, rfl, rfl, rfl, _, rfl, r, dx, _, rfl, h14, flR_no (by decide +kernel) (by decide +kernel) (by decide +kernel) (by decide +kernel), _, rfl, r, tr, v, rfl, R4, hxle, fun t ht => ?_⟩
          refine ⟨t, rfl, ⟨_, SqT.of ht⟩, ?_⟩
          have tE : t ≠ E' := ne_of ht Ly4.hl (by intro z; cases z)
          have toS : ∀ {H5 : Hp}, FrB E' G4 H5 → Same H3 H5 := fun {H5} F c o ec => F _ _ (s4 _ _ ec) (ne_of_none ec nE)
          have blen : (((lyr tr sn b kk).take i).flatMap (nxt tr)).length + (nb tr v).length ≤ 5000 := by
            have h9 : (((lyr tr sn b kk).take i).flatMap (nxt tr)).length ≤ (lyr tr sn b (kk + 1)).length := by
              have := congrArg List.length enx
              rw [List.length_append] at this
              omega
            have := nb_len tr v
            omega
          refine ⟨fun j m H' => m = ((nb tr v).map iv).length - j ∧ j ≤ ((nb tr v).map iv).length ∧ ∃ es2, FrB E' G4 H' ∧ LY H' E' es2 (((lyr tr sn b kk).take i).flatMap (nxt tr) ++ (((nb tr v).take j).filter fun w => decide (some w ≠ e)).map fun w => (w, some v)), ⟨_, rfl, Nat.zero_le _, es2, (fun _ _ z _ => z), by simpa using Ly4⟩, ?_⟩
          rintro j m H5 ⟨rfl, hj, es3, F5, Ly5⟩
          have q5 : SqT K H5 t ((nb tr v).map iv) := SqT.of (F5 _ _ ht tE)
          by_cases hlj : j < ((nb tr v).map iv).length
          · refine .inr ⟨⟨_, _, q5, List.getElem?_eq_getElem hlj⟩, fun H' => ∃ es2, FrB E' G4 H' ∧ LY H' E' es2 (((lyr tr sn b kk).take i).flatMap (nxt tr) ++ (((nb tr v).take (j + 1)).filter fun w => decide (some w ≠ e)).map fun w => (w, some v)), fun H' p' => ⟨((nb tr v).map iv).length - (j + 1), by omega, rfl, hlj, p'⟩, fun x H' y => ?_⟩
            obtain ⟨e1, y⟩ := y
            subst e1
            obtain ⟨nw, hw, rfl⟩ := map_got (y _ q5)
            have esp : (((nb tr v).take (j + 1)).filter fun w => decide (some w ≠ e)) = (((nb tr v).take j).filter fun w => decide (some w ≠ e)) ++ [nw].filter fun w => decide (some w ≠ e) := by
              rw [take_snoc hw, List.filter_append]
            have sc : scal (iv nw) (bv e) = true := by cases e <;> rfl
            have eqe : (iv nw = bv e) ↔ some nw = e := by
              cases e with
              | none => exact ⟨fun z => (nomatch z), fun z => (nomatch z)⟩
              | some n => exact ⟨fun z => congrArg some (iv_inj.mp z), fun z => iv_inj.mpr (Option.some.inj z)⟩
            refine ⟨rfl, _, rfl, _, rfl, sc, _, rfl, ?_⟩
            refine ite2 (fun hd => ?_) (fun hd => ?_)
            · have hne2 : some nw ≠ e := fun z => by
                rw [decide_eq_true (eqe.mpr z)] at hd
                cases hd
              refine ⟨_, rfl, _, rfl, two, fun u nu => ⟨es3.map V.ref, same_upd nu _ _ _ Ly5.hl, ?_, es3 ++ [u], ?_, ?_⟩⟩
              · rw [List.length_map, Ly5.len, List.length_append, List.length_map, sizeLine_eq]
                have h1 := List.length_filter_le (fun w => decide (some w ≠ e)) ((nb tr v).take j)
                rw [List.length_take] at h1
                omega
              · intro c o ec nc
                have h5 := F5 _ _ ec nc
                rw [upd_ne nc, upd_ne (ne_of_none h5 nu)]
                exact h5
              · have e4 : [nw].filter (fun w => decide (some w ≠ e)) = [nw] := by
                  rw [List.filter_cons_of_pos (by simp [hne2]), List.filter_nil]
                rw [esp, e4, List.map_append, ← List.append_assoc]
                exact Ly5.grow nu (x := (nw, some v))
            · have he2 : some nw = e := by
                by_cases c : some nw = e
                · exact c
                · exfalso
                  apply hd
                  rw [decide_eq_false (fun z => c (eqe.mp z))]
                  rfl
              have e3 : [nw].filter (fun w => decide (some w ≠ e)) = [] := by
                rw [List.filter_cons_of_neg (by simp [he2]), List.filter_nil]
              rw [esp, e3, List.append_nil]
              exact ⟨es3, F5, Ly5⟩
          · refine .inl ⟨⟨_, q5, by omega⟩, es3, toS F5, ?_⟩
            rw [enx]
            have e3 : (nb tr v).take j = nb tr v := List.take_of_length_le (by rw [List.length_map] at hlj; omega)
            rw [e3] at Ly5
            exact Ly5
        · refine .inl ⟨⟨_, q4, by omega⟩, ?_⟩
          have e3 : (lyr tr sn b kk).take i = lyr tr sn b kk := List.take_of_length_le (by rw [← Ly3.len]; rw [List.length_map] at hlt; omega)
          rw [e3] at Ly4
          exact ⟨E', es2, fs ++ [D], _, _, _, _, rfl, s3.trans s4, Ef, s4 _ _ hf3, by rw [List.length_append, hk]; rfl, fun j f h => ⟨(hfs3 j f h).1, s4 _ _ (hfs3 j f h).2⟩, fun j hj => (by
            by_cases c : j < kk
            · exact hne j c
            · have : j = kk := by omega
              rw [this]
              exact hk0), Ly4⟩
    · have he : lyr tr sn b kk = [] := by
        cases e : lyr tr sn b kk with
        | nil => rfl
        | cons x l =>
          exfalso
          apply hc
          have := Ly.len
          rw [e] at this
          cases es with
          | nil => cases this
          | cons a l => rfl
      exact ⟨_, rfl, k fl fs H1 s1 hf1 (fun j f h => (hfs j f h).2) (fun j hj => hne j (by omega)) (by rw [hk]; exact he)⟩
end
end TR
namespace TR
open PySem PySem.Spec PyProof.Rows L2 L2.TT StX ClX
def spChkLen : Sp := fun vs H Q _ => ∃ m : Nat, vs = [iv m] ∧ 1 ≤ m ∧ Q .non H
section
variable {P : Program} {w : World} {K : PySem.W.Frag} {mg : Str → Option Value} {base : Heap}
theorem sc_chklen : FnScope ["length"] ["length"] (defScope s_check_length) := ⟨rfl, rfl, rfl, by decide +kernel, rfl, by decide +kernel, by decide +kernel⟩
theorem ok_chklen {f fI : Addr} {fd fdI : FuncData} (F : Fun K "check_length" "check_length" s_check_length f fd) (U : Use P w K mg base CX0 1 "is_integer" fI fdI ["value"] (spIsInt K)) : FnOk P w K mg base CX0 2 f fd ["length"] spChkLen := by
  refine F.ok sc_chklen (fun vs H Q E h => ?_) (fun cdv A outer s H vs Q E hr h => ?_)
  · obtain ⟨m, rfl, _⟩ := h
    rfl
  · obtain ⟨m, rfl, hm, k⟩ := h
    refine ⟨_, pss_one (ps_if (PW.pt (pw_or (pt_not (pt_val (pe_use U hr rfl (pa_cons (pv 0) pa_nil)))) (pw_or1 (pt_cmpR op_lt (pv 0) pe_int (nomark _))))) pss_never pss_nil), ?_⟩
    refine ⟨_, rfl, _, rfl, .inl ⟨_, rfl⟩, _, rfl, ?_⟩
    refine iteF ?_
    refine ⟨_, rfl, _, _, rfl, rfl, _, rfl, ?_⟩
    rw [show decide ((m : Int) < 1) = false from decide_eq_false (by omega)]
    exact iteF k
end
end TR
namespace TR
open PySem PySem.Spec PyProof.Rows L2 L2.TT StX ClX
def spLBh (C : Addr) : Sp := fun vs H Q _ => ∃ (r : Addr) (tr : List E2) (a b : Nat), vs = [.ref r, iv a, iv b] ∧ RailAt C H r tr ∧ a ≤ tr.length ∧ b ≤ tr.length ∧ a ≠ b ∧
  ∀ (fl : Addr) (fs : List Addr) (l : List Nat) (x : Nat) (H' : Hp), Same H H' → SW tr a b l → l[1]? = some x → H' fl = some (.lst (fs.map V.ref)) → fs.length = ht tr a (some x) → Q (.ref fl) H'
def spDBh (C : Addr) : Sp := fun vs H Q _ => ∃ (r : Addr) (tr : List E2) (a b : Nat), vs = [.ref r, iv a, iv b] ∧ RailAt C H r tr ∧ a ≤ tr.length ∧ b ≤ tr.length ∧ a ≠ b ∧ ∀ (l : List Nat) (x : Nat) (H' : Hp), Same H H' → SW tr a b l → l[1]? = some x → Q (iv (dph tr a x)) H'
section
variable {P : Program} {w : World} {K : PySem.W.Frag} {mg : Str → Option Value} {base : Heap}
abbrev N_sc_lbh : List Str := ["railway", "station", "seen_from"]
theorem sc_lbh : FnScope N_sc_lbh ["railway", "station", "seen_from"] (defScope s_layers_behind) := ⟨rfl, rfl, rfl, by decide +kernel, rfl, by decide +kernel, by decide +kernel⟩
theorem ok_lbh {f fc fp fl C : Addr} {fd fdc fdp fdl : FuncData} (F : Fun K "_layers_behind" "_layers_behind" s_layers_behind f fd) (X : TxtR K mg C) (U0 : Use P w K mg base CX0 4 "check_station" fc fdc ["railway", "station"] (spChkSt C)) (UL : Use P w K mg base CX0 6 "layers" fl fdl ["railway", "station", "barred"] (spLayers C))
    (Mp : MU P w K mg base C 5 "path" fp fdp ["self", "one", "other"] (spPath C)) : FnOk P w K mg base CX0 7 f fd ["railway", "station", "seen_from"] (spLBh C) := by
  refine F.ok sc_lbh (fun vs H Q E h => ?_) (fun cdv A outer s H vs Q E hr h => ?_)
  · obtain ⟨r, tr, a, b, rfl, _⟩ := h
    rfl
  · obtain ⟨r, tr, a, b, rfl, R, ha, hb, ne, k⟩ := h
    have hr4 : Room 4 (A.deeper (envOfC "_layers_behind" (defScope s_layers_behind) s.heap.objs.size f cdv)) := hr.mono (by decide)
    have hr5 : Room 5 (A.deeper (envOfC "_layers_behind" (defScope s_layers_behind) s.heap.objs.size f cdv)) := hr.mono (by decide)
    refine ⟨_, (pss_cons (ps_expr (pe_use U0 hr4 (by rfl) (pa_cons (pv 0) (pa_cons (pv 1) pa_nil))))
        (pss_cons (ps_expr (pe_use U0 hr4 (by rfl) (pa_cons (pv 0) (pa_cons (pv 2) pa_nil))))
        (pss_cons (ps_if (pt_cmpR op_eq (pv 1) (pv 2) (nomark _)) (pss_one L2.ps_never) pss_nil)
        (pss_one (ps_ret (pe_use UL hr (by rfl) (pa_cons (pv 0) (pa_cons (pv 1) (pa_cons (pe_ix ix_tup (pe_meth (pv 0) X.cl Mp.m Mp.G hr5 Mp.b .nil pass0 (pa_cons (pv 1) (pa_cons (pv 2) pa_nil))) pe_int (fun _ _ => rfl)) pa_nil))))))))), ?_⟩
    obtain ⟨T, few, dx, tt, na, Aa, L, ps, ts, h1, h2⟩ := id R
    refine ⟨_, rfl, _, rfl, r, tr, a, rfl, R, ha, _, rfl, _, rfl, r, tr, b, rfl, R, hb, _, rfl, _, rfl, rfl, _, rfl, ?_⟩
    rw [show decide (iv a = iv b) = false from decide_eq_false fun z => ne (iv_inj.mp z)]
    refine iteF ?_
    refine ⟨_, rfl, _, rfl, _, rfl, r, dx, _, rfl, h1, flR_no (by decide +kernel) (by decide +kernel) (by decide +kernel) (by decide +kernel), _, rfl, _, rfl, r, tr, a, b, rfl, R, ha, hb, fun l p H' sw s1 np hp => ?_⟩
    have two := sw_two sw ne
    obtain ⟨x, y, l', rfl⟩ : ∃ x y l', l = x :: y :: l' := by
      match l, two with
      | x :: y :: l', _ => exact ⟨x, y, l', rfl⟩
    refine ⟨p, _, _, iv y, rfl, rfl, SqT.of hp, atN (n := 1) rfl, ?_⟩
    refine ⟨r, tr, a, some y, rfl, R.same s1, ha, fun fl fs H2 s2 hfl _ hne hnil => ?_⟩
    exact k fl fs _ y H2 (s1.trans s2) sw rfl hfl (ht_eq hnil hne).symm
abbrev N_sc_dbh : List Str := ["railway", "station", "seen_from"]
theorem sc_dbh : FnScope N_sc_dbh ["railway", "station", "seen_from"] (defScope s_depth_behind) := ⟨rfl, rfl, rfl, by decide +kernel, rfl, by decide +kernel, by decide +kernel⟩
theorem ok_dbh {f fb C : Addr} {fd fdb : FuncData} (F : Fun K "depth_behind" "depth_behind" s_depth_behind f fd) (N : Nm mg) (U : Use P w K mg base CX0 7 "_layers_behind" fb fdb ["railway", "station", "seen_from"] (spLBh C)) : FnOk P w K mg base CX0 8 f fd ["railway", "station", "seen_from"] (spDBh C) := by
  refine F.ok sc_dbh (fun vs H Q E h => ?_) (fun cdv A outer s H vs Q E hr h => ?_)
  · obtain ⟨r, tr, a, b, rfl, _⟩ := h
    rfl
  · obtain ⟨r, tr, a, b, rfl, R, ha, hb, ne, k⟩ := h
    refine ⟨_, (pss_one (ps_ret (pe_op op_sub (pe_callB call_len_seq (by rfl) N.len boot_len (pa_cons (pe_use U hr (by rfl) (pa_cons (pv 0) (pa_cons (pv 1) (pa_cons (pv 2) pa_nil)))) pa_nil)) pe_int))), ?_⟩
    refine ⟨_, rfl, _, rfl, _, rfl, r, tr, a, b, rfl, R, ha, hb, ne, fun fl fs l x H1 s1 sw hx hfl hf => ?_⟩
    refine ⟨fl, _, rfl, .inl (SqL.of hfl), _, _, rfl, rfl, ?_⟩
    have e : V.int (((fs.map V.ref).length : Int) - 1) = iv (dph tr a x) := by
      have hp := ht_pos R.T (b := some x) ha
      rw [List.length_map, hf]
      show V.int _ = V.int ((ht tr a (some x) - 1 : Nat) : Int)
      congr 1
      omega
    show Q (V.int (((fs.map V.ref).length : Int) - 1)) H1
    rw [e]
    exact k l x H1 s1 sw hx
end
end TR
namespace TR
section
variable {tr : List E2}
/-- whether a list is a path of at least two stations -/
noncomputable def isLn (tr : List E2) (l : List Nat) : Bool := decide (2 ≤ l.length) && decide (pl tr (hd0 l) (lt0 l) = l)
theorem isLn_bd (T : TreeL tr) {l : List Nat} (hl : ∀ z ∈ l, z ≤ tr.length) (h : isLn tr l = true) : Bd tr l := by
  unfold isLn at h
  rw [Bool.and_eq_true] at h
  have h2 := of_decide_eq_true h.1
  have h3 := of_decide_eq_true h.2
  obtain ⟨x, r, e⟩ : ∃ x r, l = x :: r := by
    match l, h2 with
    | x :: r, _ => exact ⟨x, r, rfl⟩
  have m1 : hd0 l ∈ l := by
    rw [e]
    exact List.mem_cons_self
  have m2 : lt0 l ∈ l := by
    unfold lt0
    rw [List.getLastD_eq_getLast?]
    cases e2 : l.getLast? with
    | none =>
      rw [List.getLast?_eq_none_iff.mp e2] at e
      cases e
    | some z => exact List.mem_of_getLast? e2
  obtain ⟨m, sw, _⟩ := sw_ex T (hl _ m1) (hl _ m2)
  rw [pl_eq T sw] at h3
  subst h3
  exact ⟨sw, h2, hl⟩
theorem isLn_of (T : TreeL tr) {l : List Nat} (b : Bd tr l) : isLn tr l = true := by
  unfold isLn
  rw [pl_eq T b.sw, decide_eq_true b.two, decide_eq_true rfl]
  rfl
/-- whether the branches beside a line are less deep -/
noncomputable def isDv (tr : List E2) (L : Nat) (l : List Nat) : Bool := decide (∀ s ∈ l, ∀ w ∈ nb tr s, w ∉ l → dph tr w s + 1 < L)
/-- the mark of a station on a line, and one more -/
noncomputable def mkN (tr : List E2) (l : List Nat) (s : Nat) : Nat := ((pl tr (hd0 l) s).filter fun z => decide (z ∈ l)).length
end
end TR
namespace TR
open PySem PySem.Spec PyProof.Rows L2 L2.TT StX ClX
/-- what is no line -/
inductive NoLn (K : PySem.W.Frag) (H : Hp) (n : Nat) : V → Prop where
  | no {v : V} {k : String} (t : TyX K H v (.type k)) (kb : kitB k "tuple" = some false) : NoLn K H n v
  | tup {a : Addr} {xs : List V} (h : H a = some (.tup xs)) (hx : ∀ x ∈ xs, IV K H x) (hl : xs.length ≤ 1000) (hn : xs.length < 2 ∨ ∃ x ∈ xs, inR x 0 n = false) : NoLn K H n (.ref a)
/-- a tuple of stations -/
structure StT (H : Hp) (p : Addr) (tr : List E2) (l : List Nat) : Prop where
  at_ : H p = some (.tup (l.map iv))
  le : ∀ z ∈ l, z ≤ tr.length
  ln : l.length ≤ 1000
theorem StT.same {H H' : Hp} {p : Addr} {tr : List E2} {l : List Nat} (h : StT H p tr l) (s : Same H H') : StT H' p tr l := ⟨s _ _ h.at_, h.le, h.ln⟩
def spIsLn (C : Addr) : Sp := fun vs H Q _ => ∃ (r p : Addr) (tr : List E2) (l : List Nat), vs = [.ref r, .ref p] ∧ RailAt C H r tr ∧ StT H p tr l ∧ ∀ H', Same H H' → Q (.bl (isLn tr l)) H'
def spNoLn (C : Addr) (K : PySem.W.Frag) : Sp := fun vs H Q _ => ∃ (r : Addr) (tr : List E2) (v : V), vs = [.ref r, v] ∧ RailAt C H r tr ∧ NoLn K H tr.length v ∧ ∀ H', Same H H' → Q (.bl false) H'
def spBrd (C : Addr) : Sp := fun vs H Q _ => ∃ (r : Addr) (tr : List E2) (s : Nat), vs = [.ref r, iv s] ∧ RailAt C H r tr ∧ s ≤ tr.length ∧ ∀ (q : Addr) (ps : List Addr) (H' : Hp), Same H H' → H' q = some (.tup (ps.map V.ref)) → Prs H' ps ((nb tr s).map fun w => (w, dph tr w s + 1)) → Q (.ref q) H'
section
variable {P : Program} {w : World} {K : PySem.W.Frag} {mg : Str → Option Value} {base : Heap}
abbrev N_sc_isl : List Str := ["railway", "value", "station"]
theorem sc_isl : FnScope N_sc_isl ["railway", "value"] (defScope s_is_line) := ⟨rfl, rfl, rfl, by decide +kernel, rfl, by decide +kernel, by decide +kernel⟩
theorem ok_isl {f fS fp C : Addr} {fd fdS fdp : FuncData} (F : Fun K "is_line" "is_line" s_is_line f fd) (N : Nm mg) (X : TxtR K mg C) (US : Use P w K mg base CX0 3 "is_station" fS fdS ["railway", "value"] (spIsSt C K)) (Mp : MU P w K mg base C 5 "path" fp fdp ["self", "one", "other"] (spPath C)) :
    FnOk P w K mg base CX0 6 f fd ["railway", "value"] (spIsLn C) := by
  refine F.ok sc_isl (fun vs H Q E h => ?_) (fun cdv A outer s H vs Q E hr h => ?_)
  · obtain ⟨r, p, tr, l, rfl, _⟩ := h
    rfl
  · obtain ⟨r, p, tr, l, rfl, R, hp, k⟩ := h
    have hr3 : Room 3 (A.deeper (envOfC "is_line" (defScope s_is_line) s.heap.objs.size f cdv)) := hr.mono (by decide)
    have hu64 : (A.deeper (envOfC "is_line" (defScope s_is_line) s.heap.objs.size f cdv)).units + 64 < cLine := hr.units
    refine ⟨_, (pss_cons (ps_if (PW.pt (pw_or (pt_not (pt_val (pe_callB call_isi (by rfl) N.isi boot_isinstance (pa_cons (pv 1) (pa_cons (pe_bltn (v := .ty "tuple") (by rfl) N.tuple (by decide +kernel) rfl) pa_nil))))) (pw_or1 (pt_cmpR op_lt (pe_callB call_len_seq (by rfl) N.len boot_len (pa_cons (pv 1) pa_nil)) pe_int (nomark _))))) (pss_one (ps_ret pe_bl)) pss_nil)
        (pss_cons (ps_if (pt_not (pt_val (pe_callB (cr_all rfl) (by rfl) N.all boot_all (pa_cons (pe_lc (own := [("station", 2)]) (g := (gName 2)) (tt := tYes) rfl sc_isl.nd (pi_tup (pv 1)) (blkOk_by (N := N_sc_isl) (sc := defScope s_is_line) (by decide +kernel)) (fun _ _ _ _ _ => pg_name (i := 2) sc_isl.nd rfl (Or.inl rfl)) (fun _ _ _ _ _ => pts_nil) (fun _ _ _ _ _ => (pe_use US hr3 (by rfl) (pa_cons (pv 0) (pa_cons (pv 2) pa_nil))))) pa_nil)))) (pss_one (ps_ret pe_bl)) pss_nil)
        (pss_one (ps_ret (pe_cmpR (op_eqD hu64) (pv 1) (pe_meth (pv 0) X.cl Mp.m Mp.G hr Mp.b .nil pass0 (pa_cons (pe_ix ix_tup (pv 1) pe_int (fun _ _ => rfl)) (pa_cons (pe_ix ix_tup (pv 1) (pe_un un_neg pe_int) (fun _ _ => rfl)) pa_nil))) (nomark _)))))), ?_⟩
    obtain ⟨T, few, dx, tt0, na, Aa, L, ps0, ts0, h1, _⟩ := id R
    refine ⟨_, rfl, _, _, _, _, true, rfl, .ty _, .base (.tup hp.at_), tup_tup, true, rfl, ?_⟩
    refine iteF ?_
    refine ⟨_, rfl, p, _, rfl, .inr (SqT.of hp.at_), _, _, rfl, rfl, _, rfl, ?_⟩
    by_cases c : l.length < 2
    · rw [show decide (((l.map iv).length : Int) < 2) = true from decide_eq_true (by rw [List.length_map]; omega)]
      have := k H (Same.refl _)
      rw [show isLn tr l = false from by unfold isLn; rw [decide_eq_false (by omega)]; rfl] at this
      exact iteT this
    rw [show decide (((l.map iv).length : Int) < 2) = false from decide_eq_false (by rw [List.length_map]; omega)]
    refine iteF ?_
    refine ⟨_, rfl, p, rfl, ⟨_, SqT.of hp.at_⟩, fun D nD => ?_⟩
    have sD : ∀ ys : List V, Same H (upd H D (.lst ys)) := fun ys => same_upd nD _
    refine lc_tup (K := K) (a := p) (xs := l.map iv) (fun i H' => H' = upd H D (.lst ((List.replicate i true).map V.bl))) rfl (fun i H' _ e => by rw [e]; exact SqT.of (sD _ _ _ hp.at_)) ?_ ?_
    · rintro i v H' hv rfl
      obtain ⟨x, hx, rfl⟩ := map_got hv
      have hil := (List.getElem?_eq_some_iff.mp hx).1
      have ln := hp.ln
      refine ⟨rfl, _, rfl, _, rfl, r, tr, iv x, rfl, R.same (sD _), .inl ⟨_, rfl⟩, _, upd_same, by rw [List.length_map, List.length_replicate, sizeLine_eq]; omega, ?_⟩
      rw [inR_iv2 (hp.le x (List.mem_of_getElem? hx)), upd_upd, List.replicate_succ', List.map_append]
      rfl
    · rintro H' rfl
      refine ⟨D, _, rfl, SqL.of upd_same, _, rfl, ?_⟩
      rw [show (List.replicate (l.map iv).length true).all id = true by simp]
      refine iteF ?_
      have hp1 := sD ((List.replicate (l.map iv).length true).map V.bl) _ _ hp.at_
      have R1 := R.same (sD ((List.replicate (l.map iv).length true).map V.bl))
      have s1 := sD ((List.replicate (l.map iv).length true).map V.bl)
      have h1' := s1 _ _ h1
      generalize upd H D (.lst ((List.replicate (l.map iv).length true).map V.bl)) = H1 at hp1 R1 s1 h1' ⊢
      have pos : 0 < l.length := by omega
      refine ⟨_, rfl, _, rfl, r, dx, _, rfl, h1', flR_no (by decide +kernel) (by decide +kernel) (by decide +kernel) (by decide +kernel), _, rfl, p, _, _, _, rfl, rfl, SqT.of hp1, at_hd0 pos, _, rfl, _, rfl, p, _, _, _, rfl, rfl, SqT.of hp1, at_lt0 pos, r, tr, hd0 l, lt0 l, rfl, R1, hp.le _ (hd0_mem pos), hp.le _ (lt0_mem pos), fun m q H2 sw s2 nq hq => ?_⟩
      refine ⟨.tuple (l.map di), .tuple (m.map di), .tup (SqT.of (s2 _ _ hp1)) (dpAll_ints l), .tup (SqT.of hq) (dpAll_ints m), shaped_tup l, shaped_tup m, ?_⟩
      have := k H2 (s1.trans s2)
      rw [show isLn tr l = PyData.eqv (.tuple (l.map di)) (.tuple (m.map di)) from by
        unfold isLn
        rw [eqv_ints, pl_eq T sw, decide_eq_true (show 2 ≤ l.length by omega), Bool.true_and]
        exact decide_eq_decide.mpr eq_comm] at this
      exact this
theorem ok_isl0 {f fS fp C : Addr} {fd fdS fdp : FuncData} (F : Fun K "is_line" "is_line" s_is_line f fd) (N : Nm mg) (X : TxtR K mg C) (US : Use P w K mg base CX0 3 "is_station" fS fdS ["railway", "value"] (spIsSt C K)) (Mp : MU P w K mg base C 5 "path" fp fdp ["self", "one", "other"] (spPath C)) :
    FnOk P w K mg base CX0 6 f fd ["railway", "value"] (spNoLn C K) := by
  refine F.ok sc_isl (fun vs H Q E h => ?_) (fun cdv A outer s H vs Q E hr h => ?_)
  · obtain ⟨r, tr, v, rfl, _⟩ := h
    rfl
  · obtain ⟨r, tr, v, rfl, R, hv, k⟩ := h
    have hr3 : Room 3 (A.deeper (envOfC "is_line" (defScope s_is_line) s.heap.objs.size f cdv)) := hr.mono (by decide)
    have hu64 : (A.deeper (envOfC "is_line" (defScope s_is_line) s.heap.objs.size f cdv)).units + 64 < cLine := hr.units
    refine ⟨_, (pss_cons (ps_if (PW.pt (pw_or (pt_not (pt_val (pe_callB call_isi (by rfl) N.isi boot_isinstance (pa_cons (pv 1) (pa_cons (pe_bltn (v := .ty "tuple") (by rfl) N.tuple (by decide +kernel) rfl) pa_nil))))) (pw_or1 (pt_cmpR op_lt (pe_callB call_len_seq (by rfl) N.len boot_len (pa_cons (pv 1) pa_nil)) pe_int (nomark _))))) (pss_one (ps_ret pe_bl)) pss_nil)
        (pss_cons (ps_if (pt_not (pt_val (pe_callB (cr_all rfl) (by rfl) N.all boot_all (pa_cons (pe_lc (own := [("station", 2)]) (g := (gName 2)) (tt := tYes) rfl sc_isl.nd (pi_tup (pv 1)) (blkOk_by (N := N_sc_isl) (sc := defScope s_is_line) (by decide +kernel)) (fun _ _ _ _ _ => pg_name (i := 2) sc_isl.nd rfl (Or.inl rfl)) (fun _ _ _ _ _ => pts_nil) (fun _ _ _ _ _ => (pe_use US hr3 (by rfl) (pa_cons (pv 0) (pa_cons (pv 2) pa_nil))))) pa_nil)))) (pss_one (ps_ret pe_bl)) pss_nil)
        (pss_one (ps_ret (pe_cmpR (op_eqD hu64) (pv 1) (pe_meth (pv 0) X.cl Mp.m Mp.G hr Mp.b .nil pass0 (pa_cons (pe_ix ix_tup (pv 1) pe_int (fun _ _ => rfl)) (pa_cons (pe_ix ix_tup (pv 1) (pe_un un_neg pe_int) (fun _ _ => rfl)) pa_nil))) (nomark _)))))), ?_⟩
    cases hv with
    | no t kb =>
      refine ⟨_, rfl, _, _, _, _, false, rfl, .ty _, t, kit_ty kb, false, rfl, ?_⟩
      refine iteT ?_
      exact iteT (k _ (Same.refl _))
    | @tup a xs ha hx hl hn =>
      refine ⟨_, rfl, _, _, _, _, true, rfl, .ty _, .base (.tup ha), tup_tup, true, rfl, ?_⟩
      refine iteF ?_
      refine ⟨_, rfl, a, _, rfl, .inr (SqT.of ha), _, _, rfl, rfl, _, rfl, ?_⟩
      by_cases c : xs.length < 2
      · rw [show decide ((xs.length : Int) < 2) = true from decide_eq_true (by omega)]
        exact iteT (k _ (Same.refl _))
      rw [show decide ((xs.length : Int) < 2) = false from decide_eq_false (by omega)]
      refine iteF ?_
      rcases hn with hn | ⟨x0, hx0, hx1⟩
      · exact absurd hn c
      refine ⟨_, rfl, a, rfl, ⟨_, SqT.of ha⟩, fun D nD => ?_⟩
      refine lc_tup (K := K) (a := a) (xs := xs) (fun i H' => H' = upd H D (.lst (((xs.take i).map fun x => inR x 0 tr.length).map V.bl))) rfl (fun i H' _ e => by rw [e]; exact SqT.of (same_upd nD _ _ _ ha)) ?_ ?_
      · rintro i v H' hv rfl
        have hil := (List.getElem?_eq_some_iff.mp hv).1
        refine ⟨rfl, _, rfl, _, rfl, r, tr, v, rfl, R.same (same_upd nD _), iv_same (hx v (List.mem_of_getElem? hv)) (same_upd nD _), _, upd_same, by rw [List.length_map, List.length_map, List.length_take, sizeLine_eq]; omega, ?_⟩
        rw [upd_upd, take_snoc hv, List.map_append, List.map_append]
        rfl
      · rintro H' rfl
        rw [List.take_length]
        refine ⟨D, _, rfl, SqL.of upd_same, _, rfl, ?_⟩
        rw [show (xs.map fun x => inR x 0 tr.length).all id = false from by
          rw [Bool.eq_false_iff]
          intro z
          rw [all_bools2] at z
          rw [z x0 hx0] at hx1
          cases hx1]
        exact iteT (k _ (same_upd nD _))
abbrev N_sc_brd : List Str := ["railway", "station", "near"]
theorem sc_brd : FnScope N_sc_brd ["railway", "station"] (defScope s_branch_depths) := ⟨rfl, rfl, rfl, by decide +kernel, rfl, by decide +kernel, by decide +kernel⟩
theorem ok_brd {f f0 fD fn C : Addr} {fd fd0 fdD fdn : FuncData} (F : Fun K "branch_depths" "branch_depths" s_branch_depths f fd) (N : Nm mg) (X : TxtR K mg C) (U0 : Use P w K mg base CX0 4 "check_station" f0 fd0 ["railway", "station"] (spChkSt C)) (UD : Use P w K mg base CX0 8 "depth_behind" fD fdD ["railway", "station", "seen_from"] (spDBh C)) (Mn : MU P w K mg base C 5 "neighbours" fn fdn ["self", "station"] (spNbr C)) :
    FnOk P w K mg base CX0 9 f fd ["railway", "station"] (spBrd C) := by
  refine F.ok sc_brd (fun vs H Q E h => ?_) (fun cdv A outer s H vs Q E hr h => ?_)
  · obtain ⟨r, tr, s, rfl, _⟩ := h
    rfl
  · obtain ⟨r, tr, sn, rfl, R, hs, k⟩ := h
    have hr5 : Room 5 (A.deeper (envOfC "branch_depths" (defScope s_branch_depths) s.heap.objs.size f cdv)) := hr.mono (by decide)
    refine ⟨_, (pss_cons (ps_expr (pe_use U0 (hr.mono (by decide)) (by rfl) (pa_cons (pv 0) (pa_cons (pv 1) pa_nil))))
        (pss_one (ps_ret (pe_callTy call_tuple_of (by rfl) N.tuple boot_tuple (pa_cons (pe_lc (own := [("near", 2)]) (g := (gName 2)) (tt := tYes) rfl sc_brd.nd (pi_tup (pe_meth (pv 0) X.cl Mn.m Mn.G hr5 Mn.b .nil pass0 (pa_cons (pv 1) pa_nil))) (blkOk_by (N := N_sc_brd) (sc := defScope s_branch_depths) (by decide +kernel)) (fun _ _ _ _ _ => pg_name (i := 2) sc_brd.nd rfl (Or.inl rfl)) (fun _ _ _ _ _ => pts_nil) (fun _ _ _ _ _ => (pe_tup (pa_cons (pv 2) (pa_cons (pe_op op_add pe_int (pe_use UD hr (by rfl) (pa_cons (pv 0) (pa_cons (pv 2) (pa_cons (pv 1) pa_nil))))) pa_nil))))) pa_nil))))), ?_⟩
    obtain ⟨T, few, dx, tt0, na, Aa, L, ps0, ts0, h1, h2, h3, h4, h5, h6, h7⟩ := id R
    have two : (2 : Nat) ≤ sizeLine := by rw [sizeLine_eq]; decide
    refine ⟨_, rfl, _, rfl, r, tr, sn, rfl, R, hs, ?_⟩
    refine ⟨_, rfl, r, dx, _, rfl, h1, flR_no (by decide +kernel) (by decide +kernel) (by decide +kernel) (by decide +kernel), _, rfl, r, tr, sn, rfl, R, hs, fun t ht => ?_⟩
    refine ⟨t, rfl, ⟨_, SqT.of ht⟩, fun D nD => ?_⟩
    have nbl := nb_len tr sn
    refine lc_tup (K := K) (a := t) (xs := (nb tr sn).map iv) (fun i H' => ∃ qs, Acc PrR H H' D qs (((nb tr sn).take i).map fun w => (w, dph tr w sn + 1))) ⟨[], .start nD⟩ (fun i H' _ ⟨_, a⟩ => SqT.of (a.sm _ _ ht)) ?_ ?_
    · rintro i v H' hv ⟨qs, a⟩
      obtain ⟨w, hw, rfl⟩ := map_got hv
      have hwm := List.mem_of_getElem? hw
      have ha := (mem_nb T.ne).mp hwm
      have hil := (List.getElem?_eq_some_iff.mp hw).1
      have two2 : SW tr w sn [w, sn] := ⟨⟨ha.sym, trivial⟩, by simpa using (T.adj_ne ha).symm, rfl, rfl⟩
      refine ⟨rfl, _, rfl, _, rfl, _, rfl, _, rfl, r, tr, w, sn, rfl, R.same a.sm, (T.adj_le ha).2, hs, (T.adj_ne ha).symm, fun l x H2 s2 sw hx => ?_⟩
      cases SW.uniq T sw two2
      cases hx
      refine ⟨_, _, rfl, rfl, two, fun q nq => ?_⟩
      have nDH2 : H2 D ≠ none := by rw [s2 _ _ a.own]; exact fun z => by cases z
      have sq := s2.trans (same_upd nq (.tup [iv w, .int (1 + (dph tr w sn : Int))]))
      have e1 : V.int (1 + (dph tr w sn : Int)) = iv (dph tr w sn + 1) := by
        show V.int _ = V.int ((dph tr w sn + 1 : Nat) : Int)
        congr 1
        omega
      have hq : PrR (upd H2 q (.tup [iv w, .int (1 + (dph tr w sn : Int))])) q (w, dph tr w sn + 1) := by
        show _ = some (HO.tup [iv w, iv (dph tr w sn + 1)])
        rw [upd_same, e1]
      have a2 := a.push firmP tupyP nD sq hq
      have lq : qs.length ≤ i := by rw [a.lay.len, List.length_map, List.length_take]; omega
      refine ⟨qs.map V.ref, sq _ _ a.own, by rw [List.length_map, sizeLine_eq]; omega, qs ++ [q], ?_⟩
      rw [take_snoc hw, List.map_append]
      exact a2
    · rintro H' ⟨qs, a⟩
      rw [show (nb tr sn).take ((nb tr sn).map iv).length = nb tr sn from List.take_of_length_le (by rw [List.length_map]; exact Nat.le_refl _)] at a
      refine ⟨D, _, rfl, .inl ⟨SqL.of a.own, fun l nl => ?_⟩⟩
      have sl := same_upd nl (.tup (qs.map V.ref))
      have l2 := a.lay.same firmP sl
      exact k l qs _ (a.sm.trans sl) upd_same ⟨l2.len, l2.at_⟩
end
end TR
namespace TR
open PySem PySem.Spec PyProof.Rows L2 L2.TT StX ClX
/-- a def of the module whose promise asks that no repr is under way -/
structure UseG (P : Program) (w : World) (K : PySem.W.Frag) (mg : Str → Option Value) (base : Heap) (k : Nat) (x : Str) (f : Addr) (fd : FuncData) (ps : List Str) (sp : Sp) : Prop where
  G : FnG P w K mg base CX0 k f fd ps sp
  m : mg x = some (.ref f)
  kp : PySem.W.keepIn K (.ref f) = true
  b : Binds K fd ps []
def spLaw (K : PySem.W.Frag) : Sp := fun vs H Q _ => ∃ (a : Addr) (ns : List Int), vs = [.ref a] ∧ SqL K H a (ns.map V.int) ∧ ns.length ≤ 63 ∧ ∀ H', Q (.bl true) H'
end TR
namespace TR
open PySem PySem.Spec PyProof.Rows L2 L2.TT StX ClX
def spLnQ (C : Addr) (K : PySem.W.Frag) : Sp := fun vs H Q E => spIsLn C vs H Q E ∨ spNoLn C K vs H Q E
def spIsDv (C : Addr) : Sp := fun vs H Q _ => ∃ (r p : Addr) (tr : List E2) (L : Nat) (l : List Nat), vs = [.ref r, iv L, .ref p] ∧ 1 ≤ L ∧ RailAt C H r tr ∧ StT H p tr l ∧ isLn tr l = true ∧ ∀ H', Same H H' → Q (.bl (isDv tr L l)) H'
def spMark (C : Addr) : Sp := fun vs H Q _ => ∃ (r p : Addr) (tr : List E2) (l : List Nat) (s : Nat), vs = [.ref r, .ref p, iv s] ∧ RailAt C H r tr ∧ StT H p tr l ∧ isLn tr l = true ∧ s ≤ tr.length ∧ ∀ H', Same H H' → Q (.int ((mkN tr l s : Int) - 1)) H'
section
variable {P : Program} {w : World} {K : PySem.W.Frag} {mg : Str → Option Value} {base : Heap}
abbrev N_sc_isd : List Str := ["railway", "length", "value", "station", "near", "depth"]
theorem sc_isd : FnScope N_sc_isd ["railway", "length", "value"] (defScope s_is_divide) := ⟨rfl, rfl, rfl, by decide +kernel, rfl, by decide +kernel, by decide +kernel⟩
theorem ok_isd {f fL fI fB C : Addr} {fd fdL fdI fdB : FuncData} (F : Fun K "is_divide" "is_divide" s_is_divide f fd) (UL : Use P w K mg base CX0 2 "check_length" fL fdL ["length"] spChkLen) (UI : Use P w K mg base CX0 6 "is_line" fI fdI ["railway", "value"] (spLnQ C K)) (UB : Use P w K mg base CX0 9 "branch_depths" fB fdB ["railway", "station"] (spBrd C)) :
    FnOk P w K mg base CX0 10 f fd ["railway", "length", "value"] (spIsDv C) := by
  refine F.ok sc_isd (fun vs H Q E h => ?_) (fun cdv A outer s H vs Q E hr h => ?_)
  · obtain ⟨r, p, tr, L, l, rfl, _⟩ := h
    rfl
  · obtain ⟨r, p, tr, L, l, rfl, hL, R, hp, ln, k⟩ := h
    refine ⟨_, (pss_cons (ps_expr (pe_use UL (hr.mono (by decide)) (by rfl) (pa_cons (pv 1) pa_nil)))
        (pss_cons (ps_if (pt_not (pt_val (pe_use UI (hr.mono (by decide)) (by rfl) (pa_cons (pv 0) (pa_cons (pv 2) pa_nil))))) (pss_one (ps_ret pe_bl)) pss_nil)
        (pss_cons (ps_for PassesOwn.never rfl (pi_tup (pv 2)) (pg_name (i := 3) sc_isd.nd rfl (.inl rfl))
          (pss_one (ps_for PassesOwn.never rfl (pi_tup (pe_use UB hr (by rfl) (pa_cons (pv 0) (pa_cons (pv 3) pa_nil)))) (pg_tup rfl (pgs_cons (pg_name (i := 4) sc_isd.nd rfl (.inl rfl)) (pgs_cons (pg_name (i := 5) sc_isd.nd rfl (.inl rfl)) pgs_nil)))
            (pss_one (ps_if (PW.pt (pw_and (pt_cmpR op_notIn_seq (pv 4) (pv 2) (by with_unfolding_all rfl)) (pw_and1 (pt_cmpR op_ge (pv 5) (pv 1) (nomark _))))) (pss_one (ps_ret pe_bl)) pss_nil)))))
        (pss_one (ps_ret pe_bl))))), ?_⟩
    have T := R.T
    refine ⟨_, rfl, L, rfl, hL, ?_⟩
    refine ⟨_, rfl, _, rfl, .inl ⟨r, p, tr, l, rfl, R, hp, fun H1 s1 => ⟨_, rfl, ?_⟩⟩⟩
    rw [ln]
    refine iteF ?_
    have hp1 := hp.same s1
    refine ⟨_, rfl, p, rfl, ⟨_, SqT.of hp1.at_⟩, ?_⟩
    refine for_tup (K := K) (a := p) (xs := l.map iv) (fun i σ H' => ∃ (x3 x4 x5 : Option V), σ = [some (.ref r), some (iv L), some (.ref p), x3, x4, x5] ∧ Same H H' ∧ ∀ s ∈ l.take i, ∀ w ∈ nb tr s, w ∉ l → dph tr w s + 1 < L)
      ⟨_, _, _, rfl, s1, fun s hs => by cases hs⟩ (fun i σ H' _ ⟨_, _, _, _, s2, _⟩ => SqT.of (s2 _ _ hp.at_)) ?_ ?_
    · rintro i v σ H2 hv ⟨x3, x4, x5, rfl, s2, good⟩
      obtain ⟨x, hx, rfl⟩ := map_got hv
      have hxl := hp.le x (List.mem_of_getElem? hx)
      refine ⟨_, rfl, _, rfl, r, tr, x, rfl, R.same s2, hxl, fun q ps H3 s3 hq Pq => ⟨q, rfl, ⟨_, SqT.of hq⟩, ?_⟩⟩
      have s3 := s2.trans s3
      refine for_tup (K := K) (a := q) (xs := ps.map V.ref) (fun j σ H' => ∃ (x4 x5 : Option V), σ = [some (.ref r), some (iv L), some (.ref p), some (iv x), x4, x5] ∧ H' = H3 ∧ ∀ w ∈ (nb tr x).take j, w ∉ l → dph tr w x + 1 < L)
        ⟨_, _, rfl, rfl, fun w hw => by cases hw⟩ (fun j σ H' _ ⟨_, _, _, e, _⟩ => by rw [e]; exact SqT.of hq) ?_ ?_
      · rintro j v σ H' hv ⟨x4, x5, rfl, rfl, gj⟩
        obtain ⟨pp, e, rfl, hpp, he, hH⟩ := Pq.get hv
        obtain ⟨w, hw, rfl⟩ := map_got he
        refine ⟨pp, _, rfl, SqT.of hH, rfl, _, _, rfl, _, _, rfl, rfl, ?_⟩
        have hp3 := s3 _ _ hp.at_
        refine ⟨_, rfl, _, rfl, p, _, rfl, .inr (SqT.of hp3), rfl, iv_flat _, _, rfl, ?_⟩
        rw [inV_iv]
        by_cases c : w ∈ l
        · rw [show (if true = true then !decide (w ∈ l) else decide (w ∈ l)) = false from by simp [c]]
          refine iteF ?_
          refine iteF ?_
          exact ⟨_, _, rfl, rfl, fun z hz hn => by
            rw [take_snoc hw] at hz
            rcases mem_snoc.mp hz with hz | rfl
            · exact gj z hz hn
            · exact absurd c hn⟩
        · rw [show (if true = true then !decide (w ∈ l) else decide (w ∈ l)) = true from by simp [c]]
          refine iteT ?_
          refine ⟨_, rfl, _, rfl, _, _, rfl, rfl, _, rfl, ?_⟩
          by_cases c2 : L ≤ dph tr w x + 1
          · rw [show decide (((dph tr w x + 1 : Nat) : Int) ≥ (L : Int)) = true from decide_eq_true (by omega)]
            refine iteT ?_
            have := k _ s3
            rw [show isDv tr L l = false from decide_eq_false fun z => absurd (z x (List.mem_of_getElem? hx) w (List.mem_of_getElem? hw) c) (by omega)] at this
            exact this
          · rw [show decide (((dph tr w x + 1 : Nat) : Int) ≥ (L : Int)) = false from decide_eq_false (by omega)]
            refine iteF ?_
            exact ⟨_, _, rfl, rfl, fun z hz hn => by
              rw [take_snoc hw] at hz
              rcases mem_snoc.mp hz with hz | rfl
              · exact gj z hz hn
              · omega⟩
      · rintro σ H' ⟨x4, x5, rfl, rfl, gj⟩
        have lp : ps.length = (nb tr x).length := by rw [Pq.1, List.length_map]
        rw [List.length_map, lp, List.take_length] at gj
        exact ⟨_, _, _, rfl, s3, fun z hz => by
          rw [take_snoc hx] at hz
          rcases mem_snoc.mp hz with hz | rfl
          · exact good z hz
          · exact gj⟩
    · rintro σ H2 ⟨x3, x4, x5, rfl, s2, good⟩
      rw [List.length_map, List.take_length] at good
      have := k H2 s2
      rw [show isDv tr L l = true from decide_eq_true good] at this
      exact this
abbrev N_sc_mrk : List Str := ["railway", "line", "station", "place"]
theorem sc_mrk : FnScope N_sc_mrk ["railway", "line", "station"] (defScope s_mark) := ⟨rfl, rfl, rfl, by decide +kernel, rfl, by decide +kernel, by decide +kernel⟩
theorem ok_mrk {f fI f0 fp C : Addr} {fd fdI fd0 fdp : FuncData} (F : Fun K "mark" "mark" s_mark f fd) (N : Nm mg) (X : TxtR K mg C) (UI : Use P w K mg base CX0 6 "is_line" fI fdI ["railway", "value"] (spLnQ C K)) (U0 : Use P w K mg base CX0 4 "check_station" f0 fd0 ["railway", "station"] (spChkSt C)) (Mp : MU P w K mg base C 5 "path" fp fdp ["self", "one", "other"] (spPath C)) :
    FnOk P w K mg base CX0 7 f fd ["railway", "line", "station"] (spMark C) := by
  refine F.ok sc_mrk (fun vs H Q E h => ?_) (fun cdv A outer s H vs Q E hr h => ?_)
  · obtain ⟨r, p, tr, l, s, rfl, _⟩ := h
    rfl
  · obtain ⟨r, p, tr, l, sn, rfl, R, hp, ln, hs, k⟩ := h
    refine ⟨_, (pss_cons (ps_if (pt_not (pt_val (pe_use UI (hr.mono (by decide)) (by rfl) (pa_cons (pv 0) (pa_cons (pv 1) pa_nil))))) (pss_one L2.ps_never) pss_nil)
        (pss_cons (ps_expr (pe_use U0 (hr.mono (by decide)) (by rfl) (pa_cons (pv 0) (pa_cons (pv 2) pa_nil))))
        (pss_one (ps_ret (pe_op op_sub (pe_callB call_len_seq (by rfl) N.len boot_len (pa_cons (pe_lc (own := [("place", 3)]) (g := (gName 3)) rfl sc_mrk.nd (pi_tup (pe_meth (pv 0) X.cl Mp.m Mp.G (hr.mono (by decide)) Mp.b .nil pass0 (pa_cons (pe_ix ix_tup (pv 1) pe_int (fun _ _ => rfl)) (pa_cons (pv 2) pa_nil)))) (blkOk_by (N := N_sc_mrk) (sc := defScope s_mark) (by decide +kernel)) (fun _ _ _ _ _ => pg_name (i := 3) sc_mrk.nd rfl (Or.inl rfl)) (fun _ _ _ _ _ => pts_one (pt_cmpR (in_K (K := K) rfl) (pv 3) (pv 1) (by with_unfolding_all rfl))) (fun _ _ _ _ _ => (pv 3))) pa_nil)) pe_int))))), ?_⟩
    have T := R.T
    have few := R.few
    have bd := isLn_bd T hp.le ln
    have pos : 0 < l.length := by have := bd.two; omega
    refine ⟨_, rfl, _, rfl, .inl ⟨r, p, tr, l, rfl, R, hp, fun H1 s1 => ⟨_, rfl, ?_⟩⟩⟩
    rw [ln]
    refine iteF ?_
    obtain ⟨_, _, dx, tt0, na, Aa, L, ps0, ts0, h1, _⟩ := id (R.same s1)
    have hp1 := hp.same s1
    refine ⟨_, rfl, _, rfl, r, tr, sn, rfl, R.same s1, hs, ?_⟩
    refine ⟨_, rfl, r, dx, _, rfl, h1, flR_no (by decide +kernel) (by decide +kernel) (by decide +kernel) (by decide +kernel), _, rfl, p, _, _, _, rfl, rfl, SqT.of hp1.at_, at_hd0 pos, _, rfl, r, tr, hd0 l, sn, rfl, R.same s1, bd.hle, hs, fun m q H2 sw s2 nq hq => ?_⟩
    have s12 := s1.trans s2
    have hp2 := hp1.same s2
    have em := pl_eq T sw
    have lm := sw_len T sw bd.hle
    refine ⟨q, rfl, ⟨_, SqT.of hq⟩, fun D nD => ?_⟩
    refine lc_tup (K := K) (a := q) (xs := m.map iv) (fun i H' => H' = upd H2 D (.lst (((m.take i).filter fun z => decide (z ∈ l)).map iv))) rfl (fun i H' _ e => by rw [e]; exact SqT.of (same_upd nD _ _ _ hq)) ?_ ?_
    · rintro i v H' hv rfl
      obtain ⟨z, hz, rfl⟩ := map_got hv
      have e := fil_snoc (fun z => decide (z ∈ l)) iv hz
      refine ⟨rfl, _, rfl, _, rfl, p, _, rfl, .inr (SqT.of (same_upd nD _ _ _ hp2.at_)), rfl, iv_flat _, _, rfl, ?_⟩
      rw [inV_iv, show (if false = true then !decide (z ∈ l) else decide (z ∈ l)) = decide (z ∈ l) from rfl]
      have fl := fil_len (i := i) (xs := m) fun z => decide (z ∈ l)
      by_cases c : z ∈ l
      · rw [decide_eq_true c] at e ⊢
        refine iteT ?_
        refine ⟨_, rfl, _, upd_same, by rw [List.length_map, sizeLine_eq]; omega, ?_⟩
        rw [upd_upd, e]
        rfl
      · rw [decide_eq_false c] at e ⊢
        refine iteF ?_
        rw [e]
        show upd H2 D _ = upd H2 D _
        simp
    · rintro H' rfl
      rw [show m.take (m.map iv).length = m from List.take_of_length_le (by rw [List.length_map]; exact Nat.le_refl _)]
      refine ⟨D, _, rfl, .inl (SqL.of upd_same), _, _, rfl, rfl, ?_⟩
      have := k _ (s12.trans (same_upd nD (.lst ((m.filter fun z => decide (z ∈ l)).map iv))))
      unfold mkN at this
      rw [em] at this
      rw [List.length_map]
      exact this
end
end TR
namespace TR
open PySem PySem.Spec PyProof.Rows L2 L2.TT StX ClX
def spSlk (C : Addr) : Sp := fun vs H Q _ => ∃ (r t : Addr) (tr : List E2) (a b : Nat) (m : Int), vs = [.ref r, .int m, .ref t] ∧ RailAt C H r tr ∧ H t = some (.tup [iv a, iv b]) ∧ a ≤ tr.length ∧ b ≤ tr.length ∧ a ≠ b ∧
  ∀ (l : List Nat) (x y : Nat) (q : Addr) (H' : Hp), Same H H' → SW tr a b l → l[1]? = some x → l[l.length - 2]? = some y → H' q = some (.tup [.int (m - ((l.length : Int) - 1)), iv (dph tr a x), iv (dph tr b y)]) → Q (.ref q) H'
section
variable {P : Program} {w : World} {K : PySem.W.Frag} {mg : Str → Option Value} {base : Heap}
abbrev N_sc_slk : List Str := ["railway", "length", "pair", "one", "other", "slack"]
theorem sc_slk : FnScope N_sc_slk ["railway", "length", "pair"] (defScope s_slack_and_depths) := ⟨rfl, rfl, rfl, by decide +kernel, rfl, by decide +kernel, by decide +kernel⟩
theorem ok_slk {f fD fd1 C : Addr} {fd fdD fdm : FuncData} (F : Fun K "_slack_and_depths" "_slack_and_depths" s_slack_and_depths f fd) (X : TxtR K mg C) (UD : Use P w K mg base CX0 8 "depth_behind" fD fdD ["railway", "station", "seen_from"] (spDBh C)) (Md : MU P w K mg base C 6 "distance" fd1 fdm ["self", "one", "other"] (spDist C)) :
    FnOk P w K mg base CX0 9 f fd ["railway", "length", "pair"] (spSlk C) := by
  refine F.ok sc_slk (fun vs H Q E h => ?_) (fun cdv A outer s H vs Q E hr h => ?_)
  · obtain ⟨r, t, tr, a, b, m, rfl, _⟩ := h
    rfl
  · obtain ⟨r, t, tr, a, b, m, rfl, R, ht, ha, hb, ne, k⟩ := h
    have hr6 : Room 6 (A.deeper (envOfC "_slack_and_depths" (defScope s_slack_and_depths) s.heap.objs.size f cdv)) := hr.mono (by decide)
    refine ⟨_, (pss_cons (ps_asg (pv 2) (pg_tup rfl (pgs_cons (pg_name (i := 3) sc_slk.nd rfl (.inl rfl)) (pgs_cons (pg_name (i := 4) sc_slk.nd rfl (.inl rfl)) pgs_nil))))
        (pss_cons (ps_set (i := 5) sc_slk.nd rfl (.inl rfl) (pe_op op_sub (pv 1) (pe_meth (pv 0) X.cl Md.m Md.G hr6 Md.b .nil pass0 (pa_cons (pv 3) (pa_cons (pv 4) pa_nil)))))
        (pss_one (ps_ret (pe_tup (pa_cons (pv 5) (pa_cons (pe_use UD hr (by rfl) (pa_cons (pv 0) (pa_cons (pv 3) (pa_cons (pv 4) pa_nil)))) (pa_cons (pe_use UD hr (by rfl) (pa_cons (pv 0) (pa_cons (pv 4) (pa_cons (pv 3) pa_nil)))) pa_nil)))))))), ?_⟩
    have three : (3 : Nat) ≤ sizeLine := by rw [sizeLine_eq]; decide
    obtain ⟨T, few, dx, tt, na, Aa, L, ps, ts, h1, h2⟩ := id R
    refine ⟨_, rfl, t, _, rfl, SqT.of ht, rfl, _, _, rfl, _, _, rfl, rfl, ?_⟩
    refine ⟨_, rfl, _, rfl, r, dx, _, rfl, h1, flR_no (by decide +kernel) (by decide +kernel) (by decide +kernel) (by decide +kernel), _, rfl, _, rfl, r, tr, a, b, rfl, R, ha, hb, fun l H1 sw s1 => ?_⟩
    refine ⟨_, _, rfl, rfl, ?_⟩
    have two := sw_two sw ne
    refine ⟨_, rfl, _, rfl, _, rfl, _, rfl, r, tr, a, b, rfl, R.same s1, ha, hb, ne, fun l2 x H2 s2 sw2 hx => ?_⟩
    cases SW.uniq T sw2 sw
    refine ⟨_, rfl, _, rfl, _, rfl, r, tr, b, a, rfl, R.same (s1.trans s2), hb, ha, fun z => ne z.symm, fun l3 y H3 s3 sw3 hy => ?_⟩
    cases SW.uniq T sw3 sw.rev
    rw [List.getElem?_reverse (by omega)] at hy
    refine ⟨three, fun q nq => ?_⟩
    exact k l x y q _ (((s1.trans s2).trans s3).trans (same_upd nq _)) sw hx hy upd_same
end
end TR
namespace L2.TW
open PySem PySem.Spec PyProof.Rows GenW
/-- while the generator sleeps: v goes behind the list at L, the objects of Cs may change, all else stays -/
structure Doze (L : Addr) (Cs : List Addr) (v : Value) (s s' : Shared) : Prop where
  osy : s'.os = s.os
  bry : AllBare s'.gens
  rst : ∀ b o, b ≠ L → b ∉ Cs → s.heap.get? b = some o → s'.heap.get? b = some o
  lst : ∀ arr c, s.heap.get? L = some (lstObj arr c) → ∃ c', s'.heap.get? L = some (lstObj (arr.push v) c')
  oth : ∀ b ∈ Cs, ∃ o, s'.heap.get? b = some o ∧ ∀ u, o.data ≠ .cell u
theorem doze_of {L : Addr} {v : Value} {s s' : Shared} (z : Slept L v s s') : Doze L [] v s s' :=
  ⟨z.os, z.bare, fun b o h1 _ e => z.keep b o h1 e, z.own, fun b hb => absurd hb (List.not_mem_nil)⟩
/-- running since t0: ys is out and stands in the list at L; that list and the objects of Cs stand still -/
def DI (X : Cx) (L : Addr) (Cs : List Addr) (ip : List (Addr × Obj)) (ys : List V) (σ : St) (H : Hp) (t0 s : Shared) : Prop :=
  ∃ cs : List (Addr × Obj), (∀ b ∈ Cs, ∃ o, (b, o) ∈ cs) ∧ (∀ p ∈ cs, p.1 ∈ Cs ∧ t0.heap.get? p.1 = some p.2) ∧ ∃ (arr : Array Value) (c : Nat), t0.heap.get? L = some (lstObj arr c) ∧ Vals ys arr.toList ∧ Inv X ((L, lstObj arr c) :: (cs ++ ip)) σ H s
/-- none of the generator's own -/
structure Away (X : Cx) (ip : List (Addr × Obj)) (b : Addr) : Prop where
  pnb : ∀ p ∈ X.pn, p.1 ≠ b
  ipb : ∀ p ∈ ip, p.1 ≠ b
  apb : Apart X b
theorem DI.clear {X : Cx} {L : Addr} {Cs : List Addr} {ip : List (Addr × Obj)} {ys : List V} {σ : St} {H : Hp} {t0 s : Shared} (h : DI X L Cs ip ys σ H t0 s) {b : Addr} (hb : b = L ∨ b ∈ Cs) : H b = none ∧ b ≠ X.env.locals ∧ b ∉ X.fs := by
  obtain ⟨cs, k1, k2, arr, c, eL0, r, I⟩ := h
  rcases hb with rfl | hb
  · have q := I.pin (b, lstObj arr c) (List.mem_append_right _ List.mem_cons_self)
    exact ⟨q.2.1, q.2.2.1, q.2.2.2.1⟩
  · obtain ⟨o, ho⟩ := k1 b hb
    have q := I.pin (b, o) (List.mem_append_right _ (List.mem_cons_of_mem _ (List.mem_append_left _ ho)))
    exact ⟨q.2.1, q.2.2.1, q.2.2.2.1⟩
theorem DI.wake {X : Cx} {L : Addr} {Cs : List Addr} {ip : List (Addr × Obj)} {ys : List V} {x : V} {v : Value} {σ : St} {H : Hp} {t0 s s' : Shared} (aw : ∀ b, b = L ∨ b ∈ Cs → Away X ip b) (h : DI X L Cs ip ys σ H t0 s) (rv : RelV x v) (z : Doze L Cs v s s') :
    DI X L Cs ip (ys ++ [x]) σ H s' s' := by
  have nn : ∀ b, b = L ∨ b ∈ Cs → H b = none ∧ b ≠ X.env.locals ∧ b ∉ X.fs := fun b hb => h.clear hb
  obtain ⟨cs, k1, k2, arr, c, eL0, r, I⟩ := h
  have I0 : Inv X ip σ H s := I.pins_of fun p hp => I.pin p (List.mem_append_right _ (List.mem_cons_of_mem _ (List.mem_append_right _ hp)))
  obtain ⟨z1, z2, z3, z4, z5⟩ := z
  obtain ⟨c', eL⟩ := z4 arr c (I.pin (L, lstObj arr c) (List.mem_append_right _ List.mem_cons_self)).1
  obtain ⟨hh, g, d, t, o⟩ := s'
  have z1' : o = s.os := z1
  subst z1'
  have st3 : ∀ b ob, b ∉ L :: Cs → s.heap.get? b = some ob → hh.get? b = some ob := fun b ob hb e => z3 b ob (fun q => hb (q ▸ List.mem_cons_self)) (fun q => hb (List.mem_cons_of_mem _ q)) e
  have tracked : ∀ b u, H b = some u → b ∉ L :: Cs := fun b u q hb => by
    have q2 := (nn b (List.mem_cons.mp hb)).1
    rw [q] at q2
    cases q2
  have J : Inv X ip σ H { s with heap := hh, gens := g, drawn := d, toks := t } := by
    refine I0.step (ch := L :: Cs) (d' := d) (t' := t) (g' := g) (fun b hb => ?_) (fun b ob _ _ n q _ => st3 b ob n q) (fun b ob _ _ n q _ => ⟨ob.slots, st3 b ob n q⟩) (fun _ _ _ _ e => e)
      (fun b ob n q => ⟨ob, st3 b ob n q⟩) (fun _ _ e => e) (fun _ _ _ e => e) (fun b ps e => ⟨#[], by rw [e]; simp⟩) (fun m hm => ?_) (fun b u q => ?_) z2
    · have a := aw b (List.mem_cons.mp hb)
      refine ⟨.inr a.apb.1, a.apb.2.1, a.apb.2.2, fun p hp => ?_⟩
      rcases List.mem_append.mp hp with hq | hq
      · exact a.pnb p hq
      · exact a.ipb p hq
    · obtain ⟨ob, es, ep, ho, rr⟩ := hm
      exact ⟨ob, es, ep, st3 _ ob (fun hb => (nn _ (List.mem_cons.mp hb)).2.1 rfl) ho, rr⟩
    · refine (I0.hok b u q).stay (fun e w hc y => st3 e w ?_ y) (fun _ y => y) fun _ _ y => y
      rcases hc with y | y
      · rw [y]; exact tracked b u q
      · exact tracked e _ y
  refine ⟨pinsAt Cs hh, fun b hb => ?_, fun p hp => of_pinsAt hp, arr.push v, c', eL, ?_, J.pins_of fun p hp => ?_⟩
  · obtain ⟨ob, e, _⟩ := z5 b hb
    exact ⟨ob, mem_pinsAt hb e⟩
  · rw [Array.toList_push]
    exact r.append (.cons rv .nil)
  · rcases List.mem_cons.mp hp with hp | hp
    · rw [hp]
      have q := nn L (.inl rfl)
      exact ⟨eL, q.1, q.2.1, q.2.2, fun u y => by cases y⟩
    · rcases List.mem_append.mp hp with hp | hp
      · obtain ⟨hb, e⟩ := of_pinsAt hp
        obtain ⟨ob, e2, nc⟩ := z5 p.1 hb
        have e3 : p.2 = ob := Option.some.inj (e.symm.trans e2)
        have q := nn p.1 (.inr hb)
        exact ⟨e, q.1, q.2.1, q.2.2, by rw [e3]; exact nc⟩
      · exact J.pin p (List.mem_append_right _ hp)
def DY (X : Cx) (L : Addr) (Cs : List Addr) : Protocol := fun n t0 v s kap =>
  ∃ ys x ip σ H, RelV x v ∧ n + 1 + ys.length = sizeLine ∧ DI X L Cs ip ys σ H t0 s ∧ ∀ s', Doze L Cs v s s' → kap (.send .none) s'
def DR (X : Cx) (L : Addr) (Cs : List Addr) (Q : List V → Hp → Prop) (F : Value → Shared → Prop) : GenEnd := fun n t0 r s =>
  (∃ ys ip σ H, r = .ok (.ret .none) ∧ n + ys.length = sizeLine ∧ DI X L Cs ip ys σ H t0 s ∧ Q ys H) ∨ ∃ e, r = .error e ∧ F e s
def DSP (X : Cx) (L : Addr) (Cs : List Addr) (ip : List (Addr × Obj)) (D : GEnds) (ys : List V) (t0 : Shared) : Flow → Shared → Prop
  | .next, s => ∃ σ H, DI X L Cs ip ys σ H t0 s ∧ D.nx ys σ H
  | .brk, s => ∃ σ H, DI X L Cs ip ys σ H t0 s ∧ D.bk ys σ H
  | .cont, s => ∃ σ H, DI X L Cs ip ys σ H t0 s ∧ D.ct ys σ H
  | .ret u, s => ∃ v σ H, DI X L Cs ip ys σ H t0 s ∧ RelV v u ∧ D.rt ys v H
structure DC (X : Cx) (L : Addr) (Cs : List Addr) (ip : List (Addr × Obj)) (A : Around) (c : Code) (fs : List Frame) (gd : Bool → Bool) : Prop where
  all : ∀ b, b = L ∨ b ∈ Cs → GC X b ip A c fs gd
theorem DC.one {X : Cx} {L : Addr} {Cs : List Addr} {ip : List (Addr × Obj)} {A : Around} {c : Code} {fs : List Frame} {gd : Bool → Bool} (g : DC X L Cs ip A c fs gd) : GC X L ip A c fs gd := g.all L (.inl rfl)
theorem DC.away {X : Cx} {L : Addr} {Cs : List Addr} {ip : List (Addr × Obj)} {A : Around} {c : Code} {fs : List Frame} {gd : Bool → Bool} (g : DC X L Cs ip A c fs gd) : ∀ b, b = L ∨ b ∈ Cs → Away X ip b :=
  fun b hb => ⟨(g.all b hb).pn, (g.all b hb).ip, (g.all b hb).apart⟩
structure DK (X : Cx) (L : Addr) (Cs : List Addr) (ip : List (Addr × Obj)) (A : Around) (R : GenEnd) (c : Code) (fs : List Frame) (K : Flow → Sem PySem.Fin) (J : Value → Sem PySem.Fin) (D : GEnds) : Prop where
  oky : ∀ (n : Nat) (ys : List V) (s₀ s : Shared) (f : Flow), n + ys.length = sizeLine → DSP X L Cs ip D ys s₀ f s → Seg (model X.prog X.w) A R (DY X L Cs) n s₀ c (K f) fs s
  exy : ∀ (n : Nat) (s₀ : Shared) (e : Value) (s : Shared), X.xe e s → Seg (model X.prog X.w) A R (DY X L Cs) n s₀ c (J e) fs s
/-- a piece of a generator's code -/
def DGo (X : Cx) (m : Sem Flow) (t : TGn) : Prop :=
  ∀ (A : Around) (L : Addr) (Cs : List Addr) (ip : List (Addr × Obj)) (R : GenEnd) (n : Nat) (ys : List V) (s₀ : Shared) (c : Code) (fs : List Frame) (K : Flow → Sem PySem.Fin) (J : Value → Sem PySem.Fin) (gd : Bool → Bool) (lv : List Value → List Value) (s : Shared) (σ : St) (H : Hp) (D : GEnds),
    DC X L Cs ip A c fs gd → n + ys.length = sizeLine → DK X L Cs ip A R c fs K J D → DI X L Cs ip ys σ H s₀ s → t D ys σ H → Seg (model X.prog X.w) A R (DY X L Cs) n s₀ c (m.wrap K J gd lv) fs s
structure DS (X : Cx) (st : Stmt) (t : TGn) : Prop where
  go : DGo X (exec st X.env) t
structure DSs (X : Cx) (sts : List Stmt) (t : TGn) : Prop where
  go : DGo X (execs sts X.env) t
section
variable {X : Cx} {st : Stmt} {rest : List Stmt}
theorem dsp_sp {L : Addr} {Cs : List Addr} {arr : Array Value} {c : Nat} {cs ip : List (Addr × Obj)} {t0 s : Shared} {D : GEnds} {ys : List V} {f : Flow} (k1 : ∀ b ∈ Cs, ∃ o, (b, o) ∈ cs) (k2 : ∀ p ∈ cs, p.1 ∈ Cs ∧ t0.heap.get? p.1 = some p.2) (eL : t0.heap.get? L = some (lstObj arr c)) (r : Vals ys arr.toList)
    (h : SP X ((L, lstObj arr c) :: (cs ++ ip)) (D.at ys) f s) : DSP X L Cs ip D ys t0 f s := by
  cases f with
  | next => obtain ⟨σ, H, I, q⟩ := h; exact ⟨σ, H, ⟨cs, k1, k2, arr, c, eL, r, I⟩, q⟩
  | brk => obtain ⟨σ, H, I, q⟩ := h; exact ⟨σ, H, ⟨cs, k1, k2, arr, c, eL, r, I⟩, q⟩
  | cont => obtain ⟨σ, H, I, q⟩ := h; exact ⟨σ, H, ⟨cs, k1, k2, arr, c, eL, r, I⟩, q⟩
  | ret u => obtain ⟨v, σ, H, I, r1, q⟩ := h; exact ⟨v, σ, H, ⟨cs, k1, k2, arr, c, eL, r, I⟩, r1, q⟩
theorem ds_ps {t : TS} (h : PS X st t) : DS X st (tPlain t) := by
  refine ⟨fun A L Cs ip R n ys t0 c fs KF JF gq lq s σ H D g hl k i q => ?_⟩
  obtain ⟨cs, k1, k2, arr, cc, eL, r, I⟩ := i
  refine seg_wrap ?_
  rw [g.one.over]
  exact wpAny_mono (h.run _ s σ H (D.at ys) I q) (fun f s' hs => k.oky n ys t0 s' f hl (dsp_sp k1 k2 eL r hs)) fun e s' hx => k.exy n t0 e s' hx
theorem dss_nil : DSs X [] tG0 := by
  refine ⟨fun A L Cs ip R n ys t0 c fs KF JF gq lq s σ H D g hl k i q => ?_⟩
  exact seg_execs_nil (k.oky n ys t0 s .next hl ⟨σ, H, i, q⟩)
theorem dss_cons {t u : TGn} (a : DS X st t) (b : DSs X rest u) : DSs X (st :: rest) (tGThen t u) := by
  refine ⟨fun A L Cs ip R n ys t0 c fs KF JF gq lq s σ H D g hl k i q => ?_⟩
  refine seg_execs_cons ?_
  refine a.go A L Cs ip R n ys t0 c fs _ JF gq lq s σ H { D with nx := fun zs σ' H' => u D zs σ' H' } g hl ⟨fun n' zs t1 s' f hl' hs => ?_, k.exy⟩ i q
  cases f with
  | next =>
    obtain ⟨σ', H', i', q'⟩ := hs
    exact b.go A L Cs ip R n' zs t1 c fs KF JF gq lq s' σ' H' D g hl' k i' q'
  | brk => exact k.oky n' zs t1 s' .brk hl' hs
  | cont => exact k.oky n' zs t1 s' .cont hl' hs
  | ret u => exact k.oky n' zs t1 s' (.ret u) hl' hs
theorem dss_one {t : TGn} (a : DS X st t) : DSs X [st] (tGThen t tG0) := dss_cons a dss_nil
theorem ds_yield {e : Expr} {yp pos : Pos} {te : TE} (he : PE X e te) (hco : X.env.scope.isCoroutine = false := by rfl) (hi : interactive X.env = false := by rfl) : DS X (.Expr (.Yield (some e) yp) pos) (tGYield te) := by
  refine ⟨fun A L Cs ip R n ys t0 c fs KF JF gq lq s σ H D g hl k i q => ?_⟩
  obtain ⟨lt, q⟩ := q
  obtain ⟨n, rfl⟩ : ∃ m, n = m + 1 := ⟨n - 1, by omega⟩
  obtain ⟨cs, k1, k2, arr, cc, eL, r, I⟩ := i
  refine seg_Expr_Yield g.one.split g.one.gd g.one.guard ?_ hco hi
  rw [g.one.over]
  refine wpAny_mono (he.run _ s σ H _ I q) (fun v s' hv => ?_) fun e s' hx => k.exy _ t0 e s' hx
  obtain ⟨x, H1, I1, rv, q⟩ := hv
  have i1 : DI X L Cs ip ys σ H1 t0 s' := ⟨cs, k1, k2, arr, cc, eL, r, I1⟩
  intro kap hk
  refine ⟨ys, x, ip, σ, H1, rv, hl, i1, fun s2 z => hk .none s2 ?_⟩
  refine k.oky n (ys ++ [x]) s2 s2 .next ?_ ⟨σ, H1, i1.wake g.away rv z, q⟩
  rw [List.length_append, List.length_singleton]
  omega
end
end L2.TW
namespace L2.TW
open PySem PySem.Spec PyProof.Rows GenW
section
variable {X : Cx}
theorem dc_loop {L : Addr} {Cs : List Addr} {ip : List (Addr × Obj)} {A : Around} {c c' : Code} {fs : List Frame} {gd : Bool → Bool} {k : Result → Sem PySem.Fin} {l kp : List Value} {p : Pos} (g : DC X L Cs ip A c fs gd) (hw : c'.weight = 0) (hu : c'.cUnits = 0) :
    DC X L Cs ip A c' (.ret k none (gd false) l c p kp :: fs) id := ⟨fun b hb => gc_loop (g.all b hb) hw hu⟩
theorem seg_back {L : Addr} {Cs : List Addr} {ip : List (Addr × Obj)} {A : Around} {R : GenEnd} {c : Code} {fs : List Frame} {KF : Flow → Sem PySem.Fin} {JF : Value → Sem PySem.Fin} {gd : Bool → Bool} {lv : List Value → List Value} {D : GEnds} {n : Nat} {t0 s : Shared} {e : Value}
    (g : DC X L Cs ip A c fs gd) (k : DK X L Cs ip A R c fs KF JF D) (h : cameBackBy (model X.prog X.w) X.A X.env X.xe e s) :
    Seg (model X.prog X.w) A R (DY X L Cs) n t0 c (((Sem.raise e : Sem Flow).onRaise (cameBack X.env)).wrap KF JF gd lv) fs s := by
  show Seg _ A R _ n t0 c (((cameBack X.env e).bind fun _ => (Sem.raise e : Sem Flow)).wrap KF JF gd lv) fs s
  rw [Sem.bind_eq_wrap, Sem.wrap_wrap]
  refine seg_wrap ?_
  rw [g.one.over]
  exact wpAny_mono h (fun _ s' hx => k.exy n t0 e s' hx) fun x s' hx => k.exy n t0 x s' hx
end
end L2.TW
namespace L2.TW
open PySem PySem.Spec PyProof.Rows GenW
/-- the end of a run: all that was handed out stands in L; what the consumer owns stands as at the last waking -/
def WEnd (P : Program) (w : World) (outer : List Env) (H : Hp) (s : Shared) (L : Addr) (Cs : List Addr) (a : Addr) (g : Nat) (Q : List V → Hp → Prop) (E : XK) : GenEnd := fun n t0 r s1 =>
  ((r = .ok (.ret .none) ∨ r = .ok .next) ∧ ∃ H' ys arr c, s1.os = s.os ∧ AllBare s1.gens ∧ Un (frs outer) [] H H' s.heap s1.heap ∧ HOk P w H' s1.heap ∧ (∀ b, b = L ∨ b ∈ Cs → H' b = none ∧ s1.heap.get? b = t0.heap.get? b) ∧
    s1.heap.get? L = some (lstObj arr c) ∧ Vals ys arr.toList ∧ ys.length ≤ sizeLine ∧ Q ys H') ∨
  ∃ e, r = .error e ∧ CX P w outer H s E e s1 ∧ s1.heap.IsGen a g
/-- an item is handed out -/
def WItem (s : Shared) (L : Addr) (Cs : List Addr) (a : Addr) (g : Nat) : Protocol := fun n t0 v s1 kap =>
  s1.os = s.os ∧ AllBare s1.gens ∧ s1.heap.NoLimit ∧ s1.heap.IsGen a g ∧ (∀ b, b = L ∨ b ∈ Cs → s1.heap.get? b = t0.heap.get? b) ∧
  (∃ (arr : Array Value) (c : Nat), s1.heap.get? L = some (lstObj arr c) ∧ n + 1 + arr.size = sizeLine) ∧ ∀ s', Doze L Cs v s1 s' → kap (.send .none) s'
/-- a generator that has not begun -/
def MadeW (P : Program) (w : World) (k : Nat) (outer : List Env) (H : Hp) (s : Shared) (Q : List V → Hp → Prop) (E : XK) (u : Value) (s' : Shared) : Prop :=
  ∃ (a : Addr) (g : Nat) (c : Code), u = .ref a ∧ s.heap.objs.size ≤ a ∧ a < s'.heap.objs.size ∧ s'.heap.IsGen a g ∧ s'.gens[g]? = some (.fresh c) ∧ s'.os = s.os ∧ AllBare s'.gens ∧ s'.heap.NoLimit ∧ (∀ b o, s.heap.get? b = some o → s'.heap.get? b = some o) ∧
    ∀ (A : Around) (L : Addr) (Cs : List Addr) (s2 : Shared), Room k A → A.frames = some outer → L ∉ Cs → (∀ b, b = L ∨ b ∈ Cs → s'.heap.objs.size ≤ b) → (∀ b ∈ Cs, ∃ o, s2.heap.get? b = some o ∧ ∀ u, o.data ≠ .cell u) →
      (∀ b o, s'.heap.get? b = some o → s2.heap.get? b = some o) → (∃ c, s2.heap.get? L = some (lstObj #[] c)) → s2.os = s.os → AllBare s2.gens →
      Seg (model P w) A (WEnd P w outer H s L Cs a g Q E) (WItem s L Cs a g) sizeLine s2 c ((model P w).den c) [] s2
theorem made_of {P : Program} {w : World} {k : Nat} {outer : List Env} {H : Hp} {s : Shared} {Q : List V → Hp → Prop} {E : XK} {u : Value} {s' : Shared} (h : MadeW P w k outer H s Q E u s') : GMade P w k outer H s [] Q E u s' := by
  obtain ⟨a, g, c, e, h1, h2, h3, h4, h5, h6, h7, h8, run⟩ := h
  refine ⟨a, g, c, e, h1, h2, h3, h4, h5, h6, h7, h8, fun A S s2 hr hf hS hk ho hos hb => ?_⟩
  refine seg_imp (fun n t0 r s1 hR => ?_) (fun n t0 v s1 kap kap' hkk hY => ?_) sizeLine (run A S [] s2 hr hf (List.not_mem_nil) (fun b hb => ?_) (fun b hb => absurd hb (List.not_mem_nil)) hk ho hos hb)
  · rcases hR with ⟨er, H', ys, arr, c', q1, q2, q3, q4, q5, q6⟩ | z
    · exact .inl ⟨er, H', ys, arr, c', q1, q2, q3, q4, (q5 S (.inl rfl)).1, q6⟩
    · exact .inr z
  · obtain ⟨q1, q2, q3, q4, _, q6, q7⟩ := hY
    exact ⟨q1, q2, q3, q4, q6, fun s' z => hkk _ _ (q7 s' (doze_of z))⟩
  · rcases hb with rfl | hb
    · exact hS
    · exact absurd hb (List.not_mem_nil)
structure GFnW (P : Program) (w : World) (K : PySem.W.Frag) (mg : Str → Option Value) (base : Heap) (k : Nat) (f : Addr) (fd : FuncData) (ps : List Str) (sp : SpG) : Prop where
  len : ∀ vs H Q E, sp vs H Q E → vs.length = ps.length
  run : ∀ (A : Around) (outer : List Env) (s : Shared) (H : Hp) (args : Args) (us : List Value) (vs : List V) (Q : List V → Hp → Prop) (E : XK), Room k A → Env0 P w K mg base A outer s H → BindsTo s fd args (ps.zip us) → Vals vs us → sp vs H Q E →
    codeAny (model P w) A (.call (.ref f) args) (fun r s' => match r with | .ok (.ret u) => MadeW P w k outer H s Q E u s' | _ => False) s
/-- a generator def, by its body -/
theorem gfnW_of {P : Program} {w : World} {K : PySem.W.Frag} {mg : Str → Option Value} {base : Heap} {k : Nat} {f : Addr} {name qual : Str} {params : Arguments} {body : List Stmt} {scope : Scope} {dV kV doc pm cdv ct oc : Value} {an od : Option Addr}
    {osl : Array (Option Value)} {N ps : List Str} {sp : SpG} (lk : K.lookup f = some ⟨oc, od, .func (PySem.W.fnOf name qual params body scope dV kV doc pm an cdv ct), osl⟩) (hcd : PySem.W.codeIn K cdv qual = true) (S : GScope N ps scope)
    (len : ∀ vs H Q E, sp vs H Q E → vs.length = ps.length)
    (hbody : ∀ (A : Around) (outer : List Env) (s : Shared) (H : Hp) (vs : List V) (Q : List V → Hp → Prop) (E : XK) (pn : List (Addr × Obj)), Room k (A.deeper (envOfC qual scope s.heap.objs.size f cdv)) → sp vs H Q E →
      ∃ t, DSs (gcxOf P w K mg base N qual scope f cdv A outer s H E pn) body t ∧ t { nx := fun ys _ H' => Q ys H', rt := fun ys v H' => v = .non ∧ Q ys H' } [] (start N vs) H) :
    GFnW P w K mg base (k + 1) f (PySem.W.fnOf name qual params body scope dV kV doc pm an cdv ct) ps sp := by
  refine ⟨len, fun A outer s0 H args us vs Q E room e0 hb rel hsp => ?_⟩
  have hl := len _ _ _ _ hsp
  have kin0 : K.In s0.heap := e0.mod.kin.keeps fun b o e => (e0.bs b o e).1
  have lim0 : s0.heap.NoLimit := e0.mod.nolimit.keeps fun b o e => (e0.bs b o e).1
  have kinds : ∀ y ∈ ps.zip us, scope.names.lookup y.1 = some .local ∨ (scope.names.lookup y.1 = some .cell ∧ ((cellsFrom (s0.heap.objs.size + 1) scope.names []).lookup y.1).isSome = true) := fun ⟨n, v⟩ hy => by
    rcases S.par n (List.of_mem_zip hy).1 with q | q
    · exact .inl q
    · exact .inr ⟨q, PySem.W.cellsFrom_some _ _ _ (.inl q)⟩
  refine codeAny_call_generator room.depth (kin0 _ _ lk) rfl S.co S.gen rfl (PySem.W.codeRec_of kin0 hcd) (hb _ _ _ _ ?_)
  refine wpAny_newFunctionEnv_cells S.kind kinds fun env he s1 x => ?_
  subst he
  refine ⟨lim0.keeps x.toInCall.keep, ?_⟩
  have lim1 : s1.heap.NoLimit := lim0.keeps x.toInCall.keep
  obtain ⟨h1, tk, es1, hk1⟩ := x.done
  have os1 : s1.os = s0.os := by rw [es1]
  have gens1 : s1.gens = s0.gens := by rw [es1]
  have lt1 : s0.heap.objs.size < s1.heap.objs.size := x.toInCall.ns.lt
  have kp1 : ∀ b o, s0.heap.get? b = some o → s1.heap.get? b = some o := x.toInCall.keep
  have main : ∀ (go : Obj) (nm qn : Value) (tk2 : Nat), go.cls = .type "generator" → go.data = .fields #[.int s1.gens.size 0, nm, qn] → go.slots = #[] → (∀ h : Heap, (h.push go).get? h.objs.size = some go) →
      MadeW P w (k + 1) outer H s0 Q E (.ref s1.heap.objs.size) { s1 with gens := s1.gens.push (.fresh (.func body (envOfC qual scope s0.heap.objs.size f cdv))), toks := tk2, heap := s1.heap.push go } := by
    intro go nm qn tk2 gcls gdat gsl gat
    have asGen : ∀ h : Heap, h.get? s1.heap.objs.size = some go → h.IsGen s1.heap.objs.size s1.gens.size := fun h e => ⟨go, nm, qn, e, gcls, gdat, gsl⟩
    have here : (s1.heap.push go).get? s1.heap.objs.size = some go := gat _
    refine ⟨s1.heap.objs.size, s1.gens.size, _, rfl, Nat.le_of_lt lt1, ?_, asGen _ here, Array.getElem?_push_size .., os1, ?_, lim1.keeps fun b o e => Heap.get?_push_of_some _ e, fun b o e => Heap.get?_push_of_some _ (kp1 b o e), ?_⟩
    · show _ < (s1.heap.push _).objs.size
      rw [Heap.size_push]; exact Nat.lt_succ_self _
    · exact AllBare.push (by rw [gens1]; exact e0.bare) rfl
    intro B L Cs s2 rB fB neL young own kp2' hL os2 bare2
    have e0B : Env0 P w K mg base B outer s0 H := ⟨fB, e0.mod, e0.bs, e0.bsz, e0.funs, e0.frf, e0.hok, e0.bare⟩
    obtain ⟨t, ht, hq⟩ := hbody B outer s0 H vs Q E [(s1.heap.objs.size, go)] (rB.deeper _) hsp
    have I1 : Inv (gcxOf P w K mg base N qual scope f cdv B outer s0 H E []) [] (start N vs) H s1 := inv_startG S rB.hd e0B hl rel x
    have kp2 : ∀ b o, s1.heap.get? b = some o → s2.heap.get? b = some o := fun b o e => kp2' b o (Heap.get?_push_of_some _ e)
    have I2 : Inv (gcxOf P w K mg base N qual scope f cdv B outer s0 H E []) [] (start N vs) H s2 :=
      I1.call' (ch := []) (os2.trans os1.symm) (Un.kept kp2) (I1.hok.kept kp2) bare2 fun b z => by simp at z
    have older : ∀ b, b = L ∨ b ∈ Cs → s1.heap.objs.size < b := fun b hb => by
      have q : (s1.heap.push go).objs.size ≤ b := young b hb
      rw [Heap.size_push] at q
      exact q
    obtain ⟨cL, eL⟩ := hL
    have ego : s2.heap.get? s1.heap.objs.size = some go := kp2' s1.heap.objs.size go here
    have ncell : ∀ v, go.data ≠ .cell v := fun v q => by rw [gdat] at q; cases q
    have fresh : ∀ b, s1.heap.objs.size ≤ b → H b = none ∧ b ≠ s0.heap.objs.size ∧ b ∉ frs outer ∧ s0.heap.objs.size ≤ b ∧ ∀ y c, (cellsFrom (s0.heap.objs.size + 1) scope.names []).lookup y = some c → c ≠ b := fun b hb => by
      refine ⟨I1.hok.fresh hb, Nat.ne_of_gt (Nat.lt_of_lt_of_le lt1 hb), I1.nofs hb, Nat.le_trans (Nat.le_of_lt lt1) hb, fun y c e z => ?_⟩
      obtain ⟨v, ob, ho, _⟩ := I1.cell y c e
      have q := Heap.lt_size ho
      rw [z] at q
      exact absurd (Nat.lt_of_lt_of_le q hb) (Nat.lt_irrefl _)
    have i0 : DI (gcxOf P w K mg base N qual scope f cdv B outer s0 H E [(s1.heap.objs.size, go)]) L Cs [] [] (start N vs) H s2 s2 := by
      refine ⟨pinsAt Cs s2.heap, fun b hb => ?_, fun p hp => of_pinsAt hp, #[], cL, eL, .nil, Inv.pinnedG I2 fun p hp => ?_⟩
      · obtain ⟨o, e, _⟩ := own b hb
        exact ⟨o, mem_pinsAt hb e⟩
      · rcases List.mem_append.mp hp with z | z
        · rw [List.mem_singleton.mp z]
          obtain ⟨y1, y2, y3, _, _⟩ := fresh s1.heap.objs.size (Nat.le_refl _)
          exact ⟨ego, y1, y2, y3, ncell⟩
        · rcases List.mem_cons.mp z with z | z
          · rw [z]
            obtain ⟨y1, y2, y3, _, _⟩ := fresh L (Nat.le_of_lt (older L (.inl rfl)))
            exact ⟨eL, y1, y2, y3, fun v q => by cases q⟩
          · rw [List.append_nil] at z
            obtain ⟨hb, e⟩ := of_pinsAt z
            obtain ⟨y1, y2, y3, _, _⟩ := fresh p.1 (Nat.le_of_lt (older p.1 (.inr hb)))
            obtain ⟨o, e2, nc⟩ := own p.1 hb
            have e3 : p.2 = o := Option.some.inj (e.symm.trans e2)
            exact ⟨e, y1, y2, y3, by rw [e3]; exact nc⟩
    have pinned : ∀ {ip : List (Addr × Obj)} {ys : List V} {t0 s' : Shared} {σ' : L2.St} {H' : Hp}, DI (gcxOf P w K mg base N qual scope f cdv B outer s0 H E [(s1.heap.objs.size, go)]) L Cs ip ys σ' H' t0 s' → s'.heap.IsGen s1.heap.objs.size s1.gens.size := fun {ip ys t0 s' σ' H'} i => by
      obtain ⟨cs, _, _, arr, cc, _, _, J⟩ := i
      exact asGen _ (J.pin (s1.heap.objs.size, go) (List.mem_append_left _ (List.mem_singleton.mpr rfl))).1
    have still : ∀ {ip : List (Addr × Obj)} {ys : List V} {t0 s' : Shared} {σ' : L2.St} {H' : Hp}, DI (gcxOf P w K mg base N qual scope f cdv B outer s0 H E [(s1.heap.objs.size, go)]) L Cs ip ys σ' H' t0 s' → ∀ b, b = L ∨ b ∈ Cs → s'.heap.get? b = t0.heap.get? b := fun {ip ys t0 s' σ' H'} i b hb => by
      obtain ⟨cs, k1, k2, arr, cc, eL, _, J⟩ := i
      rcases hb with rfl | hb
      · exact (J.pin (b, lstObj arr cc) (List.mem_append_right _ List.mem_cons_self)).1.trans eL.symm
      · obtain ⟨o, ho⟩ := k1 b hb
        exact (J.pin (b, o) (List.mem_append_right _ (List.mem_cons_of_mem _ (List.mem_append_left _ ho)))).1.trans (k2 _ ho).2.symm
    refine seg_func ?_
    refine seg_imp (R := DR (gcxOf P w K mg base N qual scope f cdv B outer s0 H E [(s1.heap.objs.size, go)]) L Cs Q fun e s' => CX P w outer H s0 E e s' ∧ s'.heap.IsGen s1.heap.objs.size s1.gens.size)
      (Y := DY (gcxOf P w K mg base N qual scope f cdv B outer s0 H E [(s1.heap.objs.size, go)]) L Cs) (fun n t0 r s3 hR => ?_) (fun n t0 v s3 kap kap' hkk hY => ?_) sizeLine ?_
    · rcases hR with ⟨ys, ip, σ', H', er, hn, i, hQ⟩ | ⟨e, er, q1, q2⟩
      · have nn := fun b hb => i.clear (b := b) hb
        have stl := still i
        obtain ⟨cs, _, _, arr, cc, _, ra, J⟩ := i
        exact .inl ⟨.inl er, H', ys, arr, cc, J.os, J.bare, J.base, J.hok, fun b hb => ⟨(nn b hb).1, stl b hb⟩, (J.pin (L, lstObj arr cc) (List.mem_append_right _ List.mem_cons_self)).1, ra, by omega, hQ⟩
      · exact .inr ⟨e, er, q1, q2⟩
    · obtain ⟨ys, xx, ip, σ', H', rv, hn, i, h3⟩ := hY
      have hg := pinned i
      have stl := still i
      obtain ⟨cs, _, _, arr, cc, _, ra, J⟩ := i
      have hsz : arr.size = ys.length := by
        have e1 := ra.length
        have e2 : arr.toList.length = arr.size := by simp
        omega
      exact ⟨J.os, J.bare, J.nolimit, hg, stl, ⟨arr, cc, (J.pin (L, lstObj arr cc) (List.mem_append_right _ List.mem_cons_self)).1, by rw [hsz]; exact hn⟩, fun s' z => hkk _ _ (h3 s' z)⟩
    · have dc : DC (gcxOf P w K mg base N qual scope f cdv B outer s0 H E [(s1.heap.objs.size, go)]) L Cs [] B (.func body (envOfC qual scope s0.heap.objs.size f cdv)) [] id := by
        refine ⟨fun b hb => ?_⟩
        obtain ⟨_, y2, _, y4, y5⟩ := fresh b (Nat.le_of_lt (older b hb))
        refine ⟨fun p hp => ?_, fun p hp => (by simp at hp), ⟨y4, y2, y5⟩, over_func, rfl, rfl, rfl⟩
        rw [List.mem_singleton.mp hp]
        exact Nat.ne_of_lt (older b hb)
      refine ht.go B L Cs [] _ sizeLine [] s2 _ [] _ _ id id s2 (start N vs) H _ dc (Nat.add_zero _) ⟨fun n ys t0 s' fl hn hs => ?_, fun n t0 e s' hx => ?_⟩ i0 hq
      · cases fl with
        | next =>
          obtain ⟨σ', H', i, hQ⟩ := hs
          exact seg_end (.ok (.ret .none)) (.inl ⟨ys, [], σ', H', rfl, hn, i, hQ⟩)
        | brk => obtain ⟨_, _, _, q⟩ := hs; exact False.elim q
        | cont => obtain ⟨_, _, _, q⟩ := hs; exact False.elim q
        | ret u =>
          obtain ⟨v, σ', H', i, rv, ev, hQ⟩ := hs
          subst ev
          have eu : u = Value.none := rv
          subst eu
          exact seg_end (.ok (.ret .none)) (.inl ⟨ys, [], σ', H', rfl, hn, i, hQ⟩)
      · refine seg_wrap ?_
        rw [over_func]
        refine wpAny_mono (show wpAny (model P w) (B.deeper (envOfC qual scope s0.heap.objs.size f cdv)) (leaving (envOfC qual scope s0.heap.objs.size f cdv) e) (fun _ s'' => CX P w outer H s0 E e s'' ∧ ∀ p ∈ [(s1.heap.objs.size, go)], s''.heap.get? p.1 = some p.2) (fun _ _ => False) s' from hx) (fun _ s'' q => ?_) fun _ s'' q => q.elim
        exact seg_end (.error e) (.inr ⟨e, rfl, q.1, asGen _ (q.2 _ (List.mem_singleton.mpr rfl))⟩)
  exact main _ _ _ _ rfl rfl rfl fun h => Heap.get?_push_size _ rfl
end L2.TW
namespace L2.TW
open PySem PySem.Spec PyProof.Rows GenW
/-- an expression whose value is a generator that has not begun -/
structure PGenW (X : Cx) (k : Nat) (e : Expr) (tg : TGen) (E : XK) : Prop where
  run : ∀ (pins : List (Addr × Obj)) (s : Shared) (σ : L2.St) (H : Hp) (cont : List V → Hp → Prop), Inv X pins σ H s → tg σ H cont → wpAny (model X.prog X.w) X.A (eval e X.env)
    (fun u s' => ∃ H1 sc, Inv X pins σ H1 sc ∧ MadeW X.prog X.w k X.stack H1 sc cont E u s') X.xe s
section
variable {X : Cx} {k : Nat} {f : Addr} {fd : FuncData} {ps ks : List Str} {sp : SpG} {x : Str} {p pos : Pos} {e : Expr} {es : List Expr} {kws : List Keyword} {t tk : TA} {E : XK} {tg : TGen}
theorem PGenW.plain (h : PGenW X k e tg E) : PGen X k e tg E :=
  ⟨fun pins s σ H cont I q => thn (h.run pins s σ H cont I q) fun u s' ⟨H1, sc, I1, m⟩ => ⟨H1, sc, [], I1, .nil, made_of m⟩⟩
/-- f(e, ..) of a generator def -/
theorem pgenW_call (F : GFnW X.prog X.w X.K X.mg X.base k f fd ps sp) (hr : Room k X.A) (hg : Gl X x) (hm : X.mg x = some (.ref f)) (hk : PySem.W.keepIn X.K (.ref f) = true) (hb : Binds X.K fd ps [])
    (ha : PA X (e :: es) t) (hdb : (x == ("__debug__" : Str)) = false := by decide) (he : starEach (e :: es) X.env = (false, eval e X.env) :: starEach es X.env := by rfl) (hpl : (backTo pos (starEach es X.env)).any (·.1) = false := by rfl) :
    PGenW X k (.Call (.Name x p) (e :: es) [] pos) (fun σ H cont => t σ H fun vs H1 => sp vs H1 cont E) E := by
  refine ⟨fun pins s σ H cont I h => ?_⟩
  refine wpAny_Call_Name_kw (ld_glob I hg hm ?_ hdb)
  refine PySem.W.callWith_K (h₀ := X.base) I.ok.mod.kin hk (thn (ha.run pos pins s σ H _ I h) fun us s1 ⟨vs, H1, I1, r, q⟩ => ⟨I1.kIn, ?_⟩) he hpl
  have hl : (us ++ []).length = ps.length := by rw [List.append_nil, ← r.length]; exact F.len _ _ _ _ q
  have hb1 := hb s1 us I1.kIn hl
  rw [List.append_nil] at hb1
  refine wpAny_call (codeAny_mono (F.run X.A X.stack s1 H1 ⟨us, []⟩ us vs cont E hr I1.env0 hb1 r q) fun rr s' hq => ?_)
  cases rr with
  | error er => exact False.elim hq
  | ok fl =>
    cases fl with
    | ret u => exact ⟨H1, s1, I1, hq⟩
    | next => exact False.elim hq
    | brk => exact False.elim hq
    | cont => exact False.elim hq
end
end L2.TW
namespace L2.TW
open PySem PySem.Spec PyProof.Rows GenW L2.TT
theorem _root_.L2.Fun.okW {P : Program} {w : World} {K : PySem.W.Frag} {mg : Str → Option Value} {base : Heap} {k : Nat} {x qual : Str} {st : Stmt} {f : Addr} {fd : FuncData} {N ps : List Str} {sp : SpG} (F : Fun K x qual st f fd) (S : GScope N ps (defScope st)) (len : ∀ vs H Q E, sp vs H Q E → vs.length = ps.length)
    (hbody : ∀ (cdv : Value) (A : Around) (outer : List Env) (s : Shared) (H : Hp) (vs : List V) (Q : List V → Hp → Prop) (E : XK) (pn : List (Addr × Obj)), Room k (A.deeper (envOfC qual (defScope st) s.heap.objs.size f cdv)) → sp vs H Q E →
      ∃ t, DSs (gcxOf P w K mg base N qual (defScope st) f cdv A outer s H E pn) (defBody st) t ∧ t { nx := fun ys _ H' => Q ys H', rt := fun ys v H' => v = .non ∧ Q ys H' } [] (start N vs) H) :
    GFnW P w K mg base (k + 1) f fd ps sp := by
  obtain ⟨oc, od, kV, doc, pm, an, cdv, ct, osl, rfl, lk, hcd⟩ := F.ex
  exact gfnW_of lk hcd S len fun A outer s H vs Q E pn hr h => hbody cdv A outer s H vs Q E pn hr h
end L2.TW
namespace L2.TW
open PySem PySem.Spec PyProof.Rows GenW
section
variable {X : Cx}
/-- while, in a generator whose consumer may own further objects -/
theorem ds_while {test : Expr} {body : List Stmt} {pos : Pos} {tc : TT} {tb : TGn} (hp : PassesOwn (model X.prog X.w) X.A X.env X.xe) (hc : PT X test tc) (hb : DSs X body tb) : DS X (.While test body [] pos) (tGWhile tc tb) := by
  refine ⟨fun A L Cs ip R n ys t0 c fs KF JF gq lq s σ H D g hl k i q => ?_⟩
  obtain ⟨W, ⟨m0, w0⟩, turn⟩ := q
  refine seg_While fun p => ?_
  have gl := fun (kk : Result → Sem PySem.Fin) => dc_loop (k := kk) (c' := .whileLoop test body [] X.env) (l := lq []) (kp := []) (p := p) g rfl rfl
  have loop : ∀ (m n : Nat) (ys : List V) (t0 s : Shared) (σ : St) (H : Hp), n + ys.length = sizeLine → W m ys σ H → DI X L Cs ip ys σ H t0 s →
      Seg (model X.prog X.w) A R (DY X L Cs) n t0 (.whileLoop test body [] X.env) ((model X.prog X.w).den (.whileLoop test body [] X.env))
        (.ret (fun r => ((match r with | .ok f => (.pure f : Sem Flow) | .error e => .raise e).onRaise (cameBack X.env)).wrap KF JF gq lq) none (gq false) (lq []) c p [] :: fs) s := by
    intro m
    induction m using Nat.strongRecOn with
    | ind m ih =>
      intro n ys t0 s σ H hl w i
      have ee : ∀ (n : Nat) (t0 : Shared) (x : Value) (s' : Shared), X.xe x s' → Seg (model X.prog X.w) A R (DY X L Cs) n t0 (.whileLoop test body [] X.env)
          ((do noteFrame x X.env; theTreesLotGoes x : Sem Unit).wrap (fun _ => .raise x) .raise id id)
          (.ret (fun r => ((match r with | .ok f => (.pure f : Sem Flow) | .error e => .raise e).onRaise (cameBack X.env)).wrap KF JF gq lq) none (gq false) (lq []) c p [] :: fs) s' := fun n t0 x s' hx => by
        refine seg_wrap ?_
        rw [(gl _).one.over]
        refine wpAny_bind (wpAny_mono (hp x s' hx) (fun _ s'' hcb => wpAny_theTreesLotGoes ?_) fun y s'' hcb => ?_)
        · exact seg_leaf (.error x) (seg_back g k hcb)
        · exact seg_leaf (.error y) (seg_back g k hcb)
      refine seg_whileLoop ?_
      rw [(gl _).one.over]
      obtain ⟨cs, k1, k2, arr, cc, eL, r, I⟩ := i
      refine wpAny_mono (hc.run _ s σ H _ I (turn m ys σ H w)) (fun b s' hb' => ?_) fun x s' hx => ee n t0 x s' hx
      obtain ⟨H2, I2, q2⟩ := hb'
      have i2 : DI X L Cs ip ys σ H2 t0 s' := ⟨cs, k1, k2, arr, cc, eL, r, I2⟩
      cases b with
      | true =>
        obtain ⟨N, hN, q2⟩ := q2
        rw [if_pos rfl]
        refine hb.go A L Cs ip R n ys t0 _ _ _ _ id id s' σ H2 { D with nx := N, ct := N, bk := D.nx } (gl _) hl ⟨fun n' ys' t' s3 f hl' hs => ?_, fun n' t' x s3 hx => ee n' t' x s3 hx⟩ i2 q2
        cases f with
        | next =>
          obtain ⟨σ3, H3, I3, n3⟩ := hs
          obtain ⟨m', hm, w3⟩ := hN ys' σ3 H3 n3
          exact seg_again rfl (ih m' hm n' ys' t' s3 σ3 H3 hl' w3 I3)
        | cont =>
          obtain ⟨σ3, H3, I3, n3⟩ := hs
          obtain ⟨m', hm, w3⟩ := hN ys' σ3 H3 n3
          exact seg_again rfl (ih m' hm n' ys' t' s3 σ3 H3 hl' w3 I3)
        | brk => exact seg_leaf (.ok .next) (k.oky n' ys' t' s3 .next hl' hs)
        | ret v => exact seg_leaf (.ok (.ret v)) (k.oky n' ys' t' s3 (.ret v) hl' hs)
      | false =>
        rw [if_neg Bool.false_ne_true]
        refine seg_execs_nil ?_
        exact seg_leaf (.ok .next) (k.oky n ys t0 s' .next hl ⟨σ, H2, i2, q2⟩)
  exact loop m0 n ys t0 s σ H hl w0 i
end
end L2.TW
namespace TR
open PySem PySem.Spec PyProof.Rows L2 L2.TT L2.TW StX ClX GenW
def spNxp (C : Addr) : Sp := fun vs H Q _ => ∃ (r p : Addr) (tr : List E2) (L : Nat) (m : List Nat), vs = [.ref r, iv L, .ref p] ∧ RailAt C H r tr ∧ H p = some (.tup (m.map iv)) ∧ Bd tr m ∧ ∀ (q : Addr) (H' : Hp), Same H H' → H' q = some (.tup ((nxP tr L m).map iv)) → Q (.ref q) H'
def spPkt (C : Addr) : Sp := fun vs H Q _ => ∃ (r p : Addr) (tr : List E2) (L a b : Nat), vs = [.ref r, iv L, .ref p] ∧ 1 ≤ L ∧ RailAt C H r tr ∧ H p = some (.tup [iv a, iv b]) ∧ a ≤ tr.length ∧ b ≤ tr.length ∧ a ≠ b ∧
  ∀ (l : List Nat) (x y : Nat) (H' : Hp), Same H H' → SW tr a b l → l[1]? = some x → l[l.length - 2]? = some y → Q (.bl (decide (dph tr a x + (l.length - 1) = L) && decide (dph tr b y + (l.length - 1) = L))) H'
/-- the stations of the ends of a part -/
def plE (l : List Nat) (x : Nat × Nat) : E2 := (l.getD x.1 0, l.getD x.2 0)
def spCli (C : Addr) : SpG := fun vs H Q _ => ∃ (r t : Addr) (tr : List E2) (a b n : Nat) (l : List Nat) (rest : List (Nat × Nat)), vs = [.ref r, .ref t] ∧ RailAt C H r tr ∧ H t = some (.tup [iv a, iv b]) ∧ a ≤ tr.length ∧ b ≤ tr.length ∧ a ≠ b ∧ SW tr a b l ∧
  Prg (nrB tr l) (frB tr l) (l.length - 1) n 0 (l.length - 1) rest ∧ rest.length ≤ 1000 ∧ ∀ (ps : List Addr) (H' : Hp), Same H H' → Prs H' ps (((0, l.length - 1) :: rest).map (plE l)) → Q (ps.map V.ref) H'
section
variable {P : Program} {w : World} {K : PySem.W.Frag} {mg : Str → Option Value} {base : Heap}
abbrev N_sc_nxp : List Str := ["railway", "length", "part", "slack", "front", "rear"]
theorem sc_nxp : FnScope N_sc_nxp ["railway", "length", "part"] (defScope s_next_part) := ⟨rfl, rfl, rfl, by decide +kernel, rfl, by decide +kernel, by decide +kernel⟩
theorem ok_nxp {f fS C : Addr} {fd fdS : FuncData} (F : Fun K "_next_part" "_next_part" s_next_part f fd) (US : Use P w K mg base CX0 9 "_slack_and_depths" fS fdS ["railway", "length", "pair"] (spSlk C)) : FnOk P w K mg base CX0 10 f fd ["railway", "length", "part"] (spNxp C) := by
  refine F.ok sc_nxp (fun vs H Q E h => ?_) (fun cdv A outer s H vs Q E hr h => ?_)
  · obtain ⟨r, p, tr, L, m, rfl, _⟩ := h
    rfl
  · obtain ⟨r, p, tr, L, m, rfl, R, hp, b, k⟩ := h
    refine ⟨_, (pss_cons (ps_asg (pe_use US hr (by rfl) (pa_cons (pv 0) (pa_cons (pv 1) (pa_cons (pe_tup (pa_cons (pe_ix ix_tup (pv 2) pe_int (fun _ _ => rfl)) (pa_cons (pe_ix ix_tup (pv 2) (pe_un un_neg pe_int) (fun _ _ => rfl)) pa_nil))) pa_nil)))) (pg_tup rfl (pgs_cons (pg_name (i := 3) sc_nxp.nd rfl (.inl rfl)) (pgs_cons (pg_name (i := 4) sc_nxp.nd rfl (.inl rfl)) (pgs_cons (pg_name (i := 5) sc_nxp.nd rfl (.inl rfl)) pgs_nil)))))
        (pss_cons (ps_if (PW.pt (pw_or (pt_cmpR op_ge (pv 4) (pv 1) (nomark _)) (pw_or1 (pt_cmpR op_ge (pv 5) (pv 1) (nomark _))))) (pss_one (ps_ret (pe_tup pa_nil))) pss_nil)
        (pss_cons (ps_if (pt_cmpR op_gt (pv 4) (pv 3) (nomark _)) (pss_one (ps_ret (pe_slice sl_tupA (pv 2) po_none (po_some (pe_op op_add (pe_op op_sub (pv 1) (pv 4)) pe_int))))) pss_nil)
        (pss_cons (ps_if (pt_cmpR op_gt (pv 5) (pv 3) (nomark _)) (pss_one (ps_ret (pe_slice sl_tupA (pv 2) (po_some (pe_op op_sub (pv 5) (pv 3))) po_none))) pss_nil)
        (pss_one (ps_ret (pe_tup pa_nil))))))), ?_⟩
    have two : (2 : Nat) ≤ sizeLine := by rw [sizeLine_eq]; decide
    have T := R.T
    have b2 := b.two
    obtain ⟨a1, e1, h1⟩ : ∃ v, atI (m.map iv) 0 = some v ∧ v = iv (hd0 m) := by
      obtain ⟨x, r, rfl, _⟩ := bd_cons b2
      exact ⟨_, atI_pos (by decide) rfl, rfl⟩
    obtain ⟨a2, e2, h2⟩ : ∃ v, atI (m.map iv) (-1) = some v ∧ v = iv (lt0 m) := by
      obtain ⟨r, x, rfl, _⟩ := bd_snoc b2
      rw [lt0_snoc]
      exact ⟨_, at_last, rfl⟩
    subst h1 h2
    refine ⟨_, rfl, _, rfl, _, rfl, p, _, _, _, rfl, rfl, SqT.of hp, e1, _, rfl, _, rfl, p, _, _, _, rfl, rfl, SqT.of hp, e2, two, fun t nt => ?_⟩
    have st := same_upd nt (.tup [iv (hd0 m), iv (lt0 m)])
    refine ⟨r, t, tr, hd0 m, lt0 m, (L : Int), rfl, R.same st, upd_same, b.hle, b.lle, b.ne, fun l x y q H1 s1 sw hx hy hq => ?_⟩
    cases SW.uniq T sw b.sw
    have s2 := st.trans s1
    have hp1 := s2 _ _ hp
    have gx := gD_of hx
    have gy := gD_of hy
    have hn : nxP tr L m = if L ≤ dph tr (hd0 m) x ∨ L ≤ dph tr (lt0 m) y then [] else if L < dph tr (hd0 m) x + (m.length - 1) then m.take (L - dph tr (hd0 m) x + 1) else if L < dph tr (lt0 m) y + (m.length - 1) then m.drop (dph tr (lt0 m) y + (m.length - 1) - L) else [] := by
      unfold nxP
      rw [gx, gy]
    generalize dph tr (hd0 m) x = f at hq hn
    generalize dph tr (lt0 m) y = g at hq hn
    refine ⟨q, _, rfl, SqT.of hq, rfl, _, _, rfl, _, _, rfl, _, _, rfl, rfl, ?_⟩
    have fin : nxP tr L m = [] → ∀ H2 e, Same H H2 → H2 e = none → Q (.ref e) (upd H2 e (.tup [])) := fun z H2 e s ne => k e _ (s.trans (same_upd ne _)) (by rw [z]; exact upd_same)
    have zero : (0 : Nat) ≤ sizeLine := Nat.zero_le _
    refine ⟨_, rfl, _, rfl, _, _, rfl, rfl, _, rfl, ?_⟩
    by_cases c1 : L ≤ f
    · rw [show decide ((L : Int) ≤ (f : Int)) = true from decide_eq_true (by omega)]
      refine iteT ?_
      refine iteT ?_
      exact ⟨zero, fun e ne => fin (by rw [hn, if_pos (.inl c1)]) _ e s2 ne⟩
    rw [show decide ((L : Int) ≤ (f : Int)) = false from decide_eq_false (by omega)]
    refine iteF ?_
    refine ⟨_, rfl, _, rfl, _, _, rfl, rfl, _, rfl, ?_⟩
    by_cases c2 : L ≤ g
    · rw [show decide ((L : Int) ≤ (g : Int)) = true from decide_eq_true (by omega)]
      refine iteT ?_
      exact ⟨zero, fun e ne => fin (by rw [hn, if_pos (.inr c2)]) _ e s2 ne⟩
    rw [show decide ((L : Int) ≤ (g : Int)) = false from decide_eq_false (by omega)]
    refine iteF ?_
    rw [if_neg (by omega)] at hn
    refine ⟨_, rfl, _, rfl, _, _, rfl, rfl, _, rfl, ?_⟩
    by_cases c3 : L < f + (m.length - 1)
    · rw [show decide ((L : Int) - ((m.length : Int) - 1) < (f : Int)) = true from decide_eq_true (by omega)]
      refine iteT ?_
      rw [if_pos c3] at hn
      refine ⟨_, rfl, ?_⟩
      unfold tNoPart
      refine ⟨_, rfl, _, rfl, _, _, rfl, rfl, _, _, rfl, rfl, _, rfl, ?_⟩
      rw [show ((L : Int) - (f : Int) + 1) = ((L - f + 1 : Nat) : Int) from by omega]
      refine slT_toU hp1 (by rw [List.length_map]; omega) (fun pa H3 s3 hpa => ?_)
      exact k pa H3 (s2.trans s3) (by rw [hn, hpa, List.map_take])
    rw [show decide ((L : Int) - ((m.length : Int) - 1) < (f : Int)) = false from decide_eq_false (by omega)]
    refine iteF ?_
    rw [if_neg c3] at hn
    refine ⟨_, rfl, _, rfl, _, _, rfl, rfl, _, rfl, ?_⟩
    by_cases c4 : L < g + (m.length - 1)
    · rw [show decide ((L : Int) - ((m.length : Int) - 1) < (g : Int)) = true from decide_eq_true (by omega)]
      refine iteT ?_
      rw [if_pos c4] at hn
      refine ⟨_, rfl, ?_⟩
      refine ⟨_, rfl, _, rfl, _, _, rfl, rfl, _, rfl, ?_⟩
      unfold tNoPart
      rw [show ((g : Int) - ((L : Int) - ((m.length : Int) - 1))) = ((g + (m.length - 1) - L : Nat) : Int) from by omega]
      refine slT_fromU hp1 (by rw [List.length_map]; omega) (fun pa H3 s3 hpa => ?_)
      exact k pa H3 (s2.trans s3) (by rw [hn, hpa, List.map_drop])
    rw [show decide ((L : Int) - ((m.length : Int) - 1) < (g : Int)) = false from decide_eq_false (by omega)]
    refine iteF ?_
    rw [if_neg c4] at hn
    exact ⟨zero, fun e ne => fin hn _ e s2 ne⟩
end
end TR
namespace TR
open PySem PySem.Spec PyProof.Rows L2 L2.TT StX ClX
def spLen (C : Addr) : Sp := fun vs H Q _ => ∃ (r t : Addr) (tr : List E2) (a b : Nat), vs = [.ref r, .ref t] ∧ RailAt C H r tr ∧ H t = some (.tup [iv a, iv b]) ∧ a ≤ tr.length ∧ b ≤ tr.length ∧ a ≠ b ∧
  ∀ (l : List Nat) (H' : Hp), SW tr a b l → Same H H' → Q (.int ((l.length : Int) - 1)) H'
section
variable {P : Program} {w : World} {K : PySem.W.Frag} {mg : Str → Option Value} {base : Heap}
theorem sc_len : FnScope ["railway", "standing"] ["railway", "standing"] (defScope s_length_of) := ⟨rfl, rfl, rfl, by decide +kernel, rfl, by decide +kernel, by decide +kernel⟩
theorem ok_len {f fI C : Addr} {fd fdI : FuncData} (F : Fun K "length_of" "length_of" s_length_of f fd) (N : Nm mg) (U : Use P w K mg base CX0 6 "body_of" fI fdI ["railway", "standing"] (spBody C)) : FnOk P w K mg base CX0 7 f fd ["railway", "standing"] (spLen C) := by
  refine F.ok sc_len (fun vs H Q E h => ?_) (fun cdv A outer s H vs Q E hr h => ?_)
  · obtain ⟨r, t, tr, a, b, rfl, _⟩ := h
    rfl
  · obtain ⟨r, t, tr, a, b, rfl, R, ht, ha, hb, ne, k⟩ := h
    refine ⟨_, pss_one (ps_ret (pe_op op_sub (pe_callB call_len_seq (by rfl) N.len PySem.boot_len (pa_cons (pe_use U hr rfl (pa_cons (pv 0) (pa_cons (pv 1) pa_nil))) pa_nil)) pe_int)), ?_⟩
    refine ⟨_, rfl, _, rfl, r, t, tr, a, b, rfl, R, ht, ha, hb, ne, fun l p H' sw s1 np hp => ?_⟩
    refine ⟨p, _, rfl, .inr (SqT.of hp), _, _, rfl, rfl, ?_⟩
    have := k l H' sw s1
    rw [List.length_map]
    exact this
end
end TR
namespace TR
open PySem PySem.Spec PyProof.Rows L2 L2.TT L2.TW StX ClX GenW
theorem noStopF {K : PySem.W.Frag} : NoStop K (fun _ _ _ => False) := fun _ _ _ h => h.elim
/-- a generator def -/
structure GenU (P : Program) (w : World) (K : PySem.W.Frag) (mg : Str → Option Value) (base : Heap) (k : Nat) (x : Str) (f : Addr) (fd : FuncData) (ps ks : List Str) (gg : List Value → List Value) (sp : SpG) : Prop where
  G : GFnW P w K mg base k f fd ps sp
  m : mg x = some (.ref f)
  kp : PySem.W.keepIn K (.ref f) = true
  b : Binds K fd ps []
  kb : ∀ (s : Shared) (ws : List Value), K.In s.heap → ws.length = ks.length → BindsTo s fd ⟨[], ks.zip ws⟩ (ps.zip (gg ws))
end TR
namespace TR
open PySem PySem.Spec PyProof.Rows L2 L2.TT L2.TW StX ClX GenW
/-- what a climb ends with -/
structure CliE (tr : List E2) (l : List Nat) (rest : List (Nat × Nat)) (c : Bool) : Prop where
  st : StI (nrB tr l) (frB tr l) (l.length - 1) (lst2 (0, l.length - 1) rest).1 (lst2 (0, l.length - 1) rest).2
  fx : c = false → Fx (nrB tr l) (frB tr l) (l.length - 1) (lst2 (0, l.length - 1) rest).1 (lst2 (0, l.length - 1) rest).2
  ls : c = true → l.length - 1 ≤ nrB tr l (lst2 (0, l.length - 1) rest).1 ∨ l.length - 1 ≤ frB tr l (lst2 (0, l.length - 1) rest).2
theorem prs_last {H : Hp} {ps : List Addr} {f : Nat × Nat → E2} {p : Nat × Nat} {r : List (Nat × Nat)} (h : Prs H ps ((p :: r).map f)) : ∃ q, atI (ps.map V.ref) (-1) = some (V.ref q) ∧ H q = some (.tup [iv (f (lst2 p r)).1, iv (f (lst2 p r)).2]) := by
  have hl := h.1
  rw [List.length_map, List.length_cons] at hl
  have lt : r.length < ps.length := by omega
  have hg := List.getElem?_eq_getElem lt
  have e : (p :: r)[r.length]? = some (lst2 p r) := by
    unfold lst2
    rw [List.getLastD_eq_getLast?]
    cases r with
    | nil => rfl
    | cons x r => rw [show (p :: x :: r)[(x :: r).length]? = (x :: r)[r.length]? from rfl, List.getLast?_eq_getElem?, List.length_cons, Nat.add_sub_cancel, List.getElem?_eq_getElem (by simp)]; rfl
  refine ⟨ps[r.length], atI_lastN (n := r.length) (by rw [List.length_map]; exact hl) (map_get hg), h.2 _ _ _ hg ?_⟩
  rw [List.getElem?_map, e]
  rfl
def spPoc (C : Addr) : Sp := fun vs H Q _ => ∃ (r t : Addr) (tr : List E2) (a b n : Nat) (l : List Nat) (rest : List (Nat × Nat)) (c : Bool), vs = [.ref r, .ref t] ∧ RailAt C H r tr ∧ H t = some (.tup [iv a, iv b]) ∧ a ≤ tr.length ∧ b ≤ tr.length ∧ a ≠ b ∧ SW tr a b l ∧
  Prg (nrB tr l) (frB tr l) (l.length - 1) n 0 (l.length - 1) rest ∧ rest.length ≤ 1000 ∧ CliE tr l rest c ∧
  (c = false → ∀ (q : Addr) (H' : Hp), Same H H' → H' q = some (.tup [iv (plE l (lst2 (0, l.length - 1) rest)).1, iv (plE l (lst2 (0, l.length - 1) rest)).2]) → Q (.ref q) H') ∧ (c = true → ∀ H', Same H H' → Q .non H')
section
variable {P : Program} {w : World} {K : PySem.W.Frag} {mg : Str → Option Value} {base : Heap}
abbrev N_sc_cli : List Str := ["railway", "standing", "part", "length"]
theorem sc_cli : GScope N_sc_cli ["railway", "standing"] (defScope s_climb) := ⟨rfl, rfl, rfl, by decide +kernel, rfl, by decide +kernel, by decide +kernel⟩
theorem ok_cli {f fB fN C : Addr} {fd fdB fdN : FuncData} (F : Fun K "climb" "climb" s_climb f fd) (N : Nm mg) (UB : Use P w K mg base CX0 6 "body_of" fB fdB ["railway", "standing"] (spBody C)) (UN : Use P w K mg base CX0 10 "_next_part" fN fdN ["railway", "length", "part"] (spNxp C)) :
    GFnW P w K mg base 11 f fd ["railway", "standing"] (spCli C) := by
  refine F.okW sc_cli (fun vs H Q E h => ?_) (fun cdv A outer s H vs Q E pn hr h => ?_)
  · obtain ⟨r, t, tr, a, b, n, l, rest, rfl, _⟩ := h
    rfl
  · obtain ⟨r, t, tr, a, b, n, l, rest, rfl, R, ht, ha, hb, ne, sw, pg, rl, k⟩ := h
    have hr6 : Room 6 (A.deeper (envOfC "climb" (defScope s_climb) s.heap.objs.size f cdv)) := hr.mono (by decide)
    refine ⟨_, dss_cons (ds_ps (ps_set (i := 2) sc_cli.nd rfl (.inl rfl) (pe_use UB hr6 (by rfl) (pa_cons (pv 0) (pa_cons (pv 1) pa_nil)))))
      (dss_cons (ds_ps (ps_set (i := 3) sc_cli.nd rfl (.inl rfl) (pe_op op_sub (pe_callB call_len_seq (by rfl) N.len boot_len (pa_cons (pv 2) pa_nil)) pe_int)))
      (dss_one (ds_while owns_gcx (pt_truth (pv 2) (by intro _; rfl))
        (dss_cons (ds_yield (pe_tup (pa_cons (pe_ix ix_tup (pv 2) pe_int (fun _ _ => rfl)) (pa_cons (pe_ix ix_tup (pv 2) (pe_un un_neg pe_int) (fun _ _ => rfl)) pa_nil))))
        (dss_one (ds_ps (ps_set (i := 2) sc_cli.nd rfl (.inl rfl) (pe_use UN hr (by rfl) (pa_cons (pv 0) (pa_cons (pv 3) (pa_cons (pv 2) pa_nil))))))))))), ?_⟩
    have T := R.T
    have two : (2 : Nat) ≤ sizeLine := by rw [sizeLine_eq]; decide
    obtain ⟨bd, eh, et⟩ := sw_bd T sw ha ne
    have b2 := bd.two
    have st0 : StI (nrB tr l) (frB tr l) (l.length - 1) 0 (l.length - 1) := .start (by omega)
    refine ⟨_, rfl, _, rfl, r, t, tr, a, b, rfl, R, ht, ha, hb, ne, fun l' p H1 sw' s1 np hp => ?_⟩
    cases SW.uniq T sw' sw
    refine ⟨_, rfl, p, _, rfl, .inr (SqT.of hp), _, _, rfl, rfl, ?_⟩
    have eL : V.int (((l.map iv).length : Int) - 1) = iv (l.length - 1) := by
      rw [List.length_map]
      show V.int _ = V.int ((l.length - 1 : Nat) : Int)
      congr 1
      omega
    rw [show (fun i j => V.int (i - j)) (((l.map iv).length : Int)) 1 = iv (l.length - 1) from eL]
    refine ⟨fun m ys σ H' => ∃ (pp : Addr) (done : List (Nat × Nat)) (qs : List Addr), σ = [some (.ref r), some (.ref t), some (.ref pp), some (iv (l.length - 1))] ∧ ys = qs.map V.ref ∧ Same H H' ∧ Prs H' qs (done.map (plE l)) ∧
        ((m = 0 ∧ H' pp = some (.tup []) ∧ done = (0, l.length - 1) :: rest) ∨ ∃ i j n' r', m = n' + 1 ∧ H' pp = some (.tup ((prt l i j).map iv)) ∧ StI (nrB tr l) (frB tr l) (l.length - 1) i j ∧ Prg (nrB tr l) (frB tr l) (l.length - 1) n' i j r' ∧ (0, l.length - 1) :: rest = done ++ (i, j) :: r'),
      ⟨n + 1, p, [], [], rfl, rfl, s1, ⟨rfl, fun _ _ _ h => nomatch h⟩, .inr ⟨0, l.length - 1, n, rest, rfl, by rw [prt_all b2]; exact hp, st0, pg, rfl⟩⟩, ?_⟩
    rintro m ys σ H2 ⟨pp, done, qs, rfl, rfl, s2, hP, h⟩
    rcases h with ⟨rfl, hpp, hd⟩ | ⟨i, j, n', r', rfl, hpp, st, pg', hall⟩
    · refine ⟨_, rfl, _, .inr (.inl ⟨_, SqT.of hpp, rfl⟩), ?_⟩
      show _
      rw [hd] at hP
      exact k qs H2 s2 hP
    · have h1 := st.lt
      have h2 := st.le
      have PR := prt_bd T bd h1 (by omega)
      have R2 := R.same s2
      refine ⟨_, rfl, true, .inr (.inl ⟨_, SqT.of hpp, ?_⟩), ?_⟩
      · have := PR.n
        cases e : prt l i j with
        | nil => rw [e] at this; cases this
        | cons x y => rfl
      refine ⟨fun ys' σ' H' => ∃ m', m' < n' + 1 ∧ ∃ (pp : Addr) (done : List (Nat × Nat)) (qs : List Addr), σ' = [some (.ref r), some (.ref t), some (.ref pp), some (iv (l.length - 1))] ∧ ys' = qs.map V.ref ∧ Same H H' ∧ Prs H' qs (done.map (plE l)) ∧
        ((m' = 0 ∧ H' pp = some (.tup []) ∧ done = (0, l.length - 1) :: rest) ∨ ∃ i j n' r', m' = n' + 1 ∧ H' pp = some (.tup ((prt l i j).map iv)) ∧ StI (nrB tr l) (frB tr l) (l.length - 1) i j ∧ Prg (nrB tr l) (frB tr l) (l.length - 1) n' i j r' ∧ (0, l.length - 1) :: rest = done ++ (i, j) :: r'),
        fun ys' σ' H' h => h, ?_⟩
      have lq : qs.length = done.length := by rw [hP.1, List.length_map]
      have la := congrArg List.length hall
      rw [List.length_cons, List.length_append, List.length_cons] at la
      refine ⟨by rw [List.length_map, sizeLine_eq]; omega, ?_⟩
      have e1 : atI ((prt l i j).map iv) 0 = some (iv (l.getD i 0)) := by
        rw [← PR.h]
        obtain ⟨x, y, e, _⟩ := bd_cons PR.bd.two
        rw [e]
        exact atI_pos (by decide) rfl
      have e2 : atI ((prt l i j).map iv) (-1) = some (iv (l.getD j 0)) := by
        rw [← PR.t]
        obtain ⟨x, y, e, _⟩ := bd_snoc PR.bd.two
        rw [e, lt0_snoc]
        exact at_last
      refine ⟨_, rfl, pp, _, _, _, rfl, rfl, SqT.of hpp, e1, _, rfl, _, rfl, pp, _, _, _, rfl, rfl, SqT.of hpp, e2, two, fun q nq => ?_⟩
      have s3 := same_upd nq (.tup [iv (l.getD i 0), iv (l.getD j 0)])
      have hq3 := upd_same (H := H2) (a := q) (o := .tup [iv (l.getD i 0), iv (l.getD j 0)])
      generalize upd H2 q (.tup [iv (l.getD i 0), iv (l.getD j 0)]) = H3 at s3 hq3
      have hP3 : Prs H3 (qs ++ [q]) ((done ++ [(i, j)]).map (plE l)) := by
        rw [List.map_append]
        exact (hP.same s3).snoc hq3
      refine ⟨_, rfl, _, rfl, _, rfl, r, pp, tr, l.length - 1, prt l i j, rfl, R2.same s3, s3 _ _ hpp, PR.bd, fun pz H4 s4 hpz => ?_⟩
      have s24 := (s2.trans s3).trans s4
      have hP4 := hP3.same s4
      rcases nxP_prg T bd pg' st with ⟨er, en⟩ | ⟨n2, i2, j2, r2, en', er, en, st2, pg2⟩
      · rw [en] at hpz
        refine ⟨0, Nat.succ_pos _, pz, done ++ [(i, j)], qs ++ [q], rfl, by rw [List.map_append]; rfl, s24, hP4, .inl ⟨rfl, hpz, ?_⟩⟩
        rw [hall, er]
      · rw [en] at hpz
        refine ⟨n2 + 1, by omega, pz, done ++ [(i, j)], qs ++ [q], rfl, by rw [List.map_append]; rfl, s24, hP4, .inr ⟨i2, j2, n2, r2, rfl, hpz, st2, pg2, ?_⟩⟩
        rw [hall, er, List.append_assoc]
        rfl
abbrev N_sc_pkt : List Str := ["railway", "length", "value", "slack", "front", "rear"]
theorem sc_pkt : FnScope N_sc_pkt ["railway", "length", "value"] (defScope s_is_pocket) := ⟨rfl, rfl, rfl, by decide +kernel, rfl, by decide +kernel, by decide +kernel⟩
theorem ok_pkt {f fL fI fS C : Addr} {fd fdL fdI fdS : FuncData} (F : Fun K "is_pocket" "is_pocket" s_is_pocket f fd) (UL : Use P w K mg base CX0 2 "check_length" fL fdL ["length"] spChkLen) (UI : Use P w K mg base CX0 4 "is_standing" fI fdI ["railway", "value"] (spIsStd C K)) (US : Use P w K mg base CX0 9 "_slack_and_depths" fS fdS ["railway", "length", "pair"] (spSlk C)) :
    FnOk P w K mg base CX0 10 f fd ["railway", "length", "value"] (spPkt C) := by
  refine F.ok sc_pkt (fun vs H Q E h => ?_) (fun cdv A outer s H vs Q E hr h => ?_)
  · obtain ⟨r, p, tr, L, a, b, rfl, _⟩ := h
    rfl
  · obtain ⟨r, p, tr, L, a, b, rfl, hL, R, hp, ha, hb, ne, k⟩ := h
    refine ⟨_, (pss_cons (ps_expr (pe_use UL (hr.mono (by decide)) (by rfl) (pa_cons (pv 1) pa_nil)))
        (pss_cons (ps_if (pt_not (pt_val (pe_use UI (hr.mono (by decide)) (by rfl) (pa_cons (pv 0) (pa_cons (pv 2) pa_nil))))) (pss_one (ps_ret pe_bl)) pss_nil)
        (pss_cons (ps_asg (pe_use US hr (by rfl) (pa_cons (pv 0) (pa_cons (pv 1) (pa_cons (pv 2) pa_nil)))) (pg_tup rfl (pgs_cons (pg_name (i := 3) sc_pkt.nd rfl (.inl rfl)) (pgs_cons (pg_name (i := 4) sc_pkt.nd rfl (.inl rfl)) (pgs_cons (pg_name (i := 5) sc_pkt.nd rfl (.inl rfl)) pgs_nil)))))
        (pss_one (ps_ret (pe_and (pe_cmpR op_eq (pv 4) (pv 3) (nomark _)) (pe_one (pe_cmpR op_eq (pv 5) (pv 3) (nomark _))))))))), ?_⟩
    refine ⟨_, rfl, L, rfl, hL, ?_⟩
    refine ⟨_, rfl, _, rfl, r, tr, _, _, rfl, R, .two hp (.inl ⟨_, rfl⟩) (.inl ⟨_, rfl⟩), _, rfl, ?_⟩
    rw [show isPr (some (iv a, iv b)) ((tr.length : Int) + 1) = true from isPr_ok (n := tr.length + 1) (by omega) (by omega) ne]
    refine iteF ?_
    refine ⟨_, rfl, _, rfl, _, rfl, r, p, tr, a, b, (L : Int), rfl, R, hp, ha, hb, ne, fun l x y q H1 s1 sw hx hy hq => ?_⟩
    have k1 := k l x y H1 s1 sw hx hy
    have two := sw_two sw ne
    refine ⟨q, _, rfl, SqT.of hq, rfl, _, _, rfl, _, _, rfl, _, _, rfl, rfl, ?_⟩
    generalize dph tr a x = f at k1
    generalize dph tr b y = g at k1
    have e1 : decide (iv f = V.int ((L : Int) - ((l.length : Int) - 1))) = decide (f + (l.length - 1) = L) := by
      refine decide_eq_decide.mpr ⟨fun z => ?_, fun z => ?_⟩
      · have := V.int.inj z
        omega
      · show V.int _ = V.int _
        congr 1
        omega
    have e2 : decide (iv g = V.int ((L : Int) - ((l.length : Int) - 1))) = decide (g + (l.length - 1) = L) := by
      refine decide_eq_decide.mpr ⟨fun z => ?_, fun z => ?_⟩
      · have := V.int.inj z
        omega
      · show V.int _ = V.int _
        congr 1
        omega
    refine ⟨_, rfl, _, rfl, rfl, _, rfl, ?_⟩
    rw [e1]
    by_cases c1 : f + (l.length - 1) = L
    · rw [decide_eq_true c1] at k1 ⊢
      refine iteT ?_
      refine ⟨_, rfl, _, rfl, rfl, ?_⟩
      show Q (.bl (decide (iv g = V.int ((L : Int) - ((l.length : Int) - 1))))) H1
      rw [e2]
      rw [Bool.true_and] at k1
      exact k1
    · rw [decide_eq_false c1] at k1 ⊢
      refine iteF ?_
      rw [Bool.false_and] at k1
      exact k1
abbrev N_sc_poc : List Str := ["railway", "standing", "pairs"]
theorem sc_poc : FnScope N_sc_poc ["railway", "standing"] (defScope s_pocket) := ⟨rfl, rfl, rfl, by decide +kernel, rfl, by decide +kernel, by decide +kernel⟩
theorem ok_poc {f fG fP fL C : Addr} {fd fdG fdP fdL : FuncData} (F : Fun K "pocket" "pocket" s_pocket f fd) (N : Nm mg) (GP : GenU P w K mg base 11 "climb" fG fdG ["railway", "standing"] ["standing", "railway"] swp (spCli C)) (UP : Use P w K mg base CX0 10 "is_pocket" fP fdP ["railway", "length", "value"] (spPkt C)) (UL : Use P w K mg base CX0 7 "length_of" fL fdL ["railway", "standing"] (spLen C)) :
    FnOk P w K mg base CX0 15 f fd ["railway", "standing"] (spPoc C) := by
  refine F.ok sc_poc (fun vs H Q E h => ?_) (fun cdv A outer s H vs Q E hr h => ?_)
  · obtain ⟨r, t, tr, a, b, n, l, rest, c, rfl, _⟩ := h
    rfl
  · obtain ⟨r, t, tr, a, b, n, l, rest, c, rfl, R, ht, ha, hb, ne, sw, pg, rl, ce, k1, k2⟩ := h
    have hr11 : Room 11 (A.deeper (envOfC "pocket" (defScope s_pocket) s.heap.objs.size f cdv)) := hr.mono (by decide)
    refine ⟨_, (pss_cons (ps_set (i := 2) sc_poc.nd rfl (.inl rfl) (pe_listG (PGenW.plain (pgenW_call (E := fun _ _ _ => False) GP.G hr11 (by rfl) GP.m GP.kp GP.b (pa_cons (pv 0) (pa_cons (pv 1) pa_nil)))) passF noStopF hr (by rfl) N.list PyProof.Rows.boot_list))
        (pss_one (ps_ret (pe_ifExp (pt_val (pe_use UP (hr.mono (by decide)) (by rfl) (pa_cons (pv 0) (pa_cons (pe_use UL (hr.mono (by decide)) (by rfl) (pa_cons (pv 0) (pa_cons (pv 1) pa_nil))) (pa_cons (pe_ix ix_list (pv 2) (pe_un un_neg pe_int) (fun _ _ => rfl)) pa_nil))))) (pe_ix ix_list (pv 2) (pe_un un_neg pe_int) (fun _ _ => rfl)) pe_non)))), ?_⟩
    have T := R.T
    obtain ⟨bd, eh, et⟩ := sw_bd T sw ha ne
    have b2 := bd.two
    refine ⟨_, rfl, _, rfl, r, t, tr, a, b, n, l, rest, rfl, R, ht, ha, hb, ne, sw, pg, rl, fun ps H1 s1 hP u nu => ?_⟩
    have su := same_upd nu (.lst (ps.map V.ref))
    have s2 := s1.trans su
    have hu := upd_same (H := H1) (a := u) (o := .lst (ps.map V.ref))
    obtain ⟨q, hq, hqv⟩ := prs_last hP
    have hq2 := su _ _ hqv
    generalize upd H1 u (.lst (ps.map V.ref)) = H2 at su s2 hu hq2
    have R2 := R.same s2
    have st := ce.st
    have fx := ce.fx
    have ls := ce.ls
    generalize lst2 (0, l.length - 1) rest = z at st fx ls k1 hq2
    obtain ⟨i, j⟩ := z
    have h1 := st.lt
    have h2 := st.le
    simp only [] at h1 h2
    have PR := prt_bd T bd h1 (by omega)
    have gi := gD (l := l) (i := i) (by omega)
    have gj := gD (l := l) (i := j) (by omega)
    refine ⟨_, rfl, _, rfl, _, rfl, r, t, tr, a, b, rfl, R2, s2 _ _ ht, ha, hb, ne, fun l2 H3 sw2 s3 => ?_⟩
    cases SW.uniq T sw2 sw
    refine ⟨_, rfl, _, rfl, u, _, _, _, rfl, rfl, SqL.of (s3 _ _ hu), hq, ?_⟩
    refine ⟨r, q, tr, l.length - 1, l.getD i 0, l.getD j 0, ?_, by omega, R2.same s3, s3 _ _ hq2, bd.le _ (List.mem_of_getElem? gi), bd.le _ (List.mem_of_getElem? gj), sw_ne sw gi gj (by omega), fun l3 x y H4 s4 sw3 hx hy => ?_⟩
    · show [_, V.int _, _] = [_, V.int _, _]
      rw [show ((l.length : Int) - 1) = ((l.length - 1 : Nat) : Int) from by omega]
    have sp := PR.bd.sw
    rw [PR.h, PR.t] at sp
    cases SW.uniq T sw3 sp
    have ex : x = l.getD (i + 1) 0 := Option.some.inj (hx.symm.trans PR.s)
    have ey : y = l.getD (j - 1) 0 := Option.some.inj (hy.symm.trans PR.p)
    subst ex ey
    rw [PR.n, Nat.add_sub_cancel]
    have s24 := s2.trans (s3.trans s4)
    refine ⟨_, rfl, ?_⟩
    cases c with
    | false =>
      have fx := fx rfl
      rw [show (decide (dph tr (l.getD i 0) (l.getD (i + 1) 0) + (j - i) = l.length - 1) && decide (dph tr (l.getD j 0) (l.getD (j - 1) 0) + (j - i) = l.length - 1)) = true from by
        rw [decide_eq_true (show dph tr (l.getD i 0) (l.getD (i + 1) 0) + (j - i) = l.length - 1 from fx.n), decide_eq_true (show dph tr (l.getD j 0) (l.getD (j - 1) 0) + (j - i) = l.length - 1 from fx.f)]
        rfl]
      refine iteT ?_
      exact ⟨_, rfl, _, rfl, u, _, _, _, rfl, rfl, SqL.of ((s3.trans s4) _ _ hu), hq, k1 rfl q H4 s24 ((s3.trans s4) _ _ hq2)⟩
    | true =>
      have ls : l.length - 1 ≤ dph tr (l.getD i 0) (l.getD (i + 1) 0) ∨ l.length - 1 ≤ dph tr (l.getD j 0) (l.getD (j - 1) 0) := ls rfl
      rw [show (decide (dph tr (l.getD i 0) (l.getD (i + 1) 0) + (j - i) = l.length - 1) && decide (dph tr (l.getD j 0) (l.getD (j - 1) 0) + (j - i) = l.length - 1)) = false from by
        rw [Bool.and_eq_false_iff]
        rcases ls with h | h
        · exact .inl (decide_eq_false (by omega))
        · exact .inr (decide_eq_false (by omega))]
      refine iteF ?_
      exact k2 rfl H4 s24
end
end TR
namespace TR
open PySem PySem.Spec PyProof.Rows L2 L2.TT L2.TW StX ClX GenW
/-- the last standing of a climb, or None -/
def LastV (c : Bool) (e : E2) (v : V) (H : Hp) : Prop := (c = true ∧ v = .non) ∨ (c = false ∧ ∃ q, v = .ref q ∧ H q = some (.tup [iv e.1, iv e.2]))
theorem poc_of {C r t : Addr} {tr : List E2} {x y n2 : Nat} {l : List Nat} {rest : List (Nat × Nat)} {c : Bool} {H : Hp} {Q : VK} {E : XK} (R : RailAt C H r tr) (ht : H t = some (.tup [iv x, iv y])) (hx : x ≤ tr.length) (hy : y ≤ tr.length) (ne : x ≠ y) (sw : SW tr x y l)
    (pg : Prg (nrB tr l) (frB tr l) (l.length - 1) n2 0 (l.length - 1) rest) (hl : rest.length ≤ 1000) (ce : CliE tr l rest c) (k : ∀ v H', Same H H' → LastV c (plE l (lst2 (0, l.length - 1) rest)) v H' → Q v H') : spPoc C [.ref r, .ref t] H Q E :=
  ⟨r, t, tr, x, y, n2, l, rest, c, rfl, R, ht, hx, hy, ne, sw, pg, hl, ce, fun hc q H' s' hq => k _ _ s' (.inr ⟨hc, q, rfl, hq⟩), fun hc H' s' => k _ _ s' (.inl ⟨hc, rfl⟩)⟩
end TR
namespace TR
open PySem PySem.Spec PyProof.Rows L2 L2.TT L2.TW StX ClX GenW
/-- a pocket's name as a value -/
def PkV (o : Option E2) (v : V) (H : Hp) : Prop := (o = none ∧ v = .non) ∨ ∃ e q, o = some e ∧ v = .ref q ∧ H q = some (.tup [iv e.1, iv e.2])
theorem PkV.same {o : Option E2} {v : V} {H H' : Hp} (h : PkV o v H) (s : Same H H') : PkV o v H' := by
  rcases h with h | ⟨e, q, h1, h2, h3⟩
  · exact .inl h
  · exact .inr ⟨e, q, h1, h2, s _ _ h3⟩
def dpk : Option E2 → PyData
  | none => .none
  | some e => .tuple [di e.1, di e.2]
theorem poc_pk {C r t : Addr} {tr : List E2} {l : List Nat} {H : Hp} {Q : VK} {E : XK} (R : RailAt C H r tr) (b : Bd tr l) (ht : H t = some (.tup [iv (hd0 l), iv (lt0 l)])) (k : ∀ v H', Same H H' → PkV (pk tr l) v H' → Q v H') : spPoc C [.ref r, .ref t] H Q E := by
  have T := R.T
  have few := R.few
  have br := brn_of T b
  have b2 := b.two
  have ll := sw_len T b.sw b.hle
  have st0 : StI (nrB tr l) (frB tr l) (l.length - 1) 0 (l.length - 1) := .start (by omega)
  obtain ⟨n0, rest, c, cm0⟩ := clm_ex br (3 * (l.length - 1) + 2) 0 0 0 (l.length - 1) st0 (by decide) (by omega)
  have si : Si (nrB tr l) (frB tr l) (l.length - 1) 0 0 0 (l.length - 1) := ⟨fun z => absurd z (by omega), fun z => absurd z (by omega)⟩
  obtain ⟨a1, _, _, a4, a5, a6, a7⟩ := clm_end br cm0 (by decide) st0 si
  obtain ⟨n2, pg⟩ := clm_prg br cm0 (by decide) st0 ⟨fun z => absurd rfl z, fun _ z => absurd z (by decide), fun z => absurd z (by decide)⟩
  have e := pk_clm T b cm0
  refine poc_of R ht b.hle b.lle b.ne b.sw pg (by omega) ⟨a1, a5, a6⟩ fun v H' s hv => k v H' s ?_
  rcases hv with ⟨rfl, rfl⟩ | ⟨rfl, q, rfl, hq⟩
  · exact .inl ⟨e, rfl⟩
  · exact .inr ⟨_, q, e, rfl, hq⟩
end TR
namespace TR
section
variable {tr : List E2}
/-- a body held between two shallow branches of a station -/
structure Hld (tr : List E2) (N x q y : Nat) (l : List Nat) : Prop where
  bd : Bd tr l
  len : l.length = N
  at_ : ∃ k, l[k]? = some x ∧ l[k + 1]? = some q ∧ l[k + 2]? = some y
theorem nr_ge (T : TreeL tr) {l : List Nat} (b : Bd tr l) {k x q : Nat} (hx : l[k]? = some x) (hq : l[k + 1]? = some q) : k ≤ dph tr x q := by
  have lt := (List.getElem?_eq_some_iff.mp hq).1
  have := (brn_of T b).up_le (i := 0) (p := k) (Nat.zero_le _) (by omega)
  unfold nrB at this
  rw [gD_of hx, gD_of hq] at this
  omega
theorem fr_ge (T : TreeL tr) {l : List Nat} (b : Bd tr l) {k q y : Nat} (hq : l[k]? = some q) (hy : l[k + 1]? = some y) : l.length - 1 - (k + 1) ≤ dph tr y q := by
  have lt := (List.getElem?_eq_some_iff.mp hy).1
  have := (brn_of T b).dn_le (q := k + 1) (j := l.length - 1) (by omega) (by omega) (Nat.le_refl _)
  unfold frB at this
  rw [gD_of hy, show k + 1 - 1 = k by omega, gD_of hq] at this
  omega
theorem held_step (T : TreeL tr) {N x q y : Nat} (d1 : dph tr x q + 1 < N - 1) (d2 : dph tr y q + 1 < N - 1) (l : List Nat) (m : Mv) (h : Hld tr N x q y l) (hm : canM tr l m = true) : Hld tr N x q y (aft l m) := by
  obtain ⟨b, len, k, hx, hq, hy⟩ := h
  obtain ⟨b2, l2⟩ := b.aft T hm
  refine ⟨b2, by rw [l2, len], ?_⟩
  have ly := (List.getElem?_eq_some_iff.mp hy).1
  obtain ⟨e, w⟩ := m
  cases e with
  | true =>
    have up : ∀ {i v : Nat}, l[i]? = some v → i + 1 < l.length → (aft l (true, w))[i + 1]? = some v := fun {i v} hv lt => by
      show (w :: l.dropLast)[i + 1]? = some v
      rw [List.getElem?_cons_succ, List.getElem?_dropLast, if_pos (by omega)]
      exact hv
    have g := nr_ge T b2 (up hx (by omega)) (up hq (by omega))
    exact ⟨k + 1, up hx (by omega), up hq (by omega), up hy (by omega)⟩
  | false =>
    have dn : ∀ {i v : Nat}, l[i + 1]? = some v → (aft l (false, w))[i]? = some v := fun {i v} hv => by
      show (l.tail ++ [w])[i]? = some v
      have lt := (List.getElem?_eq_some_iff.mp hv).1
      rw [List.getElem?_append_left (by rw [List.length_tail]; omega), List.getElem?_tail]
      exact hv
    cases k with
    | zero =>
      have g := fr_ge T b2 (dn hq) (dn hy)
      rw [l2, len] at g
      omega
    | succ k => exact ⟨k, dn hx, dn hq, dn hy⟩
/-- such a body is not free -/
theorem held (T : TreeL tr) {l : List Nat} (b : Bd tr l) {k x q y : Nat} (hx : l[k]? = some x) (hq : l[k + 1]? = some q) (hy : l[k + 2]? = some y) (d1 : dph tr x q + 1 < l.length - 1) (d2 : dph tr y q + 1 < l.length - 1) : pk tr l ≠ none := fun h => by
  obtain ⟨m, j, s, h1, h2, ap⟩ := free_apart T b h
  have all : ∀ {n : List Nat}, Leads tr l n → Hld tr l.length x q y n := fun {n} ⟨ms, ok, e⟩ => by
    have := leads_ind (tr := tr) (C := Hld tr l.length x q y) (held_step T d1 d2) ms l ok ⟨b, rfl, k, hx, hq, hy⟩
    rw [e] at this
    exact this
  obtain ⟨b1, _, i1, p1, p2, _⟩ := all h1
  obtain ⟨_, _, i2, q1, q2, _⟩ := all h2
  have e1 := ap x (List.mem_of_getElem? p1) (List.mem_of_getElem? q1)
  have e2 := ap q (List.mem_of_getElem? p2) (List.mem_of_getElem? q2)
  have := (List.getElem?_inj (i := i1) (j := i1 + 1) (by have := (List.getElem?_eq_some_iff.mp p2).1; omega) b1.sw.nd).mp (by rw [p1, p2, e1, e2])
  omega
/-- how two paths from a station part -/
theorem sw_part (T : TreeL tr) : ∀ (p q : List Nat) (s a b : Nat), SW tr s a p → SW tr s b q → ∃ (c : Nat) (r p' q' : List Nat), p = r ++ p' ∧ q = r ++ q' ∧ SW tr c a p' ∧ SW tr c b q' ∧ (p' = [c] ∨ q' = [c] ∨ ∃ x y, p'[1]? = some x ∧ q'[1]? = some y ∧ x ≠ y)
  | [], q, s, a, b, h, _ => nomatch h.hd
  | [u], q, s, a, b, h, k => by
    cases h.hd
    exact ⟨u, [], [u], q, rfl, rfl, h, k, .inl rfl⟩
  | u :: v :: p, [], s, a, b, h, k => nomatch k.hd
  | u :: v :: p, [w], s, a, b, h, k => by
    cases k.hd
    exact ⟨w, [], _, _, rfl, rfl, h, k, .inr (.inl rfl)⟩
  | u :: v :: p, w :: z :: q, s, a, b, h, k => by
    cases h.hd
    cases k.hd
    by_cases c : v = z
    · subst c
      have h' : SW tr v a (v :: p) := ⟨h.wk.2, (List.nodup_cons.mp h.nd).2, rfl, by have := h.lt; rwa [List.getLast?_cons_cons] at this⟩
      have k' : SW tr v b (v :: q) := ⟨k.wk.2, (List.nodup_cons.mp k.nd).2, rfl, by have := k.lt; rwa [List.getLast?_cons_cons] at this⟩
      obtain ⟨x, r, p', q', e1, e2, h1, h2, h3⟩ := sw_part T (v :: p) (v :: q) v a b h' k'
      exact ⟨x, u :: r, p', q', by rw [e1]; rfl, by rw [e2]; rfl, h1, h2, h3⟩
    · exact ⟨u, [], _, _, rfl, rfl, h, k, .inr (.inr ⟨v, z, rfl, rfl, c⟩)⟩
end
end TR
namespace TR
section
variable {tr : List E2}
theorem filter_all {P : Nat → Bool} {l : List Nat} (h : ∀ z ∈ l, P z = true) : l.filter P = l := List.filter_eq_self.mpr h
theorem filter_none {P : Nat → Bool} {l : List Nat} (h : ∀ z ∈ l, P z = false) : l.filter P = [] := List.filter_eq_nil_iff.mpr fun z hz => by rw [h z hz]; decide
/-- where a station hangs on a line -/
structure Gt (tr : List E2) (m : List Nat) (s i g : Nat) (r : List Nat) : Prop where
  num : mkN tr m s = i + 1
  at_ : m[i]? = some g
  pth : SW tr (hd0 m) s (m.take (i + 1) ++ r)
  off : ∀ z ∈ r, z ∉ m
theorem gate (T : TreeL tr) {m : List Nat} (b : Bd tr m) {s : Nat} (hs : s ≤ tr.length) : ∃ i g r, Gt tr m s i g r := by
  obtain ⟨p, sp, _⟩ := sw_ex T b.hle hs
  obtain ⟨c, r, p', m', e1, e2, h1, h2, h3⟩ := sw_part T p m _ _ _ sp b.sw
  obtain ⟨p2, rfl⟩ : ∃ p2, p' = c :: p2 := by
    match p', h1.hd with
    | u :: p2, h => cases h; exact ⟨p2, rfl⟩
  obtain ⟨m2, rfl⟩ : ∃ m2, m' = c :: m2 := by
    match m', h2.hd with
    | u :: m2, h => cases h; exact ⟨m2, rfl⟩
  have nd := sp.nd
  rw [e1] at nd
  have off : ∀ z ∈ p2, z ∉ m := fun z hz hm => by
    rw [e2] at hm
    rcases List.mem_append.mp hm with hm | hm
    · exact (List.nodup_append.mp nd).2.2 z hm z (List.mem_cons_of_mem _ hz) rfl
    rcases List.mem_cons.mp hm with rfl | hm
    · exact (List.nodup_cons.mp (List.nodup_append.mp nd).2.1).1 hz
    rcases h3 with h3 | h3 | ⟨x, y, hx, hy, ne⟩
    · cases h3
      cases hz
    · cases h3
      cases hm
    · have j := (sw_join T h1 h2 hx hy ne).nd
      rw [List.reverse_cons, List.append_assoc] at j
      exact (List.nodup_append.mp j).2.2 z (List.mem_reverse.mpr hz) z (List.mem_append_right _ hm) rfl
  have tk : m.take (r.length + 1) = r ++ [c] := by
    rw [e2, List.take_append, List.take_of_length_le (by omega), Nat.add_sub_cancel_left]
    rfl
  have ep : p = (r ++ [c]) ++ p2 := by rw [e1]; simp
  refine ⟨r.length, c, p2, ?_, ?_, ?_, off⟩
  · unfold mkN
    rw [pl_eq T sp, ep, List.filter_append, filter_all (fun z hz => ?_), filter_none (fun z hz => decide_eq_false (off z hz))]
    · simp
    · rw [decide_eq_true_iff, e2]
      rcases List.mem_append.mp hz with hz | hz
      · exact List.mem_append_left _ hz
      · rw [List.mem_singleton.mp hz]
        simp
  · rw [e2, List.getElem?_append_right (Nat.le_refl _), Nat.sub_self]
    rfl
  · rw [tk, ← ep]
    exact sp
theorem Gt.way (T : TreeL tr) {m : List Nat} {s i g : Nat} {r : List Nat} (h : Gt tr m s i g r) : SW tr g s (g :: r) := by
  have lt := (List.getElem?_eq_some_iff.mp h.at_).1
  have e : m.take (i + 1) = m.take i ++ [g] := take_snoc h.at_
  have := h.pth
  rw [e, List.append_assoc] at this
  exact this.part
/-- a branch beside a divide is shallow all the way -/
theorem shallow (T : TreeL tr) {m : List Nat} (bm : Bd tr m) {L : Nat} (dv : isDv tr L m = true) {g a : Nat} {r : List Nat} (hg : g ∈ m) (sw : SW tr g a (g :: r)) (off : ∀ z ∈ r, z ∉ m) {k c x : Nat} (hc : (g :: r)[k]? = some c) (hx : (g :: r)[k + 1]? = some x) : dph tr x c + k + 1 < L := by
  match r, sw, off, hc, hx with
  | [], sw, off, hc, hx =>
    rw [List.getElem?_cons_succ] at hx
    cases hx
  | w :: r, sw, off, hc, hx =>
    have hw : Adj tr g w := sw.wk.1
    have ne : g ≠ a := fun z => by
      have := sw.lt
      rw [List.getLast?_cons_cons] at this
      have := List.mem_of_getLast? this
      rw [← z] at this
      exact (List.nodup_cons.mp sw.nd).1 this
    obtain ⟨b, _, _⟩ := sw_bd T sw (bm.le g hg) ne
    have lt := (List.getElem?_eq_some_iff.mp hx).1
    have := (brn_of T b).dn_le (q := 1) (j := k + 1) (Nat.le_refl _) (by omega) (by omega)
    unfold frB at this
    rw [gD_of hx, show k + 1 - 1 = k by omega, gD_of hc] at this
    have e1 : (g :: w :: r).getD 1 0 = w := rfl
    have e0 : (g :: w :: r).getD (1 - 1) 0 = g := rfl
    rw [e1, e0] at this
    have := (of_decide_eq_true dv) g hg w ((mem_nb T.ne).mpr hw) (off w List.mem_cons_self)
    omega
/-- head and tail of a free standing have different marks on a divide -/
theorem mk_ne (T : TreeL tr) {m l : List Nat} (bm : Bd tr m) {L : Nat} (dv : isDv tr L m = true) (b : Bd tr l) (len : l.length = L + 1) (free : pk tr l = none) : mkN tr m (hd0 l) ≠ mkN tr m (lt0 l) := fun h => by
  have b2 := b.two
  obtain ⟨i, g, r1, g1⟩ := gate T bm b.hle
  obtain ⟨i2, g', r2, g2⟩ := gate T bm b.lle
  rw [g1.num, g2.num] at h
  cases Nat.succ.inj h
  cases g1.at_.symm.trans g2.at_
  have hg := List.mem_of_getElem? g1.at_
  have w1 := g1.way T
  have w2 := g2.way T
  obtain ⟨c, r, p', q', e1, e2, h1, h2, h3⟩ := sw_part T _ _ _ _ _ w1 w2
  have out : ∀ {r1 p' r : List Nat} {a : Nat}, SW tr g a (g :: r1) → (∀ z ∈ r1, z ∉ m) → g :: r1 = r ++ p' → p'.length = L + 1 → False := fun {r1 p' r a} w off e hl => by
    have el := congrArg List.length e
    rw [List.length_append] at el
    obtain ⟨k, ek⟩ : ∃ k, (g :: r1).length = k + 2 := ⟨(g :: r1).length - 2, by omega⟩
    have := shallow T bm dv hg w off (k := k) (gD (by omega)) (gD (by omega))
    omega
  rcases h3 with h3 | h3 | ⟨x, y, hx, hy, ne⟩
  · subst h3
    have ec : c = hd0 l := Option.some.inj h1.lt
    rw [ec] at h2
    have := SW.uniq T h2 b.sw
    exact out w2 g2.off e2 (by rw [this, len])
  · subst h3
    have ec : c = lt0 l := Option.some.inj h2.lt
    rw [ec] at h1
    have := SW.uniq T h1 b.sw.rev
    exact out w1 g1.off e1 (by rw [this, List.length_reverse, len])
  · have el := SW.uniq T (sw_join T h1 h2 hx hy ne) b.sw
    obtain ⟨p2, rfl⟩ : ∃ p2, p' = c :: x :: p2 := by
      match p', h1.hd, hx with
      | u :: v :: p2, h, k => cases h; cases k; exact ⟨p2, rfl⟩
    obtain ⟨q2, rfl⟩ : ∃ q2, q' = c :: y :: q2 := by
      match q', h2.hd, hy with
      | u :: v :: q2, h, k => cases h; cases k; exact ⟨q2, rfl⟩
    have e3 : (c :: x :: p2).reverse ++ (c :: y :: q2).tail = p2.reverse ++ (x :: c :: y :: q2) := by simp
    rw [e3] at el
    have at_ : ∀ d, l[p2.length + d]? = (x :: c :: y :: q2)[d]? := fun d => by
      rw [← el, List.getElem?_append_right (by rw [List.length_reverse]; omega), List.length_reverse, Nat.add_sub_cancel_left]
    have a1 : (g :: r1)[r.length]? = some c ∧ (g :: r1)[r.length + 1]? = some x := by
      rw [e1, List.getElem?_append_right (Nat.le_refl _), List.getElem?_append_right (by omega), Nat.sub_self, Nat.add_sub_cancel_left]
      exact ⟨rfl, rfl⟩
    have a2 : (g :: r2)[r.length]? = some c ∧ (g :: r2)[r.length + 1]? = some y := by
      rw [e2, List.getElem?_append_right (Nat.le_refl _), List.getElem?_append_right (by omega), Nat.sub_self, Nat.add_sub_cancel_left]
      exact ⟨rfl, rfl⟩
    have d1 := shallow T bm dv hg w1 g1.off a1.1 a1.2
    have d2 := shallow T bm dv hg w2 g2.off a2.1 a2.2
    exact held T b (at_ 0) (at_ 1) (at_ 2) (by omega) (by omega) free
end
end TR
namespace TR
section
variable {tr : List E2}
theorem mk_at (T : TreeL tr) {m : List Nat} (b : Bd tr m) {i s : Nat} (h : m[i]? = some s) : mkN tr m s = i + 1 := by
  have lt := (List.getElem?_eq_some_iff.mp h).1
  unfold mkN
  rw [pl_eq T (b.sw.take h), filter_all fun z hz => decide_eq_true (List.mem_of_mem_take hz), List.length_take]
  omega
theorem mk_pos (T : TreeL tr) {m : List Nat} (b : Bd tr m) {s : Nat} (hs : s ≤ tr.length) : 1 ≤ mkN tr m s := by
  obtain ⟨i, g, r, h⟩ := gate T b hs
  rw [h.num]
  omega
/-- the mark of a neighbour farther from the first station -/
theorem mk_on (T : TreeL tr) {m : List Nat} (b : Bd tr m) {s w : Nat} {p : List Nat} (sp : SW tr (hd0 m) s p) (h : Adj tr s w) (hw : w ∉ p) : mkN tr m w = mkN tr m s ∨ (mkN tr m w = mkN tr m s + 1 ∧ m[mkN tr m s - 1]? = some s ∧ m[mkN tr m s]? = some w) := by
  have sw := sp.snoc h hw
  have e : mkN tr m w = mkN tr m s + if w ∈ m then 1 else 0 := by
    unfold mkN
    rw [pl_eq T sw, pl_eq T sp, List.filter_append, List.length_append]
    by_cases c : w ∈ m
    · rw [if_pos c, filter_all (l := [w]) fun z hz => decide_eq_true (by rw [List.mem_singleton.mp hz]; exact c)]
      rfl
    · rw [if_neg c, filter_none (l := [w]) fun z hz => decide_eq_false (by rw [List.mem_singleton.mp hz]; exact c)]
      rfl
  by_cases c : w ∈ m
  · rw [if_pos c] at e
    refine .inr ⟨e, ?_⟩
    obtain ⟨i, hi⟩ := List.mem_iff_getElem?.mp c
    have lt := (List.getElem?_eq_some_iff.mp hi).1
    have e2 := mk_at T b hi
    have e3 := SW.uniq T sw (b.sw.take hi)
    have hp : p ≠ [] := fun z => by
      have := sp.hd
      rw [z] at this
      cases this
    have lp : p.length = i := by
      have := congrArg List.length e3
      rw [List.length_append, List.length_take, List.length_singleton] at this
      omega
    have pos := List.length_pos_iff.mpr hp
    rw [show mkN tr m s = i by omega]
    refine ⟨?_, hi⟩
    have h1 : (p ++ [w])[i - 1]? = some s := by
      rw [List.getElem?_append_left (by omega)]
      have := sp.lt
      rw [List.getLast?_eq_getElem?, lp] at this
      exact this
    rw [e3, List.getElem?_take, if_pos (by omega)] at h1
    exact h1
  · rw [if_neg c] at e
    exact .inl e
/-- the marks of neighbours -/
theorem mk_step (T : TreeL tr) {m : List Nat} (b : Bd tr m) {s w : Nat} (hs : s ≤ tr.length) (h : Adj tr s w) :
    mkN tr m w = mkN tr m s ∨ (mkN tr m w = mkN tr m s + 1 ∧ m[mkN tr m s - 1]? = some s ∧ m[mkN tr m s]? = some w) ∨ (mkN tr m s = mkN tr m w + 1 ∧ m[mkN tr m w - 1]? = some w ∧ m[mkN tr m w]? = some s) := by
  obtain ⟨p, sp, _⟩ := sw_ex T b.hle hs
  by_cases c : w ∈ p
  · obtain ⟨A, B, rfl⟩ := List.append_of_mem c
    have pre := sp.pre
    have hB : B ≠ [] := fun z => by
      have := sp.lt
      rw [z, List.getLast?_append] at this
      exact (T.adj_ne h) (Option.some.inj this).symm
    have hn : s ∉ A ++ [w] := fun z => by
      have lt := sp.lt
      rw [List.append_cons, List.getLast?_append] at lt
      have hm : s ∈ B := by
        cases e : B.getLast? with
        | none => exact absurd (List.getLast?_eq_none_iff.mp e) hB
        | some v =>
          rw [e] at lt
          cases lt
          exact List.mem_of_getLast? e
      have nd := sp.nd
      rw [List.append_cons] at nd
      exact (List.nodup_append.mp nd).2.2 s z s hm rfl
    rcases mk_on T b pre h.symm hn with e | e
    · exact .inl e.symm
    · exact .inr (.inr e)
  · rcases mk_on T b sp h c with e | e
    · exact .inl e
    · exact .inr (.inl e)
theorem order_head (T : TreeL tr) {m l : List Nat} (bm : Bd tr m) (b : Bd tr l) {w : Nat} (h : canM tr l (true, w) = true) (n1 : mkN tr m (hd0 l) ≠ mkN tr m (lt0 l)) (n2 : mkN tr m (hd0 (aft l (true, w))) ≠ mkN tr m (lt0 (aft l (true, w)))) :
    mkN tr m (hd0 l) < mkN tr m (lt0 l) ↔ mkN tr m (hd0 (aft l (true, w))) < mkN tr m (lt0 (aft l (true, w))) := by
  obtain ⟨hw1, hw2⟩ := List.mem_filter.mp (of_decide_eq_true h)
  have hw2 : w ∉ l := of_decide_eq_true hw2
  have ad : Adj tr (hd0 l) w := (mem_nb T.ne).mp hw1
  have two := b.two
  have e1 : hd0 (aft l (true, w)) = w := rfl
  have hlt : l[l.length - 1]? = some (lt0 l) := by
    have := b.sw.lt
    rwa [List.getLast?_eq_getElem?] at this
  have e2 : lt0 (aft l (true, w)) = l.getD (l.length - 2) 0 := by
    refine lt0_of ?_
    show (w :: l.dropLast).getLast? = _
    rw [List.getLast?_eq_getElem?, List.length_cons, List.length_dropLast, Nat.add_sub_cancel, show l.length - 1 = l.length - 2 + 1 by omega, List.getElem?_cons_succ, List.getElem?_dropLast, if_pos (by omega)]
    exact gD (by omega)
  have ad2 : Adj tr (l.getD (l.length - 2) 0) (lt0 l) := wk_at b.sw.wk (i := l.length - 2) (gD (by omega)) (by rw [show l.length - 2 + 1 = l.length - 1 by omega]; exact hlt)
  have le2 : l.getD (l.length - 2) 0 ≤ tr.length := b.le _ (List.mem_of_getElem? (gD (by omega)))
  rw [e1, e2] at n2 ⊢
  generalize l.getD (l.length - 2) 0 = t at ad2 le2 n2 ⊢
  have lin : lt0 l ∈ l := List.mem_of_getElem? hlt
  have wl : w ≠ lt0 l := fun z => hw2 (by rw [z]; exact lin)
  have s1 := mk_step T bm b.hle ad
  have s2 := mk_step T bm le2 ad2
  have p1 := mk_pos T bm b.hle
  have p2 := mk_pos T bm b.lle
  have p3 := mk_pos T bm le2
  have same : ∀ {i j : Nat}, i = j → m[i]? = some w → m[j]? = some (lt0 l) → False := fun {i j} e h1 h2 => by
    rw [e, h2] at h1
    exact wl (Option.some.inj h1).symm
  generalize mkN tr m (hd0 l) = A at *
  generalize mkN tr m (lt0 l) = B at *
  generalize mkN tr m w = A' at *
  generalize mkN tr m t = B' at *
  constructor
  · intro lt
    apply Decidable.byContradiction
    intro hn
    rcases s1 with s1 | ⟨s1, u1, u2⟩ | ⟨s1, u1, u2⟩
    · rcases s2 with s2 | ⟨s2, _⟩ | ⟨s2, _⟩ <;> omega
    · rcases s2 with s2 | ⟨s2, v1, v2⟩ | ⟨s2, _⟩
      · omega
      · exact same (by omega) u2 v2
      · omega
    · rcases s2 with s2 | ⟨s2, _⟩ | ⟨s2, _⟩ <;> omega
  · intro lt
    apply Decidable.byContradiction
    intro hn
    rcases s1 with s1 | ⟨s1, u1, u2⟩ | ⟨s1, u1, u2⟩
    · rcases s2 with s2 | ⟨s2, _⟩ | ⟨s2, _⟩ <;> omega
    · rcases s2 with s2 | ⟨s2, _⟩ | ⟨s2, _⟩ <;> omega
    · rcases s2 with s2 | ⟨s2, _⟩ | ⟨s2, v1, v2⟩
      · omega
      · omega
      · exact same (by omega) u1 v1
/-- the order of the marks stays in a move -/
theorem order_move (T : TreeL tr) {m l : List Nat} (bm : Bd tr m) {L : Nat} (dv : isDv tr L m = true) (b : Bd tr l) (len : l.length = L + 1) (free : pk tr l = none) {mv : Mv} (h : canM tr l mv = true) :
    mkN tr m (hd0 l) < mkN tr m (lt0 l) ↔ mkN tr m (hd0 (aft l mv)) < mkN tr m (lt0 (aft l mv)) := by
  obtain ⟨b2, l2⟩ := b.aft T h
  have n1 := mk_ne T bm dv b len free
  have n2 := mk_ne T bm dv b2 (by rw [l2, len]) (by rw [pk_class T b (.one h)]; exact free)
  obtain ⟨e, w⟩ := mv
  cases e with
  | true => exact order_head T bm b h n1 n2
  | false =>
    have ar := aft_rev (l := l) (e := false) (w := w)
    have h' : canM tr l.reverse (true, w) = true := (can_rev T (l := l) (e := false) (w := w)).trans h
    have ar : aft l.reverse (true, w) = (aft l (false, w)).reverse := ar
    have := order_head T bm b.rev h' (by rw [hd0_rev, lt0_rev]; exact n1.symm) (by rw [ar, hd0_rev, lt0_rev]; exact n2.symm)
    rw [ar, hd0_rev, lt0_rev, hd0_rev, lt0_rev] at this
    omega
/-- .. and along a run -/
theorem order_leads (T : TreeL tr) {m l l' : List Nat} (bm : Bd tr m) {L : Nat} (dv : isDv tr L m = true) (b : Bd tr l) (len : l.length = L + 1) (free : pk tr l = none) (h : Leads tr l l') :
    Bd tr l' ∧ (mkN tr m (hd0 l') < mkN tr m (lt0 l') ↔ mkN tr m (hd0 l) < mkN tr m (lt0 l)) ∧ (mkN tr m (lt0 l') < mkN tr m (hd0 l') ↔ mkN tr m (lt0 l) < mkN tr m (hd0 l)) := by
  obtain ⟨ms, ok, rfl⟩ := h
  have := leads_ind (tr := tr) (C := fun l' => Bd tr l' ∧ l'.length = L + 1 ∧ pk tr l' = none ∧ (mkN tr m (hd0 l) < mkN tr m (lt0 l) ↔ mkN tr m (hd0 l') < mkN tr m (lt0 l'))) (fun l1 mv ⟨b1, e1, f1, o1⟩ hm => by
    obtain ⟨b2, e2⟩ := b1.aft T hm
    exact ⟨b2, by rw [e2, e1], by rw [pk_class T b1 (.one hm)]; exact f1, o1.trans (order_move T bm dv b1 e1 f1 hm)⟩) ms l ok ⟨b, len, free, Iff.rfl⟩
  obtain ⟨b2, e2, f2, o2⟩ := this
  have n1 := mk_ne T bm dv b len free
  have n2 := mk_ne T bm dv b2 e2 f2
  exact ⟨b2, by omega, by omega⟩
end
end TR
namespace TR
section
variable {tr : List E2}
/-- the greatest path is at most as long as the way round -/
theorem tri (T : TreeL tr) {c a b : Nat} {p q r : List Nat} (h1 : SW tr c a p) (h2 : SW tr c b q) (h3 : SW tr a b r) : r.length + 1 ≤ p.length + q.length := by
  obtain ⟨d, s, p', q', rfl, rfl, k1, k2, k3⟩ := sw_part T p q c a b h1 h2
  rw [List.length_append, List.length_append]
  rcases k3 with rfl | rfl | ⟨x, y, hx, hy, ne⟩
  · have : d = a := Option.some.inj k1.lt
    subst this
    have := SW.uniq T k2 h3
    subst this
    rw [List.length_singleton]
    omega
  · have : d = b := Option.some.inj k2.lt
    subst this
    have := SW.uniq T k1.rev h3
    subst this
    rw [List.length_singleton, List.length_reverse]
    omega
  · have := SW.uniq T (sw_join T k1 k2 hx hy ne) h3
    subst this
    have := (List.getElem?_eq_some_iff.mp hy).1
    rw [List.length_append, List.length_reverse, List.length_tail]
    omega
theorem join_len (T : TreeL tr) {c a b x y : Nat} {p q r : List Nat} (h1 : SW tr c a p) (h2 : SW tr c b q) (hx : p[1]? = some x) (hy : q[1]? = some y) (ne : x ≠ y) (h3 : SW tr a b r) : r.length + 1 = p.length + q.length := by
  have := SW.uniq T (sw_join T h1 h2 hx hy ne) h3
  subst this
  have := (List.getElem?_eq_some_iff.mp hy).1
  rw [List.length_append, List.length_reverse, List.length_tail]
  omega
theorem sw_one {a b : Nat} {p : List Nat} (h : SW tr a b p) (hp : p[1]? = none) : p = [a] := by
  match p, h.hd, hp with
  | [u], h, _ => cases h; rfl
  | u :: v :: p, _, hp => cases hp
/-- two sweeps find a longest path -/
theorem far_two (T : TreeL tr) {e0 e1 m0 m1 : Nat} (h0 : FarE tr 0 e0 m0) (h1 : FarE tr e0 e1 m1) {a b : Nat} {p : List Nat} (ha : a ≤ tr.length) (sp : SW tr a b p) : p.length ≤ m1 := by
  obtain ⟨⟨l0, s0, e0l⟩, f0⟩ := h0
  obtain ⟨_, f1⟩ := h1
  have z0 : 0 ≤ tr.length := Nat.zero_le _
  have he0 : e0 ≤ tr.length := sw_le T s0 z0 _ s0.mem
  have hb : b ≤ tr.length := sw_le T sp ha _ sp.mem
  obtain ⟨pa, wa, _⟩ := sw_ex T he0 ha
  obtain ⟨pb, wb, _⟩ := sw_ex T he0 hb
  have la := f1 _ _ wa
  have lb := f1 _ _ wb
  obtain ⟨c, R, p', q', rfl, rfl, k1, k2, k3⟩ := sw_part T pa pb e0 a b wa wb
  rw [List.length_append] at la lb
  rcases k3 with rfl | rfl | ⟨x, y, hx, hy, ne⟩
  · have : c = a := Option.some.inj k1.lt
    subst this
    have := SW.uniq T k2 sp
    subst this
    omega
  · have : c = b := Option.some.inj k2.lt
    subst this
    have := SW.uniq T k1.rev sp
    subst this
    rw [List.length_reverse]
    omega
  · have lj := join_len T k1 k2 hx hy ne sp
    have hc : c ≤ tr.length := sw_le T wa he0 c (List.mem_append_right _ (List.mem_of_getElem? (sw_at0 k1)))
    obtain ⟨pr, wr, _⟩ := sw_ex T hc z0
    -- from the middle to e0
    have wc : SW tr e0 c (R ++ [c]) := by
      obtain ⟨t, rfl⟩ : ∃ t, p' = c :: t := by
        match p', k1.hd with
        | u :: t, h => cases h; exact ⟨t, rfl⟩
      exact wa.pre
    have t0 := tri T wr wc.rev s0
    rw [List.length_reverse, List.length_append, List.length_singleton] at t0
    have side : ∀ {v z : Nat} {q : List Nat}, SW tr c v q → q[1]? = some z → pr[1]? ≠ some z → q.length ≤ R.length + 1 := fun {v z q} w hz n => by
      have hv : v ≤ tr.length := sw_le T w hc _ w.mem
      obtain ⟨p0, w0, _⟩ := sw_ex T z0 hv
      have g := f0 _ _ w0
      cases e : pr[1]? with
      | none =>
        have e1 := sw_one wr e
        rw [e1] at wr t0
        have : c = 0 := Option.some.inj wr.lt
        subst this
        have := SW.uniq T w w0
        subst this
        rw [List.length_singleton] at t0
        omega
      | some u =>
        have := join_len T wr w e hz (fun q => n (by rw [e, q])) w0
        omega
    by_cases cx : pr[1]? = some x
    · have := side k2 hy (fun q => ne (Option.some.inj (cx.symm.trans q)))
      omega
    · have := side k1 hx cx
      omega
/-- a way into a branch -/
theorem way_ex (T : TreeL tr) {q w : Nat} (hw : Adj tr q w) : ∃ (p : List Nat) (a : Nat), SW tr q a p ∧ p[1]? = some w ∧ p.length = dph tr w q + 2 := by
  have hle := T.adj_le hw
  obtain ⟨p, a, sw, hl, hx⟩ := deep_ex T _ w q rfl hle.2 hw.symm
  have two : SW tr w q [w, q] := ⟨⟨hw.symm, trivial⟩, by simpa using (T.adj_ne hw).symm, rfl, rfl⟩
  by_cases c : 1 ≤ dph tr w q
  · obtain ⟨x, hx1, hx2⟩ := hx c
    have j := sw_join T two sw rfl hx1 hx2.symm
    refine ⟨_, a, j, ?_, ?_⟩
    · show (q :: w :: p.tail)[1]? = some w
      rfl
    · rw [List.length_append, List.length_reverse, List.length_tail, hl]
      show 2 + _ = _
      omega
  · have e : p = [w] := by
      have := sw.hd
      match p, hl, this with
      | [u], _, h => cases h; rfl
      | [], hl, _ => simp at hl
      | _ :: _ :: _, hl, _ => simp at hl; omega
    exact ⟨[q, w], w, two.rev, rfl, by show 2 = _; omega⟩
/-- how many branches of a station are deep -/
noncomputable def dpN (tr : List E2) (L s : Nat) : List Nat := (nb tr s).filter fun w => decide (L ≤ dph tr w s + 1)
theorem dpN_nd (T : TreeL tr) (L s : Nat) : (dpN tr L s).Nodup := (nb_nd T s).filter _
theorem dpN_mem (T : TreeL tr) {L s w : Nat} : w ∈ dpN tr L s ↔ Adj tr s w ∧ L ≤ dph tr w s + 1 := by
  unfold dpN
  rw [List.mem_filter, mem_nb T.ne, decide_eq_true_iff]
theorem two_of {l : List Nat} (nd : l.Nodup) (h : 2 ≤ l.length) : ∃ x y, x ∈ l ∧ y ∈ l ∧ x ≠ y := by
  match l, h, nd with
  | x :: y :: r, _, nd => exact ⟨x, y, by simp, by simp, fun z => (List.nodup_cons.mp nd).1 (by rw [z]; simp)⟩
section
variable {m : List Nat} {L : Nat}
/-- a short longest path: no station has two deep branches -/
theorem dv_none (T : TreeL tr) (mx : ∀ a b p, a ≤ tr.length → SW tr a b p → p.length ≤ m.length) (h : m.length ≤ 2 * L) {s : Nat} : (dpN tr L s).length ≤ 1 := by
  apply Decidable.byContradiction
  intro hn
  obtain ⟨x, y, hx, hy, ne⟩ := two_of (dpN_nd T L s) (by omega)
  obtain ⟨a1, d1⟩ := (dpN_mem T).mp hx
  obtain ⟨a2, d2⟩ := (dpN_mem T).mp hy
  obtain ⟨p, a, w1, e1, l1⟩ := way_ex T a1
  obtain ⟨q, b, w2, e2, l2⟩ := way_ex T a2
  have j := sw_join T w1 w2 e1 e2 ne
  have ha := sw_le T w1 (T.adj_le a1).1 _ w1.mem
  have := mx _ _ _ ha j
  have := join_len T w1 w2 e1 e2 ne j
  omega
theorem dv_both (T : TreeL tr) (b : Bd tr m) {i : Nat} (h1 : 1 ≤ i) (h2 : L ≤ i) (h3 : i + L < m.length) (hL : 1 ≤ L) : ∃ x s y, m[i - 1]? = some x ∧ m[i]? = some s ∧ m[i + 1]? = some y ∧ x ∈ dpN tr L s ∧ y ∈ dpN tr L s ∧ x ≠ y := by
  have g1 := gD (l := m) (i := i - 1) (by omega)
  have g2 := gD (l := m) (i := i) (by omega)
  have g3 := gD (l := m) (i := i + 1) (by omega)
  refine ⟨_, _, _, g1, g2, g3, ?_, ?_, ?_⟩
  · have ad := wk_at b.sw.wk (i := i - 1) g1 (by rw [show i - 1 + 1 = i by omega]; exact g2)
    have := nr_ge T b (k := i - 1) g1 (by rw [show i - 1 + 1 = i by omega]; exact g2)
    exact (dpN_mem T).mpr ⟨ad.symm, by omega⟩
  · have ad := wk_at b.sw.wk g2 g3
    have := fr_ge T b g2 g3
    exact (dpN_mem T).mpr ⟨ad, by omega⟩
  · intro z
    rw [z] at g1
    have := (List.getElem?_inj (by omega) b.sw.nd).mp (g1.trans g3.symm)
    omega
/-- no divide: a station has three deep branches -/
theorem dv_not (T : TreeL tr) (b : Bd tr m) (mx : ∀ a b p, a ≤ tr.length → SW tr a b p → p.length ≤ m.length) (hL : 1 ≤ L) (dv : isDv tr L m = false) : ∃ s, s ≤ tr.length ∧ 3 ≤ (dpN tr L s).length := by
  obtain ⟨s, w, hs, ad, hn, d⟩ : ∃ s w, s ∈ m ∧ Adj tr s w ∧ w ∉ m ∧ L ≤ dph tr w s + 1 := by
    apply Classical.byContradiction
    intro no
    have : isDv tr L m = true := decide_eq_true fun s hs w hw hn => by
      apply Decidable.byContradiction
      intro q
      exact no ⟨s, w, hs, (mem_nb T.ne).mp hw, hn, by omega⟩
    rw [dv] at this
    cases this
  obtain ⟨i, hi⟩ := List.mem_iff_getElem?.mp hs
  have lt := (List.getElem?_eq_some_iff.mp hi).1
  obtain ⟨p, a, w1, e1, l1⟩ := way_ex T ad
  have ha := sw_le T w1 (T.adj_le ad).1 _ w1.mem
  have side : ∀ {c : Nat} {q : List Nat}, SW tr s c q → (∀ z ∈ q, z ∈ m) → p.length + q.length ≤ m.length + 1 := fun {c q} wq hq => by
    cases e : q[1]? with
    | none =>
      have := sw_one wq e
      have := mx _ _ _ (T.adj_le ad).1 w1
      rw [sw_one wq e, List.length_singleton]
      omega
    | some u =>
      have ne : w ≠ u := fun z => hn (by rw [z]; exact hq u (List.mem_of_getElem? e))
      have j := sw_join T w1 wq e1 e ne
      have := join_len T w1 wq e1 e ne j
      have := mx _ _ _ ha j
      omega
  have s1 := side (b.sw.take hi).rev (fun z hz => List.mem_of_mem_take (List.mem_reverse.mp hz))
  have s2 := side (b.sw.drop hi) (fun z hz => List.mem_of_mem_drop hz)
  rw [List.length_reverse, List.length_take] at s1
  rw [List.length_drop] at s2
  obtain ⟨x, s', y, h1, h2, h3, h4, h5, ne⟩ := dv_both T b (i := i) (L := L) (by omega) (by omega) (by omega) hL
  cases hi.symm.trans h2
  refine ⟨s, b.le s hs, ?_⟩
  have : [w, x, y].Nodup := by
    have n1 : w ≠ x := fun z => hn (by rw [z]; exact List.mem_of_getElem? h1)
    have n2 : w ≠ y := fun z => hn (by rw [z]; exact List.mem_of_getElem? h3)
    simp [n1, n2, ne]
  have := this.length_le_of_subset (l₂ := dpN tr L s) fun z hz => by
    rcases List.mem_cons.mp hz with rfl | hz
    · exact (dpN_mem T).mpr ⟨ad, d⟩
    rcases List.mem_cons.mp hz with rfl | hz
    · exact h4
    · rw [List.mem_singleton.mp hz]
      exact h5
  exact this
end
end
end TR
namespace TR
section
variable {tr : List E2}
theorem clB_nil (T : TreeL tr) {l : List Nat} (b : Bd tr l) : clB tr l = [] ↔ pk tr l = none := by
  constructor
  · exact pk_none
  · intro h
    have b2 := b.two
    have br := brn_of T b
    have st0 : StI (nrB tr l) (frB tr l) (l.length - 1) 0 (l.length - 1) := .start (by omega)
    obtain ⟨n0, r, c, cm⟩ := clm_ex br (3 * (l.length - 1) + 2) 0 0 0 (l.length - 1) st0 (by decide) (by omega)
    have e := pk_clm T b cm
    cases c with
    | false =>
      rw [if_neg (by decide), h] at e
      cases e
    | true =>
      cases e2 : clB tr l with
      | nil => rfl
      | cons x s =>
        have hc := mem_clB.mp (show x ∈ clB tr l by rw [e2]; exact List.mem_cons_self)
        have := (clm_cl br hc cm st0 (Nat.zero_le _) hc.le).1
        cases this
end
end TR
namespace TR
section
variable {tr : List E2}
/-- a way of N stations from a station -/
structure Wy (tr : List E2) (N s : Nat) (q : List Nat) : Prop where
  sw : ∃ a, SW tr s a q
  len : q.length = N
theorem Wy.bd (T : TreeL tr) {N s : Nat} {q : List Nat} (h : Wy tr N s q) (hs : s ≤ tr.length) (hN : 2 ≤ N) : Bd tr q ∧ hd0 q = s := by
  obtain ⟨a, sw⟩ := h.sw
  have hl := h.len
  have ne : s ≠ a := fun z => by
    have h0 := sw_at0 sw
    have h1 := sw_atl sw
    exact sw_ne sw h0 h1 (by omega) z
  obtain ⟨b, e, _⟩ := sw_bd T sw hs ne
  exact ⟨b, e⟩
/-- a way into a deep branch -/
theorem wy_ex (T : TreeL tr) {L s w : Nat} (hw : w ∈ dpN tr L s) (hL : 1 ≤ L) : ∃ q, Wy tr (L + 1) s q ∧ q[1]? = some w := by
  obtain ⟨ad, d⟩ := (dpN_mem T).mp hw
  obtain ⟨p, a, sw, h1, hl⟩ := way_ex T ad
  obtain ⟨z, hz⟩ : ∃ z, p[L]? = some z := ⟨_, List.getElem?_eq_getElem (by omega)⟩
  refine ⟨p.take (L + 1), ⟨⟨z, sw.take hz⟩, by rw [List.length_take]; omega⟩, ?_⟩
  rw [List.getElem?_take, if_pos (by omega)]
  exact h1
/-- the train goes on along a way, as far as its last part -/
theorem wy_go (T : TreeL tr) {L : Nat} {m r q : List Nat} (b : Bd tr m) (len : m.length = L + 1) {a x y : Nat} (sw : SW tr (hd0 m) a (r ++ q)) (hq : q.length = L + 1) (hx : (r ++ q)[1]? = some x) (hy : m[1]? = some y) (ne : x ≠ y) : Leads tr m q.reverse := by
  have h := leads_way T b sw hx hy ne
  rw [len] at h
  have e : ((r ++ q).tail.reverse ++ m).take (L + 1) = q.reverse := by
    cases r with
    | nil =>
      have hh := sw.hd
      match q, hq, hh with
      | s :: q', hq, hh =>
        have es : s = hd0 m := Option.some.inj hh
        obtain ⟨u, m', em, _⟩ := bd_cons b.two
        subst em
        have es : s = u := es
        subst es
        have lq : q'.reverse.length = L := by rw [List.length_reverse]; simpa using hq
        show (q'.reverse ++ s :: m').take (L + 1) = (s :: q').reverse
        rw [List.reverse_cons, List.take_append, lq, List.take_of_length_le (by omega), show L + 1 - L = 1 by omega]
        rfl
    | cons u r' =>
      show ((r' ++ q).reverse ++ m).take (L + 1) = q.reverse
      rw [List.reverse_append, List.append_assoc, List.take_append_of_le_length (by rw [List.length_reverse]; omega), List.take_of_length_le (by rw [List.length_reverse]; omega)]
  rw [e] at h
  exact h
/-- from one branch into another -/
theorem wy_swap (T : TreeL tr) {L s x y : Nat} {p q : List Nat} (hs : s ≤ tr.length) (hL : 1 ≤ L) (hp : Wy tr (L + 1) s p) (hq : Wy tr (L + 1) s q) (h1 : p[1]? = some x) (h2 : q[1]? = some y) (ne : x ≠ y) : Leads tr p q.reverse := by
  obtain ⟨b, e⟩ := hp.bd T hs (by omega)
  obtain ⟨a, sw⟩ := hq.sw
  exact wy_go T (r := []) b hp.len (a := a) (by rw [e]; exact sw) hq.len h2 h1 (fun z => ne z.symm)
/-- a train whose head has a deep branch before it comes to each station with two deep branches -/
theorem wy_to (T : TreeL tr) {L t y : Nat} {m : List Nat} (b : Bd tr m) (len : m.length = L + 1) (hL : 1 ≤ L) (hy : m[1]? = some y) (deep : L ≤ dph tr (hd0 m) y) (ht : t ≤ tr.length) (two : 2 ≤ (dpN tr L t).length) :
    ∃ q, Wy tr (L + 1) t q ∧ (Leads tr m q ∨ Leads tr m q.reverse) := by
  have hv := b.hle
  obtain ⟨x, hx, nx, ex⟩ : ∃ x, x ∈ nb tr (hd0 m) ∧ x ≠ y ∧ dph tr (hd0 m) y = dph tr x (hd0 m) + 1 := by
    rcases dph_ex (b := y) T hv with h | h
    · omega
    · exact h
  have dx : x ∈ dpN tr L (hd0 m) := (dpN_mem T).mpr ⟨(mem_nb T.ne).mp hx, by omega⟩
  obtain ⟨qx, wx, hqx⟩ := wy_ex T dx hL
  obtain ⟨ax, swx⟩ := wx.sw
  have gx : Leads tr m qx.reverse := wy_go T (r := []) b len (a := ax) swx wx.len hqx hy nx
  by_cases c : hd0 m = t
  · exact ⟨qx, by rw [← c]; exact wx, .inr gx⟩
  obtain ⟨r, sr, _⟩ := sw_ex T hv ht
  have r2 := sw_two sr c
  obtain ⟨u, hu⟩ : ∃ u, r[1]? = some u := ⟨_, List.getElem?_eq_getElem (by omega)⟩
  obtain ⟨o, ho⟩ : ∃ o, r.reverse[1]? = some o := ⟨_, List.getElem?_eq_getElem (by rw [List.length_reverse]; omega)⟩
  obtain ⟨z, hz, no⟩ : ∃ z, z ∈ dpN tr L t ∧ o ≠ z := by
    obtain ⟨z1, z2, h1, h2, ne⟩ := two_of (dpN_nd T L t) two
    by_cases e : o = z1
    · exact ⟨z2, h2, fun e2 => ne (e.symm.trans e2)⟩
    · exact ⟨z1, h1, e⟩
  obtain ⟨q, wq, hq1⟩ := wy_ex T hz hL
  obtain ⟨a, sq⟩ := wq.sw
  have j := sw_join T sr.rev sq ho hq1 no
  rw [List.reverse_reverse] at j
  obtain ⟨r', er⟩ : ∃ r', r = r' ++ [t] := by
    have := sr.lt
    rw [List.getLast?_eq_some_iff] at this
    exact this
  have ej : r ++ q.tail = r' ++ q := by
    match q, sq.hd with
    | s :: q', hh =>
      have : s = t := Option.some.inj hh
      subst this
      rw [er, List.append_assoc]
      rfl
  rw [ej] at j
  have hu2 : (r' ++ q)[1]? = some u := by
    rw [← ej, List.getElem?_append_left (by omega)]
    exact hu
  by_cases cu : u = y
  · have ne : u ≠ x := fun z => nx (z.symm.trans cu)
    obtain ⟨bq, eq⟩ := wx.bd T hv (by omega)
    have g2 := wy_go T (r := r') (q := q) bq wx.len (a := a) (by rw [eq]; exact j) wq.len hu2 hqx ne
    have g3 := g2.rev T
    rw [List.reverse_reverse] at g3
    exact ⟨q, wq, .inl (gx.trans g3)⟩
  · exact ⟨q, wq, .inr (wy_go T (r := r') b len (a := a) j wq.len hu2 hy cu)⟩
/-- a free train has a body with a deep branch before its head, or behind its tail -/
theorem free_deep (T : TreeL tr) {L : Nat} {l : List Nat} (b : Bd tr l) (len : l.length = L + 1) (free : pk tr l = none) :
    (∃ m y, Leads tr l m ∧ m[1]? = some y ∧ L ≤ dph tr (hd0 m) y) ∨ ∃ m y, Leads tr l.reverse m ∧ m[1]? = some y ∧ L ≤ dph tr (hd0 m) y := by
  rcases pk_cases T b with ⟨_, i, j, st, wf, wt, h⟩ | ⟨p, q, h, _⟩
  · have eL : l.length - 1 = L := by omega
    rw [eL] at st
    have h1 := st.lt
    have h2 := st.le
    have key : ∀ {k : List Nat} {i j : Nat}, i < j → j < k.length → WF tr k i j → L ≤ nrB tr k i → ∃ m y, Leads tr k m ∧ m[1]? = some y ∧ L ≤ dph tr (hd0 m) y := fun {k i j} h1 h2 wf hd => by
      obtain ⟨m, hm, e⟩ := wf
      obtain ⟨e0, e1⟩ := wf_at h1 h2 e
      refine ⟨m, _, hm, e1, ?_⟩
      have : hd0 m = k.getD i 0 := by
        unfold hd0
        rw [List.headD_eq_head?_getD, List.head?_eq_getElem?, e0]
        rfl
      rw [this]
      exact hd
    rcases h with h | h
    · exact .inl (key h1 (by omega) wf (by omega))
    · have w2 := rev_wf T b h1 (by omega) wt
      refine .inr (key (by omega) (by rw [List.length_reverse]; omega) w2 ?_)
      rw [nrB_rev (by omega), show l.length - 1 - (l.length - 1 - j) = j by omega]
      omega
  · rw [free] at h
    cases h
theorem free_to (T : TreeL tr) {L t : Nat} {l : List Nat} (b : Bd tr l) (len : l.length = L + 1) (free : pk tr l = none) (ht : t ≤ tr.length) (two : 2 ≤ (dpN tr L t).length) :
    ∃ q, Wy tr (L + 1) t q ∧ (Leads tr l q ∨ Leads tr l q.reverse) := by
  have hL : 1 ≤ L := by have := b.two; omega
  rcases free_deep T b len free with ⟨m, y, hm, hy, d⟩ | ⟨m, y, hm, hy, d⟩
  · obtain ⟨bm, ml⟩ := hm.bd T b
    obtain ⟨q, wq, h⟩ := wy_to T bm (ml.trans len) hL hy d ht two
    exact ⟨q, wq, h.imp (hm.trans ·) (hm.trans ·)⟩
  · obtain ⟨bm, ml⟩ := hm.bd T b.rev
    rw [List.length_reverse] at ml
    obtain ⟨q, wq, h⟩ := wy_to T bm (ml.trans len) hL hy d ht two
    refine ⟨q, wq, ?_⟩
    rcases h with h | h
    · have := (hm.trans h).rev T
      rw [List.reverse_reverse] at this
      exact .inr this
    · have := (hm.trans h).rev T
      rw [List.reverse_reverse, List.reverse_reverse] at this
      exact .inl this
/-- the ways from a station with two deep branches: one class or its exchanged one -/
theorem wy_norm (T : TreeL tr) {L t : Nat} {c q : List Nat} (ht : t ≤ tr.length) (hL : 1 ≤ L) (two : 2 ≤ (dpN tr L t).length) (hc : Wy tr (L + 1) t c) (hq : Wy tr (L + 1) t q) : Leads tr q c ∨ Leads tr q c.reverse := by
  obtain ⟨x, hx⟩ : ∃ x, c[1]? = some x := ⟨_, List.getElem?_eq_getElem (by rw [hc.len]; omega)⟩
  obtain ⟨y, hy⟩ : ∃ y, q[1]? = some y := ⟨_, List.getElem?_eq_getElem (by rw [hq.len]; omega)⟩
  by_cases e : x = y
  · obtain ⟨z, hz, ne⟩ : ∃ z, z ∈ dpN tr L t ∧ z ≠ x := by
      obtain ⟨z1, z2, h1, h2, ne⟩ := two_of (dpN_nd T L t) two
      by_cases e : z1 = x
      · exact ⟨z2, h2, fun e2 => ne (e.trans e2.symm)⟩
      · exact ⟨z1, h1, e⟩
    obtain ⟨w, hw, w1⟩ := wy_ex T hz hL
    have g1 := wy_swap T ht hL hq hw hy w1 (fun z => ne (z.symm.trans e.symm))
    have g2 := wy_swap T ht hL hc hw hx w1 (fun z => ne z.symm)
    exact .inl (g1.trans (g2.symm T (hc.bd T ht (by omega)).1))
  · exact .inr (wy_swap T ht hL hq hc hy hx (fun z => e z.symm))
/-- a station with three deep branches: the train turns round -/
theorem wy_turn (T : TreeL tr) {L t : Nat} {c : List Nat} (ht : t ≤ tr.length) (hL : 1 ≤ L) (three : 3 ≤ (dpN tr L t).length) (hc : Wy tr (L + 1) t c) : Leads tr c c.reverse := by
  obtain ⟨x, hx⟩ : ∃ x, c[1]? = some x := ⟨_, List.getElem?_eq_getElem (by rw [hc.len]; omega)⟩
  have nd : ((dpN tr L t).erase x).Nodup := (dpN_nd T L t).erase x
  have le : 2 ≤ ((dpN tr L t).erase x).length := by
    rw [List.length_erase]
    split <;> omega
  obtain ⟨y, z, hy, hz, ne⟩ := two_of nd le
  have hy2 := ((dpN_nd T L t).mem_erase_iff).mp hy
  have hz2 := ((dpN_nd T L t).mem_erase_iff).mp hz
  obtain ⟨q, wq, q1⟩ := wy_ex T hy2.2 hL
  obtain ⟨r, wr, r1⟩ := wy_ex T hz2.2 hL
  have g1 := wy_swap T ht hL hc wq hx q1 (fun e => hy2.1 e.symm)
  have g2 := (wy_swap T ht hL wq wr q1 r1 ne).rev T
  rw [List.reverse_reverse] at g2
  have g3 := wy_swap T ht hL wr hc r1 hx hz2.1
  exact (g1.trans g2).trans g3
/-- one free class and its exchanged one -/
theorem free_can (T : TreeL tr) {L t : Nat} {c l : List Nat} (b : Bd tr l) (len : l.length = L + 1) (free : pk tr l = none) (ht : t ≤ tr.length) (two : 2 ≤ (dpN tr L t).length) (hc : Wy tr (L + 1) t c) : Leads tr l c ∨ Leads tr l c.reverse := by
  have hL : 1 ≤ L := by have := b.two; omega
  obtain ⟨q, wq, h⟩ := free_to T b len free ht two
  have n := wy_norm T ht hL two hc wq
  rcases h with h | h
  · exact n.imp (h.trans ·) (h.trans ·)
  · rcases n with n | n
    · exact .inr (h.trans (n.rev T))
    · refine .inl (h.trans ?_)
      have := n.rev T
      rw [List.reverse_reverse] at this
      exact this
/-- with a station of three deep branches all free trains are in one class -/
theorem free_pivot (T : TreeL tr) {L t : Nat} {l m : List Nat} (b : Bd tr l) (len : l.length = L + 1) (free : pk tr l = none) (b2 : Bd tr m) (len2 : m.length = L + 1) (free2 : pk tr m = none) (ht : t ≤ tr.length) (three : 3 ≤ (dpN tr L t).length) : Leads tr l m := by
  have hL : 1 ≤ L := by have := b.two; omega
  obtain ⟨x, _, hx, _⟩ := two_of (dpN_nd T L t) (by omega)
  obtain ⟨c, wc, _⟩ := wy_ex T hx hL
  have tn := wy_turn T ht hL three wc
  have bc := (wc.bd T ht (by omega)).1
  have one : ∀ {k : List Nat}, Bd tr k → k.length = L + 1 → pk tr k = none → Leads tr k c := fun {k} b l f => by
    rcases free_can T b l f ht (by omega) wc with h | h
    · exact h
    · exact h.trans (tn.symm T bc)
  exact (one b len free).trans ((one b2 len2 free2).symm T b2)
/-- where there is a free train there is a station with two deep branches -/
theorem free_trunk (T : TreeL tr) {L : Nat} {l : List Nat} (b : Bd tr l) (len : l.length = L + 1) (free : pk tr l = none) : ∃ t, t ≤ tr.length ∧ 2 ≤ (dpN tr L t).length := by
  have b2 := b.two
  have eL : l.length - 1 = L := by omega
  refine Classical.byContradiction fun no => ?_
  have one : ∀ {s x y : Nat}, s ≤ tr.length → x ∈ dpN tr L s → y ∈ dpN tr L s → x = y := fun {s x y} hs hx hy => by
    refine Classical.byContradiction fun ne => no ⟨s, hs, ?_⟩
    match hd : dpN tr L s with
    | [] => rw [hd] at hx; cases hx
    | [a] =>
      rw [hd] at hx hy
      exact absurd ((List.mem_singleton.mp hx).trans (List.mem_singleton.mp hy).symm) ne
    | a :: b :: r => simp
  -- the least place with a deep branch before it
  obtain ⟨k, k1, k2, hk, mn⟩ : ∃ k, 1 ≤ k ∧ k ≤ L ∧ L ≤ dph tr (l.getD (k - 1) 0) (l.getD k 0) + 1 ∧ ∀ j, 1 ≤ j → j < k → ¬ L ≤ dph tr (l.getD (j - 1) 0) (l.getD j 0) + 1 := by
    have ex : ∃ n, 1 ≤ n ∧ n ≤ L ∧ L ≤ dph tr (l.getD (n - 1) 0) (l.getD n 0) + 1 := by
      refine ⟨L, by omega, Nat.le_refl _, ?_⟩
      have h := nr_ge T b (k := L - 1) (gD (by omega)) (q := l.getD L 0) (by rw [show L - 1 + 1 = L by omega]; exact gD (by omega))
      omega
    obtain ⟨n0, hn0⟩ := ex
    obtain ⟨n, hn, mn⟩ := ex_min (P := fun n => 1 ≤ n ∧ n ≤ L ∧ L ≤ dph tr (l.getD (n - 1) 0) (l.getD n 0) + 1) n0 hn0
    exact ⟨n, hn.1, hn.2.1, hn.2.2, fun j h1 h2 h3 => mn j h2 ⟨h1, by have := hn.2.1; omega, h3⟩⟩
  have ga := gD (l := l) (i := k - 1) (by omega)
  have gb := gD (l := l) (i := k) (by omega)
  have bk : L ≤ dph tr (l.getD k 0) (l.getD (k - 1) 0) + 1 := by
    by_cases c : k = 1
    · subst c
      have := fr_ge T b (k := 0) (q := l.getD 0 0) (gD (by omega)) (y := l.getD 1 0) (gD (by omega))
      show L ≤ dph tr (l.getD 1 0) (l.getD 0 0) + 1
      omega
    · refine Classical.byContradiction fun z => ?_
      refine held T b (k := k - 2) (x := l.getD (k - 2) 0) (q := l.getD (k - 1) 0) (y := l.getD k 0) (gD (by omega)) (by rw [show k - 2 + 1 = k - 1 by omega]; exact ga) (by rw [show k - 2 + 2 = k by omega]; exact gb) ?_ (by omega) free
      have := mn (k - 1) (by omega) (by omega)
      rw [show k - 1 - 1 = k - 2 by omega] at this
      omega
  have ad : Adj tr (l.getD (k - 1) 0) (l.getD k 0) := wk_at b.sw.wk ga (by rw [show k - 1 + 1 = k by omega]; exact gb)
  have al := T.adj_le ad
  have sh : ∀ {u v : Nat}, Adj tr u v → L ≤ dph tr v u + 1 → dph tr u v ≤ L - 1 := fun {u v} ad d => by
    rcases dph_ex (b := v) T (T.adj_le ad).1 with h | ⟨w, hw, nw, e⟩
    · omega
    · have : ¬ L ≤ dph tr w u + 1 := fun z => nw (one (T.adj_le ad).1 ((dpN_mem T).mpr ⟨(mem_nb T.ne).mp hw, z⟩) ((dpN_mem T).mpr ⟨ad, d⟩))
      omega
  have d1 := sh ad bk
  have d2 := sh ad.sym hk
  have cl : Cl (nrB tr l) (frB tr l) (l.length - 1) (k - 1) k := by
    refine ⟨by omega, by omega, ?_, ?_⟩
    · show dph tr (l.getD (k - 1) 0) (l.getD (k - 1 + 1) 0) + _ ≤ _
      rw [show k - 1 + 1 = k by omega]
      omega
    · show dph tr (l.getD k 0) (l.getD (k - 1) 0) + _ ≤ _
      omega
  have : (k - 1, k) ∈ clB tr l := mem_clB.mpr cl
  rw [(clB_nil T b).mpr free] at this
  cases this
/-- what goes from a station with two deep branches is free -/
theorem wy_free (T : TreeL tr) {L t : Nat} {c : List Nat} (ht : t ≤ tr.length) (hL : 1 ≤ L) (two : 2 ≤ (dpN tr L t).length) (hc : Wy tr (L + 1) t c) : pk tr c = none := by
  obtain ⟨b, e⟩ := hc.bd T ht (by omega)
  obtain ⟨x, hx⟩ : ∃ x, c[1]? = some x := ⟨_, List.getElem?_eq_getElem (by rw [hc.len]; omega)⟩
  obtain ⟨z, hz, ne⟩ : ∃ z, z ∈ dpN tr L t ∧ z ≠ x := by
    obtain ⟨z1, z2, h1, h2, ne⟩ := two_of (dpN_nd T L t) two
    by_cases e : z1 = x
    · exact ⟨z2, h2, fun e2 => ne (e.trans e2.symm)⟩
    · exact ⟨z1, h1, e⟩
  obtain ⟨q, wq, q1⟩ := wy_ex T hz hL
  have g := wy_swap T ht hL hc wq hx q1 (fun z => ne z.symm)
  cases hp : pk tr c with
  | none => rfl
  | some uv =>
    obtain ⟨i, j, h1, h2, _, _, all, _⟩ := pk_common T b (u := uv.1) (v := uv.2) hp
    have on : ∀ s, s ∈ prt c i j → s = t := fun s hs => by
      have m1 := (all s).mpr hs c (.refl c)
      have m2 := List.mem_reverse.mp ((all s).mpr hs q.reverse g)
      refine Classical.byContradiction fun ns => ?_
      obtain ⟨a1, s1⟩ := hc.sw
      obtain ⟨a2, s2⟩ := wq.sw
      have j2 := sw_join T s1 s2 hx q1 (fun z => ne z.symm)
      have n1 : s ∈ q.tail := by
        match q, s2.hd, m2 with
        | u :: q', hh, m2 =>
          have eu : u = t := Option.some.inj hh
          rcases List.mem_cons.mp m2 with h | h
          · exact absurd (h.trans eu) ns
          · exact h
      exact (List.nodup_append.mp j2.nd).2.2 s (List.mem_reverse.mpr m1) s n1 rfl
    have p1 : c.getD i 0 ∈ prt c i j := by
      unfold prt
      refine List.mem_iff_getElem?.mpr ⟨0, ?_⟩
      rw [List.getElem?_take, if_pos (by omega), List.getElem?_drop, Nat.add_zero]
      exact gD (by omega)
    have p2 : c.getD j 0 ∈ prt c i j := by
      unfold prt
      refine List.mem_iff_getElem?.mpr ⟨j - i, ?_⟩
      rw [List.getElem?_take, if_pos (by omega), List.getElem?_drop, show i + (j - i) = j by omega]
      exact gD (by omega)
    have e1 := on _ p1
    have e2 := on _ p2
    have := (List.getElem?_inj (i := i) (j := j) (by omega) b.sw.nd).mp (by rw [gD (by omega), gD h2, e1, e2])
    omega
end
end TR
namespace TR
section
variable {tr : List E2}
/-- u stands before v on a body -/
def HasC (l : List Nat) (u v : Nat) : Prop := ∃ p q, p < q ∧ q < l.length ∧ l.getD p 0 = u ∧ l.getD q 0 = v
def hasB (l : List Nat) (u v : Nat) : Bool := decide (u ∈ l) && (decide (v ∈ l) && decide (l.idxOf u < l.idxOf v))
theorem idx_at {l : List Nat} (nd : l.Nodup) {p u : Nat} (hp : p < l.length) (e : l.getD p 0 = u) : l.idxOf u = p := by
  have g := gD hp
  rw [e] at g
  have hm : u ∈ l := List.mem_of_getElem? g
  have lt : l.idxOf u < l.length := List.idxOf_lt_length_of_mem hm
  exact (List.getElem?_inj lt nd).mp (by rw [g, List.getElem?_eq_getElem lt, List.getElem_idxOf])
theorem has_iff {l : List Nat} (nd : l.Nodup) {u v : Nat} : hasB l u v = true ↔ HasC l u v := by
  unfold hasB
  rw [Bool.and_eq_true, Bool.and_eq_true, decide_eq_true_iff, decide_eq_true_iff, decide_eq_true_iff]
  constructor
  · rintro ⟨h1, h2, h3⟩
    have l2 := List.idxOf_lt_length_of_mem h2
    have l1 := List.idxOf_lt_length_of_mem h1
    exact ⟨l.idxOf u, l.idxOf v, h3, l2, gD_of (by rw [List.getElem?_eq_getElem l1, List.getElem_idxOf]), gD_of (by rw [List.getElem?_eq_getElem l2, List.getElem_idxOf])⟩
  · rintro ⟨p, q, h1, h2, rfl, rfl⟩
    have e1 := idx_at nd (show p < l.length by omega) rfl
    have e2 := idx_at nd h2 rfl
    exact ⟨List.mem_of_getElem? (gD (by omega)), List.mem_of_getElem? (gD h2), by omega⟩
/-- a clamp of one body holds another one on which its stations stand so -/
theorem cl_has (T : TreeL tr) {l m : List Nat} (b : Bd tr l) (c : Bd tr m) (e : m.length = l.length) {p q i j : Nat} (h : Cl (nrB tr l) (frB tr l) (l.length - 1) p q) (hij : i < j) (hj : j < m.length) (e1 : m.getD i 0 = l.getD p 0) (e2 : m.getD j 0 = l.getD q 0) :
    Cl (nrB tr m) (frB tr m) (m.length - 1) i j ∧ j - i = q - p := by
  have h1 := h.lt
  have h2 := h.le
  have b2 := b.two
  have q1 := prt_pl T b h1 (show q < l.length by omega)
  have q2 := prt_pl T c hij hj
  rw [e1, e2, ← q1] at q2
  have l1 := prt_len h1 (show q < l.length by omega)
  have l2 := prt_len hij hj
  rw [q2, l1] at l2
  have d : j - i = q - p := by omega
  have at_ : ∀ k, k ≤ q - p → m.getD (i + k) 0 = l.getD (p + k) 0 := fun k hk => by
    have a1 := prt_at (l := l) (i := p) (j := q) (k := k) (by omega)
    have a2 := prt_at (l := m) (i := i) (j := j) (k := k) (by omega)
    rw [q2, a1] at a2
    rw [gD (by omega), gD (by omega)] at a2
    exact (Option.some.inj a2).symm
  refine ⟨⟨hij, by omega, ?_, ?_⟩, d⟩
  · have n := h.n
    unfold nrB at n ⊢
    rw [e1, at_ 1 (by omega), d, e]
    exact n
  · have n := h.f
    unfold frB at n ⊢
    have e3 := at_ (q - p - 1) (by omega)
    rw [show i + (q - p - 1) = j - 1 by omega, show p + (q - p - 1) = q - 1 by omega] at e3
    rw [e2, e3, d, e]
    exact n
/-- the pocket, as places -/
theorem pk_at (T : TreeL tr) {l : List Nat} (b : Bd tr l) {c : E2} (h : pk tr l = some c) : ∃ p q, Big (clB tr l) (p, q) ∧ q < l.length ∧ p < q ∧ l.getD p 0 = c.1 ∧ l.getD q 0 = c.2 := by
  by_cases hx : ∃ x, Big (clB tr l) x
  · obtain ⟨⟨p, q⟩, hb⟩ := hx
    have e := pk_some hb
    rw [h] at e
    have e := Option.some.inj e
    have cl := mem_clB.mp hb.1
    have h1 := cl.lt
    have h2 := cl.le
    have b2 := b.two
    exact ⟨p, q, hb, by simp only at h2; omega, h1, by rw [e], by rw [e]⟩
  · unfold pk at h
    rw [dif_neg hx] at h
    cases h
/-- a body with a clamp has a pocket around it -/
theorem pk_around (T : TreeL tr) {l : List Nat} (b : Bd tr l) {i j : Nat} (h : Cl (nrB tr l) (frB tr l) (l.length - 1) i j) : ∃ c p q, pk tr l = some c ∧ Big (clB tr l) (p, q) ∧ p ≤ i ∧ j ≤ q ∧ l.getD p 0 = c.1 ∧ l.getD q 0 = c.2 := by
  have hm : (i, j) ∈ clB tr l := mem_clB.mpr h
  cases hp : pk tr l with
  | none =>
    rw [(clB_nil T b).mpr hp] at hm
    cases hm
  | some c =>
    obtain ⟨p, q, hb, _, _, h3, h4⟩ := pk_at T b hp
    have := hb.2 _ hm
    exact ⟨c, p, q, rfl, hb, this.1, this.2, h3, h4⟩
/-- two bodies with different pockets: one of the pockets is a clamp of one of them alone -/
theorem pk_pick (T : TreeL tr) {l m : List Nat} (b : Bd tr l) (c : Bd tr m) (e : m.length = l.length) (ne : pk tr l ≠ pk tr m) (h : ∀ x, pk tr l = some x → HasC m x.1 x.2) : ∃ y, pk tr m = some y ∧ ¬ HasC l y.1 y.2 := by
  have clm : ∀ {l m : List Nat}, Bd tr l → Bd tr m → m.length = l.length → ∀ {x : E2}, pk tr l = some x → HasC m x.1 x.2 → ∃ p q i j, Big (clB tr l) (p, q) ∧ l.getD p 0 = x.1 ∧ l.getD q 0 = x.2 ∧ q < l.length ∧ Cl (nrB tr m) (frB tr m) (m.length - 1) i j ∧ m.getD i 0 = x.1 ∧ m.getD j 0 = x.2 ∧ j - i = q - p :=
    fun {l m} b c e {x} hx ⟨i, j, h1, h2, h3, h4⟩ => by
      obtain ⟨p, q, hb, hq, hpq, g1, g2⟩ := pk_at T b hx
      obtain ⟨k1, k2⟩ := cl_has T b c e (mem_clB.mp hb.1) h1 h2 (by rw [h3, g1]) (by rw [h4, g2])
      exact ⟨p, q, i, j, hb, g1, g2, hq, k1, h3, h4, k2⟩
  cases hl : pk tr l with
  | none =>
    cases hm : pk tr m with
    | none => exact absurd (hl.trans hm.symm) ne
    | some y =>
      refine ⟨y, rfl, fun hy => ?_⟩
      obtain ⟨p, q, i, j, _, _, _, _, cl, _⟩ := clm c b e.symm hm hy
      obtain ⟨z, _, _, hz, _⟩ := pk_around T b cl
      rw [hl] at hz
      cases hz
  | some x =>
    obtain ⟨p, q, i, j, hb, g1, g2, hq, cl, e1, e2, d⟩ := clm b c e hl (h x hl)
    obtain ⟨y, p', q', hy, hb', n1, n2, f1, f2⟩ := pk_around T c cl
    refine ⟨y, hy, fun hh => ?_⟩
    obtain ⟨p2, q2, i2, j2, hb2, f3, f4, hq2, cl2, e3, e4, d2⟩ := clm c b e.symm hy hh
    obtain ⟨x', p3, q3, hx', hb3, n3, n4, f5, f6⟩ := pk_around T b cl2
    have u1 := Big.uniq hb2 hb'
    have u2 := Big.uniq hb3 hb
    cases u1
    cases u2
    have k1 := cl.lt
    have k2 := cl2.lt
    have k3 := (mem_clB.mp hb.1).lt
    have k4 := (mem_clB.mp hb'.1).lt
    simp only at k3 k4
    have ei : p' = i := by omega
    have ej : q' = j := by omega
    refine ne ?_
    rw [hl, hy]
    congr 1
    refine Prod.ext ?_ ?_
    · rw [← e1, ← f1, ei]
    · rw [← e2, ← f2, ej]
/-- free trains of one length on a railway with a divide -/
theorem free_dec (T : TreeL tr) {L : Nat} {d l m : List Nat} (bd : Bd tr d) (dv : isDv tr L d = true) (b : Bd tr l) (len : l.length = L + 1) (free : pk tr l = none) (b2 : Bd tr m) (len2 : m.length = L + 1) (free2 : pk tr m = none) :
    Leads tr l m ↔ (mkN tr d (hd0 l) < mkN tr d (lt0 l) ↔ mkN tr d (hd0 m) < mkN tr d (lt0 m)) := by
  constructor
  · intro h
    exact (order_leads T bd dv b len free h).2.1.symm
  · intro ord
    obtain ⟨t, ht, two⟩ := free_trunk T b len free
    have hL : 1 ≤ L := by have := b.two; omega
    obtain ⟨x, _, hx, _⟩ := two_of (dpN_nd T L t) two
    obtain ⟨c, wc, _⟩ := wy_ex T hx hL
    have bc := (wc.bd T ht (by omega)).1
    have fc := wy_free T ht hL two wc
    have ne := mk_ne T bd dv bc wc.len fc
    have h1 := free_can T b len free ht two wc
    have h2 := free_can T b2 len2 free2 ht two wc
    have o1 : ∀ {k : List Nat}, Bd tr k → k.length = L + 1 → pk tr k = none → Leads tr k c → (mkN tr d (hd0 k) < mkN tr d (lt0 k) ↔ mkN tr d (hd0 c) < mkN tr d (lt0 c)) := fun {k} b l f h => (order_leads T bd dv b l f h).2.1.symm
    have o2 : ∀ {k : List Nat}, Bd tr k → k.length = L + 1 → pk tr k = none → Leads tr k c.reverse → (mkN tr d (hd0 k) < mkN tr d (lt0 k) ↔ mkN tr d (lt0 c) < mkN tr d (hd0 c)) := fun {k} b l f h => by
      have := (order_leads T bd dv b l f h).2.1.symm
      rw [hd0_rev, lt0_rev] at this
      exact this
    rcases h1 with h1 | h1
    · rcases h2 with h2 | h2
      · exact h1.trans (h2.symm T b2)
      · have a1 := o1 b len free h1
        have a2 := o2 b2 len2 free2 h2
        by_cases cc : mkN tr d (hd0 c) < mkN tr d (lt0 c)
        · have := a2.mp (ord.mp (a1.mpr cc))
          omega
        · have : mkN tr d (lt0 c) < mkN tr d (hd0 c) := by omega
          exact absurd (a1.mp (ord.mpr (a2.mpr this))) cc
    · rcases h2 with h2 | h2
      · have a1 := o2 b len free h1
        have a2 := o1 b2 len2 free2 h2
        by_cases cc : mkN tr d (hd0 c) < mkN tr d (lt0 c)
        · have := a1.mp (ord.mpr (a2.mpr cc))
          omega
        · have : mkN tr d (lt0 c) < mkN tr d (hd0 c) := by omega
          exact absurd (a2.mp (ord.mp (a1.mpr this))) cc
      · exact h1.trans (h2.symm T b2)
/-- .. and where the longest path is none -/
theorem free_nodiv (T : TreeL tr) {L : Nat} {d l m : List Nat} (mx : ∀ a b p, a ≤ tr.length → SW tr a b p → p.length ≤ d.length) (bd : 2 ≤ d.length → Bd tr d) (no : d.length ≤ 2 * L ∨ isDv tr L d = false) (b : Bd tr l) (len : l.length = L + 1) (free : pk tr l = none) (b2 : Bd tr m) (len2 : m.length = L + 1) (free2 : pk tr m = none) : Leads tr l m := by
  obtain ⟨t, ht, two⟩ := free_trunk T b len free
  have hL : 1 ≤ L := by have := b.two; omega
  by_cases c : d.length ≤ 2 * L
  · have := dv_none T mx c (s := t)
    omega
  · obtain ⟨s, hs, h3⟩ := dv_not T (bd (by omega)) mx hL (no.resolve_left c)
    exact free_pivot T b len free b2 len2 free2 hs h3
end
end TR
namespace L2.TT
open PySem PySem.Spec PyProof.Rows
/-- t.index(z), a tuple of ints -/
def rTIx (K : PySem.W.Frag) : V → List V → Hp → VK → Prop := fun x xs H Q => ∃ (p : Addr) (ys : List Int) (z : Int) (j : Nat), x = .ref p ∧ xs = [.int z] ∧ SqT K H p (ys.map V.int) ∧ ys[j]? = some z ∧ (∀ m, m < j → ys[m]? ≠ some z) ∧ Q (.int (j : Nat)) H
theorem flat_ints1 (ys : List Int) : (ys.map V.int).all flatV = true := by
  rw [List.all_map, List.all_eq_true]
  exact fun _ _ => rfl
theorem mt_tix {X : Cx} : MtR X "tuple.index" (rTIx X.K) := by
  intro pins s σ H x xs v us Q I rx rs h
  obtain ⟨p, ys, z, j, rfl, rfl, hq, hy, hno, q⟩ := h
  cases rx
  obtain ⟨u, rfl, t, rfl⟩ := vals1 rs
  obtain ⟨its, r, pl, hz⟩ := I.tuple hq
  obtain ⟨⟨c1, dd, c2, sl⟩, ho, hc, n, hd⟩ := pl
  simp only at hc hd
  subst hc hd
  have sz : its.toArray.size = ys.length := by rw [List.size_toArray, ← r.length, List.length_map]
  have hj : j < its.toArray.size := by rw [sz]; exact (List.getElem?_eq_some_iff.mp hy).1
  have item : ∀ (m : Nat) (hm : m < its.toArray.size), ∃ y t', ys[m]? = some y ∧ its.toArray[m] = Value.int y t' := fun m hm => by
    have hm' : m < ys.length := by rw [← sz]; exact hm
    obtain ⟨w, hw, t', hw'⟩ := r.get (i := m) (x := .int ys[m]) (by simp [hm'])
    have e := (List.getElem?_eq_some_iff.mp hw).2
    exact ⟨ys[m], t', List.getElem?_eq_getElem hm', by rw [← hw', ← e]; simp⟩
  refine call_meets PySem.F.slot_tuple_index ⟨_, ho, rfl⟩ PySem.F.entry_tuple_index (PySem.F.args_tuple_index_2 _ _) (TI.tuple_indexAt p its.toArray n dd sl (.int z t) (eqU (.int z)) j hj ?_ ?_)
    ⟨ho, fun w hw => mem_eqAt (x := .int z) ⟨t, rfl⟩ rfl r (flat_ints1 ys) w (by simpa using hw), ⟨.int (j : Nat), H, I.tok _, ⟨_, rfl⟩, q⟩⟩
  · obtain ⟨y, t', h1, h2⟩ := item j hj
    rw [hy] at h1
    cases h1
    rw [h2]
    exact beq_self_eq_true z
  · intro m hm hmj
    obtain ⟨y, t', h1, h2⟩ := item m hm
    rw [h2]
    refine beq_eq_false_iff_ne.mpr fun e => hno m hmj ?_
    rw [h1, ← e]
end L2.TT
namespace L2.TT
open PySem PySem.Spec PyProof.Rows
/-- a tuple that has no dict -/
def FzT (H : Hp) (a : Addr) (xs : List V) : Prop := ∃ ob, ob.dict = none ∧ ob.cls = .type "tuple" ∧ H a = some (.frz ob (.tup xs))
theorem FzT.rd {H : Hp} {a : Addr} {xs : List V} (h : FzT H a xs) : Rd H a (.tup xs) := by
  obtain ⟨ob, _, _, e⟩ := h
  exact .inr ⟨ob, e⟩
theorem FzT.sq {K : PySem.W.Frag} {H : Hp} {a : Addr} {xs : List V} (h : FzT H a xs) : SqT K H a xs := .inl h.rd
section
variable {X : Cx}
/-- tuple(l), l a list: a new tuple, with no dict -/
theorem call_tuple_fz : CallR X (.type "tuple") (fun xs H Q => ∃ p ys, xs = [.ref p] ∧ SqL X.K H p ys ∧ ∀ l ob, H l = none → FzT (upd H l (.frz ob (.tup ys))) l ys → Q (.ref l) (upd H l (.frz ob (.tup ys)))) := by
  intro pins s σ H xs us Q I r h
  obtain ⟨p, ys, rfl, hq, q⟩ := h
  obtain ⟨u, rfl, rx⟩ := vals1 r
  cases rx
  obtain ⟨its, r', pl, hz⟩ := I.list hq
  have hlen := r'.length
  refine call_tuple_list pl.isList (fun h' kp => ?_) (by simp only [List.size_toArray] <;> omega)
  have I1 : Inv X pins σ H { s with heap := h' } := I.kept (t' := s.toks) kp
  have I2 : Inv X pins σ (upd H h'.objs.size (.frz { cls := .type "tuple", data := .seq its.toArray } (.tup ys))) { s with heap := h'.push { cls := .type "tuple", data := .seq its.toArray } } :=
    I1.laid (t' := s.toks) (fun b o e => Heap.get?_push_of_some _ e) (Nat.le_refl _) (show ObjOk X.prog X.w _ _ _ (.frz { cls := .type "tuple", data := .seq its.toArray } (.tup ys)) from ⟨Heap.get?_push_size _ rfl, hz, its, r', IsTup.new _ _⟩)
  exact ⟨.ref h'.objs.size, _, I2, rfl, q _ _ (I1.hok.fresh (Nat.le_refl _)) ⟨_, rfl, rfl, upd_same⟩⟩
def tTM (r : V → List V → Hp → VK → Prop) (to : TE) (t : TA) : TE := fun σ H Q => to σ H fun x H1 => (∃ p ob u, x = .ref p ∧ ob.dict = none ∧ ob.cls = .type "tuple" ∧ H1 p = some (.frz ob u)) ∧ t σ H1 fun xs H2 => r x xs H2 Q
variable {o e : Expr} {es : List Expr} {to : TE} {t : TA} {name : Str} {apos cpos : Pos} {id : String} {r : V → List V → Hp → VK → Prop}
theorem pe_tm (pa : PlainAttrs "tuple") (slot : Slot "tuple" name id) (hty : typeOf (.builtin id) = pure (.type "method_descriptor")) (hm : MtR X id r) (ho : PE X o to) (ha : PA X (e :: es) t)
    (hbase : attributeBase o name X.env (eval o X.env) = eval o X.env := by rfl)
    (hfew : ((backTo cpos (starEach (e :: es) X.env)).all (fun x => !x.1) && (backToKw cpos (keywordEach [] X.env)).all (fun x => x.1.isSome)
      && decide ((e :: es).length + ([] : List Keyword).length + (if ([] : List Keyword).isEmpty then 0 else 1) < 30)) = true := by rfl)
    (hline : (apos.endLine == cpos.line) = true := by rfl) (hs : starEach (e :: es) X.env = (false, eval e X.env) :: starEach es X.env := by rfl) (hplain : (backTo cpos (starEach es X.env)).any (·.1) = false := by rfl) :
    PE X (.Call (.Attribute o name apos) (e :: es) [] cpos) (tTM r to t) := by
  refine ⟨fun pins s σ H Q I h => ?_⟩
  refine wpAny_Call_method_late hbase hfew hline rfl (thn (ho.run pins s σ H _ I h) fun v s1 ⟨x, H1, I1, r1, ty, q1⟩ => ?_)
  obtain ⟨p, ob, u, rfl, hd, hc, hH⟩ := ty
  cases r1
  have x := I1.hok _ _ hH
  have hg : s1.heap.get? p = some ob := x.1
  refine ⟨"tuple", id, pa, slot, hty, ⟨ob, hg, hc⟩, fun a e => ?_, ?_⟩
  · cases e
    exact ⟨ob, hg, hd⟩
  have hA := ha.run cpos pins s1 σ H1 _ I1 q1
  rw [hs] at hA ⊢
  refine Calls.callWith_builtin (by show (false || (backTo cpos (starEach es X.env)).any (·.1)) = false; rw [hplain] <;> rfl) (Calls.evalArgs_plain ?_)
  exact thn hA fun us s2 ⟨vs, H2, I2, r2, q2⟩ => hm pins s2 σ H2 (.ref p) vs _ us Q I2 (show RelV (.ref p) (Value.ref p) from rfl) r2 q2
end
end L2.TT
namespace TR
open PySem PySem.Spec PyProof.Rows L2 L2.TT StX ClX
def spPathF (C : Addr) : Sp := fun vs H Q _ => ∃ (r : Addr) (tr : List E2) (a b : Nat), vs = [.ref r, iv a, iv b] ∧ RailAt C H r tr ∧ a ≤ tr.length ∧ b ≤ tr.length ∧
  ∀ (l : List Nat) (p : Addr) (H' : Hp), SW tr a b l → Same H H' → H p = none → FzT H' p (l.map iv) → Q (.ref p) H'
def spBodyF (C : Addr) : Sp := fun vs H Q _ => ∃ (r t : Addr) (tr : List E2) (a b : Nat), vs = [.ref r, .ref t] ∧ RailAt C H r tr ∧ H t = some (.tup [iv a, iv b]) ∧ a ≤ tr.length ∧ b ≤ tr.length ∧ a ≠ b ∧
  ∀ (l : List Nat) (p : Addr) (H' : Hp), SW tr a b l → Same H H' → H p = none → FzT H' p (l.map iv) → Q (.ref p) H'
section
variable {P : Program} {w : World} {K : PySem.W.Frag} {mg : Str → Option Value} {base : Heap}
theorem ok_pathF {f fc C : Addr} {fd fdc : FuncData} (F : Fun K "path" "Railway.path" s_Railway_path f fd) (N : Nm mg) (X : TxtR K mg C) (U : Use P w K mg base CX0 4 "check_station" fc fdc ["railway", "station"] (spChkSt C)) : FnOk P w K mg base CX0 5 f fd ["self", "one", "other"] (spPathF C) := by
  refine F.ok sc_path (fun vs H Q E h => ?_) (fun cdv A outer s H vs Q E hr h => ?_)
  · obtain ⟨r, tr, a, b, rfl, _⟩ := h
    rfl
  · obtain ⟨r, tr, a, b, rfl, R, ha, hb, k⟩ := h
    refine ⟨_, pss_cons (ps_expr (pe_use U hr rfl (pa_cons (pv 0) (pa_cons (pv 1) pa_nil))))
      (pss_cons (ps_expr (pe_use U hr rfl (pa_cons (pv 0) (pa_cons (pv 2) pa_nil))))
      (pss_cons (ps_set (i := 3) sc_path.nd rfl (.inl rfl) (pe_lst (pa_cons (pv 1) pa_nil)))
      (pss_cons (ps_set (i := 4) sc_path.nd rfl (.inl rfl) (pe_lst (pa_cons (pv 2) pa_nil)))
      (pss_cons (ps_while PassesOwn.never (pt_cmpR op_ne (pe_ix ix_list (pv 3) (pe_un un_neg pe_int) (fun _ _ => rfl)) (pe_ix ix_list (pv 4) (pe_un un_neg pe_int) (fun _ _ => rfl)) (nomark _))
        (pss_one (ps_if (pt_cmpR op_gt (pe_ix ix_list (pe_fld (pv 0) rfl) (pe_ix ix_list (pv 3) (pe_un un_neg pe_int) (fun _ _ => rfl)) (fun _ _ => rfl)) (pe_ix ix_list (pe_fld (pv 0) rfl) (pe_ix ix_list (pv 4) (pe_un un_neg pe_int) (fun _ _ => rfl)) (fun _ _ => rfl)) (nomark _))
          (pss_one (ps_expr (pe_bm PySem.F.plainAttrs_list PySem.F.slot_list_append PySem.F.type_list_append mt_append (pv 3) (pa_cons (pe_ix ix_list (pe_fld (pv 0) rfl) (pe_ix ix_list (pv 3) (pe_un un_neg pe_int) (fun _ _ => rfl)) (fun _ _ => rfl)) pa_nil))))
          (pss_one (ps_expr (pe_bm PySem.F.plainAttrs_list PySem.F.slot_list_append PySem.F.type_list_append mt_append (pv 4) (pa_cons (pe_ix ix_list (pe_fld (pv 0) rfl) (pe_ix ix_list (pv 4) (pe_un un_neg pe_int) (fun _ _ => rfl)) (fun _ _ => rfl)) pa_nil)))))))
      (pss_cons (ps_expr (pe_bm0 PySem.F.plainAttrs_list PySem.F.slot_list_pop PySem.F.type_list_pop mt_pop (pv 4)))
      (pss_one (ps_ret (pe_callTy call_tuple_fz (by rfl) N.tuple boot_tuple (pa_cons (pe_op op_cat (pv 3) (pe_revL (pv 4))) pa_nil)))))))))
      , ?_⟩
    obtain ⟨T, few, dx, tt, na, Aa, L, ps, ts, h1, h2, h3, h4, h5, h6, h7, h8⟩ := id R
    refine ⟨_, rfl, _, rfl, r, tr, a, rfl, R, ha, ?_⟩
    refine ⟨_, rfl, _, rfl, r, tr, b, rfl, R, hb, ?_⟩
    refine ⟨_, rfl, by show 1 ≤ sizeLine; rw [sizeLine_eq]; decide, fun fa nfa => ?_⟩
    refine ⟨_, rfl, by show 1 ≤ sizeLine; rw [sizeLine_eq]; decide, fun ba nba1 => ?_⟩
    have sf := same_upd nfa (.lst [iv a])
    have nba := sf.free nba1
    have s0 := sf.trans (same_upd nba1 (.lst [iv b]))
    have nfb : fa ≠ ba := fun z => by rw [← z, upd_same] at nba1; cases nba1
    have hf0 : upd (upd H fa (.lst [iv a])) ba (.lst [iv b]) fa = some (.lst [iv a]) := by rw [upd_ne nfb, upd_same]
    have hb0 := upd_same (H := upd H fa (.lst [iv a])) (a := ba) (o := .lst [iv b])
    generalize upd (upd H fa (.lst [iv a])) ba (.lst [iv b]) = H0 at s0 hf0 hb0
    refine ⟨fun m σ H' => ∃ (x y : Nat) (F B : List Nat), m = dep tr x + dep tr y ∧ σ = [some (.ref r), some (iv a), some (iv b), some (.ref fa), some (.ref ba)] ∧ Clb tr a b x y F B ∧ Same H H' ∧ H' fa = some (.lst ((F ++ [x]).map iv)) ∧ H' ba = some (.lst ((B ++ [y]).map iv)),
      ⟨_, a, b, [], [], rfl, rfl, Clb.start ha hb, s0, hf0, hb0⟩, ?_⟩
    clear sf nba1 s0 hf0 hb0 H0
    rintro m σ H1 ⟨x, y, F, B, rfl, rfl, c, s1, hf, hb1⟩
    have lx := c.lx
    have ly := c.ly
    refine ⟨_, rfl, _, rfl, fa, _, _, _, rfl, rfl, SqL.of hf, at_last, _, rfl, _, rfl, ba, _, _, _, rfl, rfl, SqL.of hb1, at_last, rfl, _, rfl, ?_⟩
    have hr1 := s1 _ _ h1
    have hA1 := s1 _ _ h7
    have hL1 := s1 _ _ h8
    refine ite2 (fun hc => ?_) (fun hc => ?_)
    · have ne : x ≠ y := fun z => by rw [z] at hc; simp at hc
      refine ⟨fun σ' H' => ∃ (x' y' : Nat) (F B : List Nat), dep tr x' + dep tr y' < dep tr x + dep tr y ∧ σ' = [some (.ref r), some (iv a), some (iv b), some (.ref fa), some (.ref ba)] ∧ Clb tr a b x' y' F B ∧ Same H H' ∧ H' fa = some (.lst ((F ++ [x']).map iv)) ∧ H' ba = some (.lst ((B ++ [y']).map iv)),
        fun σ' H' ⟨x', y', F, B, lt, e⟩ => ⟨_, lt, x', y', F, B, rfl, e⟩, ?_⟩
      refine ⟨_, rfl, r, C, dx, _, _, rfl, hr1, X.cl, X.nL, flR_l, _, rfl, _, rfl, fa, _, _, _, rfl, rfl, SqL.of hf, at_last, L, _, _, _, rfl, rfl, SqL.of hL1, atN (vec_get (by omega)), ?_⟩
      refine ⟨_, rfl, r, C, dx, _, _, rfl, hr1, X.cl, X.nL, flR_l, _, rfl, _, rfl, ba, _, _, _, rfl, rfl, SqL.of hb1, at_last, L, _, _, _, rfl, rfl, SqL.of hL1, atN (vec_get (by omega)), _, _, rfl, rfl, _, rfl, ?_⟩
      refine ite2 (fun hd => ?_) (fun hd => ?_)
      · have hlt : dep tr y < dep tr x := by
          have := of_decide_eq_true hd
          omega
        obtain ⟨q1, q2, c2⟩ := c.up1 T ne hlt
        have ep : p0 tr x = par tr x := by unfold p0; rw [if_neg (by omega)]
        refine ⟨_, rfl, .inl ⟨rfl, _, SqL.of hf⟩, _, rfl, r, C, dx, _, _, rfl, hr1, X.cl, X.nA, flR_a, _, rfl, _, rfl, fa, _, _, _, rfl, rfl, SqL.of hf, at_last, Aa, _, _, _, rfl, rfl, SqL.of hA1, atN (vec_get (by omega)), _, _, _, rfl, rfl, hf, ?_, ?_⟩
        · have h9 : (F ++ [x]).length ≤ tr.length + 1 := nd_len c.nf fun z hz => by
            rcases mem_snoc.mp hz with hz | rfl
            · exact c.lf z hz
            · exact lx
          rw [List.length_map, sizeLine_eq]
          omega
        · refine ⟨par tr x, y, F ++ [x], B, by omega, rfl, c2, same_old s1 nfa _, ?_, by rw [upd_ne nfb.symm]; exact hb1⟩
          rw [upd_same, ep, List.map_append (l₁ := F ++ [x])]
          rfl
      · have hlt : ¬ dep tr y < dep tr x := by
          intro z
          apply hd
          exact decide_eq_true (by show ((dep tr y : Nat) : Int) < ((dep tr x : Nat) : Int); omega)
        obtain ⟨q1, q2, c2⟩ := c.up2 T ne hlt
        have ep : p0 tr y = par tr y := by unfold p0; rw [if_neg (by omega)]
        refine ⟨_, rfl, .inl ⟨rfl, _, SqL.of hb1⟩, _, rfl, r, C, dx, _, _, rfl, hr1, X.cl, X.nA, flR_a, _, rfl, _, rfl, ba, _, _, _, rfl, rfl, SqL.of hb1, at_last, Aa, _, _, _, rfl, rfl, SqL.of hA1, atN (vec_get (by omega)), _, _, _, rfl, rfl, hb1, ?_, ?_⟩
        · have h9 : (B ++ [y]).length ≤ tr.length + 1 := nd_len c.nb fun z hz => by
            rcases mem_snoc.mp hz with hz | rfl
            · exact c.lb z hz
            · exact ly
          rw [List.length_map, sizeLine_eq]
          omega
        · refine ⟨x, par tr y, F, B ++ [y], by omega, rfl, c2, same_old s1 nba _, by rw [upd_ne nfb]; exact hf, ?_⟩
          rw [upd_same, ep, List.map_append (l₁ := B ++ [y])]
          rfl
    · have e : x = y := by
        by_cases z : x = y
        · exact z
        · exfalso
          apply hc
          have : ¬ (iv x = iv y) := fun q => z (iv_inj.mp q)
          simp [this]
      subst e
      have sw := c.done
      have hlen : (F ++ [x] ++ B.reverse).length ≤ tr.length + 1 := nd_len sw.nd fun z hz => by
        rcases List.mem_append.mp hz with hz | hz
        · rcases mem_snoc.mp hz with hz | rfl
          · exact c.lf z hz
          · exact lx
        · exact c.lb z (List.mem_reverse.mp hz)
      rw [List.length_append, List.length_reverse] at hlen
      have e1 : ((B ++ [x]).map iv).dropLast = B.map iv := by rw [List.map_append]; exact List.dropLast_concat
      have e2 : ((B ++ [x]).map iv)[((B ++ [x]).map iv).length - 1]? = some (iv x) := by
        rw [List.length_map, List.length_append, List.length_singleton, Nat.add_sub_cancel, List.map_append, List.getElem?_append_right (by rw [List.length_map]; exact Nat.le_refl _), List.length_map, Nat.sub_self]
        rfl
      refine ⟨_, rfl, .inl ⟨rfl, _, SqL.of hb1⟩, ba, _, _, rfl, rfl, hb1, e2, ?_⟩
      rw [e1]
      have s2 := same_old s1 nba (.lst (B.map iv))
      have hf2 : upd H1 ba (.lst (B.map iv)) fa = some (.lst ((F ++ [x]).map iv)) := by rw [upd_ne nfb]; exact hf
      have hb2 := upd_same (H := H1) (a := ba) (o := .lst (B.map iv))
      generalize upd H1 ba (.lst (B.map iv)) = H2 at s2 hf2 hb2
      refine ⟨_, rfl, _, rfl, ba, _, rfl, SqL.of hb2, fun p np => ?_⟩
      refine ⟨fa, p, _, _, rfl, rfl, same_upd np _ _ _ hf2, upd_same, ?_, fun q nq => ?_⟩
      · rw [List.length_map, List.length_reverse, List.length_map, sizeLine_eq]
        omega
      refine ⟨q, _, rfl, SqL.of upd_same, fun t ob nt fz => ?_⟩
      refine k (F ++ [x] ++ B.reverse) t _ sw (((s2.trans (same_upd np _)).trans (same_upd nq _)).trans (same_upd nt _)) ?_ ?_
      · exact (s2.trans ((same_upd np _).trans (same_upd nq _))).free nt
      · rw [List.map_append (l₁ := F ++ [x]), List.map_reverse]
        exact fz
theorem ok_bodyF {f fI fp C : Addr} {fd fdI fdp : FuncData} (F : Fun K "body_of" "body_of" s_body_of f fd) (X : TxtR K mg C) (U : Use P w K mg base CX0 5 "check_standing" fI fdI ["railway", "standing"] (spChkStd C)) (m : Meth K C "path" fp) (G : FnOk P w K mg base CX0 5 fp fdp ["self", "one", "other"] (spPathF C)) (bp : Binds K fdp ["self", "one", "other"] []) :
    FnOk P w K mg base CX0 6 f fd ["railway", "standing"] (spBodyF C) := by
  refine F.ok sc_body (fun vs H Q E h => ?_) (fun cdv A outer s H vs Q E hr h => ?_)
  · obtain ⟨r, t, tr, a, b, rfl, _⟩ := h
    rfl
  · obtain ⟨r, t, tr, a, b, rfl, R, ht, ha, hb, ne, k⟩ := h
    refine ⟨_, pss_cons (ps_expr (pe_use U hr rfl (pa_cons (pv 0) (pa_cons (pv 1) pa_nil))))
      (pss_cons (ps_asg (pv 1) (pg_tup rfl (pgs_cons (pg_name (i := 2) sc_body.nd rfl (.inl rfl)) (pgs_cons (pg_name (i := 3) sc_body.nd rfl (.inl rfl)) pgs_nil))))
      (pss_one (ps_ret (pe_meth (pv 0) X.cl m G hr bp .nil pass0 (pa_cons (pv 2) (pa_cons (pv 3) pa_nil)))))), ?_⟩
    obtain ⟨T, few, dx, tt, na, Aa, L, ps, ts, h1, h2⟩ := id R
    refine ⟨_, rfl, _, rfl, r, t, tr, a, b, rfl, R, ht, ha, hb, ne, ?_⟩
    refine ⟨_, rfl, t, _, rfl, SqT.of ht, rfl, ?_⟩
    refine ⟨_, _, rfl, _, _, rfl, rfl, ?_⟩
    exact ⟨_, rfl, r, dx, _, rfl, h1, flR_no (by decide +kernel) (by decide +kernel) (by decide +kernel) (by decide +kernel), _, rfl, _, rfl, r, tr, a, b, rfl, R, ha, hb, k⟩
end
end TR
namespace TR
open PySem PySem.Spec PyProof.Rows L2 L2.TT StX ClX
theorem tix_of {K : PySem.W.Frag} {H : Hp} {Q : VK} {p : Addr} {l : List Nat} {u : Nat} (hp : FzT H p (l.map iv)) (hu : u ∈ l) (k : Q (iv (l.idxOf u)) H) : rTIx K (.ref p) [iv u] H Q := by
  have lt := List.idxOf_lt_length_of_mem hu
  have em : l.map iv = (l.map Int.ofNat).map V.int := by rw [List.map_map]; rfl
  refine ⟨p, l.map Int.ofNat, (u : Int), l.idxOf u, rfl, rfl, by rw [← em]; exact hp.sq, ?_, fun m hm e => ?_, k⟩
  · rw [List.getElem?_map, List.getElem?_eq_getElem lt, List.getElem_idxOf]
    rfl
  · rw [List.getElem?_map] at e
    obtain ⟨z, hz, ez⟩ := Option.map_eq_some_iff.mp e
    have ez : (z : Int) = (u : Int) := ez
    have ez : z = u := by omega
    rw [ez] at hz
    have zl := (List.getElem?_eq_some_iff.mp hz).1
    have eq := (List.getElem?_eq_some_iff.mp hz).2
    have : l.idxOf u ≤ m := by
      refine Nat.le_of_not_lt fun h => ?_
      have := List.not_of_lt_findIdx (p := fun a => a == u) (xs := l) (i := m) h
      rw [eq] at this
      simp at this
    omega
def spHas (C : Addr) : Sp := fun vs H Q _ => ∃ (r t c : Addr) (tr : List E2) (l : List Nat) (u v : Nat), vs = [.ref r, .ref t, .ref c] ∧ RailAt C H r tr ∧ H t = some (.tup [iv (hd0 l), iv (lt0 l)]) ∧ Bd tr l ∧ H c = some (.tup [iv u, iv v]) ∧
  ∀ H', Same H H' → Q (.bl (hasB l u v)) H'
def spCmL (C : Addr) : Sp := fun vs H Q _ => ∃ (r t g : Addr) (tr : List E2) (l m : List Nat), vs = [.ref r, .ref t, .ref g] ∧ RailAt C H r tr ∧ H t = some (.tup [iv (hd0 l), iv (lt0 l)]) ∧ Bd tr l ∧ H g = some (.tup [iv (hd0 m), iv (lt0 m)]) ∧ Bd tr m ∧ m.length = l.length ∧
  ∀ H', Same H H' → Q (iv (l.length - 1)) H'
def spRis (C : Addr) : Sp := fun vs H Q _ => ∃ (r t p : Addr) (tr : List E2) (d : List Nat) (u v : Nat), vs = [.ref r, .ref t, .ref p] ∧ RailAt C H r tr ∧ H t = some (.tup [iv u, iv v]) ∧ u ≤ tr.length ∧ v ≤ tr.length ∧ StT H p tr d ∧ isLn tr d = true ∧
  ∀ H', Same H H' → Q (.int ((mkN tr d v : Int) - (mkN tr d u : Int))) H'
def spOpd (C : Addr) : Sp := fun vs H Q _ => ∃ (r t g p : Addr) (tr : List E2) (d : List Nat) (u v x y : Nat), vs = [.ref r, .ref t, .ref g, .ref p] ∧ RailAt C H r tr ∧ H t = some (.tup [iv u, iv v]) ∧ H g = some (.tup [iv x, iv y]) ∧ u ≤ tr.length ∧ v ≤ tr.length ∧ x ≤ tr.length ∧ y ≤ tr.length ∧ StT H p tr d ∧ isLn tr d = true ∧
  ∀ H', Same H H' → Q (.bl (decide (((mkN tr d v : Int) - (mkN tr d u : Int)) * ((mkN tr d y : Int) - (mkN tr d x : Int)) < 0))) H'
section
variable {P : Program} {w : World} {K : PySem.W.Frag} {mg : Str → Option Value} {base : Heap}
abbrev N_sc_hsc : List Str := ["railway", "standing", "clamp", "body", "one", "other"]
theorem sc_hsc : FnScope N_sc_hsc ["railway", "standing", "clamp"] (defScope s_has_clamp) := ⟨rfl, rfl, rfl, by decide +kernel, rfl, by decide +kernel, by decide +kernel⟩
theorem ok_hsc {f fB C : Addr} {fd fdB : FuncData} (F : Fun K "has_clamp" "has_clamp" s_has_clamp f fd) (UB : Use P w K mg base CX0 6 "body_of" fB fdB ["railway", "standing"] (spBodyF C)) : FnOk P w K mg base CX0 7 f fd ["railway", "standing", "clamp"] (spHas C) := by
  refine F.ok sc_hsc (fun vs H Q E h => ?_) (fun cdv A outer s H vs Q E hr h => ?_)
  · obtain ⟨r, t, c, tr, l, u, v, rfl, _⟩ := h
    rfl
  · obtain ⟨r, t, c, tr, l, u, v, rfl, R, ht, b, hc, k⟩ := h
    refine ⟨_, (pss_cons (ps_set (i := 3) sc_hsc.nd rfl (.inl rfl) (pe_use UB hr (by rfl) (pa_cons (pv 0) (pa_cons (pv 1) pa_nil))))
        (pss_cons (ps_asg (pv 2) (pg_tup rfl (pgs_cons (pg_name (i := 4) sc_hsc.nd rfl (.inl rfl)) (pgs_cons (pg_name (i := 5) sc_hsc.nd rfl (.inl rfl)) pgs_nil))))
        (pss_one (ps_ret (pe_and (pe_cmpR op_in_seq (pv 4) (pv 3) (by with_unfolding_all rfl)) (pe_and (pe_cmpR op_in_seq (pv 5) (pv 3) (by with_unfolding_all rfl)) (pe_one (pe_cmpR op_lt (pe_tm PySem.F.plainAttrs_tuple PySem.F.slot_tuple_index PySem.F.type_tuple_index mt_tix (pv 3) (pa_cons (pv 4) pa_nil)) (pe_tm PySem.F.plainAttrs_tuple PySem.F.slot_tuple_index PySem.F.type_tuple_index mt_tix (pv 3) (pa_cons (pv 5) pa_nil)) (nomark _))))))))), ?_⟩
    have T := R.T
    refine ⟨_, rfl, _, rfl, r, t, tr, hd0 l, lt0 l, rfl, R, ht, b.hle, b.lle, b.ne, fun l2 p H1 sw s1 np hp => ?_⟩
    cases SW.uniq T sw b.sw
    refine ⟨_, rfl, c, _, rfl, SqT.of (s1 _ _ hc), rfl, _, _, rfl, _, _, rfl, rfl, ?_⟩
    have k1 := k H1 s1
    unfold hasB at k1
    obtain ⟨ob, ob1, ob2, ob3⟩ := id hp
    have ty : ∃ q o2 z, V.ref p = V.ref q ∧ o2.dict = none ∧ o2.cls = .type "tuple" ∧ H1 q = some (.frz o2 z) := ⟨p, ob, _, rfl, ob1, ob2, ob3⟩
    refine ⟨_, rfl, _, rfl, p, _, rfl, .inr hp.sq, rfl, iv_flat _, ?_⟩
    rw [inV_iv, show (if false = true then !decide (u ∈ l) else decide (u ∈ l)) = decide (u ∈ l) from rfl]
    refine ⟨_, rfl, ?_⟩
    by_cases c1 : u ∈ l
    · rw [decide_eq_true c1] at k1 ⊢
      refine iteT ?_
      rw [Bool.true_and] at k1
      refine ⟨_, rfl, _, rfl, p, _, rfl, .inr hp.sq, rfl, iv_flat _, ?_⟩
      rw [inV_iv, show (if false = true then !decide (v ∈ l) else decide (v ∈ l)) = decide (v ∈ l) from rfl]
      refine ⟨_, rfl, ?_⟩
      by_cases c2 : v ∈ l
      · rw [decide_eq_true c2] at k1 ⊢
        refine iteT ?_
        rw [Bool.true_and] at k1
        refine ⟨_, rfl, ty, _, rfl, ?_⟩
        dsimp only [tNil]
        refine tix_of hp c1 ?_
        refine ⟨_, rfl, ty, _, rfl, ?_⟩
        dsimp only [tNil]
        refine tix_of hp c2 ?_
        refine ⟨_, _, rfl, rfl, ?_⟩
        rw [show decide (l.idxOf u < l.idxOf v) = decide ((l.idxOf u : Int) < (l.idxOf v : Int)) from decide_eq_decide.mpr (by omega)] at k1
        exact k1
      · rw [decide_eq_false c2] at k1 ⊢
        refine iteF ?_
        rw [Bool.false_and] at k1
        exact k1
    · rw [decide_eq_false c1] at k1 ⊢
      refine iteF ?_
      rw [Bool.false_and] at k1
      exact k1
abbrev N_sc_cml : List Str := ["railway", "start", "goal", "spans"]
theorem sc_cml : FnScope N_sc_cml ["railway", "start", "goal"] (defScope s_common_length) := ⟨rfl, rfl, rfl, by decide +kernel, rfl, by decide +kernel, by decide +kernel⟩
theorem ok_cml {f fL C : Addr} {fd fdL : FuncData} (F : Fun K "common_length" "common_length" s_common_length f fd) (UL : Use P w K mg base CX0 7 "length_of" fL fdL ["railway", "standing"] (spLen C)) : FnOk P w K mg base CX0 8 f fd ["railway", "start", "goal"] (spCmL C) := by
  refine F.ok sc_cml (fun vs H Q E h => ?_) (fun cdv A outer s H vs Q E hr h => ?_)
  · obtain ⟨r, t, g, tr, l, m, rfl, _⟩ := h
    rfl
  · obtain ⟨r, t, g, tr, l, m, rfl, R, ht, b, hg, c, e, k⟩ := h
    refine ⟨_, (pss_cons (ps_set (i := 3) sc_cml.nd rfl (.inl rfl) (pe_tup (pa_cons (pe_use UL hr (by rfl) (pa_cons (pv 0) (pa_cons (pv 1) pa_nil))) (pa_cons (pe_use UL hr (by rfl) (pa_cons (pv 0) (pa_cons (pv 2) pa_nil))) pa_nil))))
        (pss_cons (ps_if (pt_cmpR op_ne (pe_ix ix_tup (pv 3) pe_int (fun _ _ => rfl)) (pe_ix ix_tup (pv 3) pe_int (fun _ _ => rfl)) (nomark _)) (pss_one L2.ps_never) pss_nil)
        (pss_one (ps_ret (pe_ix ix_tup (pv 3) pe_int (fun _ _ => rfl)))))), ?_⟩
    have T := R.T
    have two : (2 : Nat) ≤ sizeLine := by rw [sizeLine_eq]; decide
    have b2 := b.two
    refine ⟨_, rfl, _, rfl, r, t, tr, hd0 l, lt0 l, rfl, R, ht, b.hle, b.lle, b.ne, fun l2 H1 sw s1 => ?_⟩
    cases SW.uniq T sw b.sw
    refine ⟨_, rfl, _, rfl, r, g, tr, hd0 m, lt0 m, rfl, R.same s1, s1 _ _ hg, c.hle, c.lle, c.ne, fun m2 H2 sw2 s2 => ?_⟩
    cases SW.uniq T sw2 c.sw
    rw [e]
    refine ⟨two, fun q nq => ?_⟩
    have sq := same_upd nq (.tup [V.int ((l.length : Int) - 1), V.int ((l.length : Int) - 1)])
    have hq := upd_same (H := H2) (a := q) (o := .tup [V.int ((l.length : Int) - 1), V.int ((l.length : Int) - 1)])
    generalize upd H2 q (.tup [V.int ((l.length : Int) - 1), V.int ((l.length : Int) - 1)]) = H3 at sq hq ⊢
    refine ⟨_, rfl, q, _, _, _, rfl, rfl, SqT.of hq, atN (n := 0) rfl, _, rfl, q, _, _, _, rfl, rfl, SqT.of hq, atN (n := 1) rfl, rfl, _, rfl, ?_⟩
    rw [show (!decide (V.int ((l.length : Int) - 1) = V.int ((l.length : Int) - 1))) = false from by simp]
    refine iteF ?_
    refine ⟨_, rfl, q, _, _, _, rfl, rfl, SqT.of hq, atN (n := 0) rfl, ?_⟩
    have := k H3 ((s1.trans s2).trans sq)
    rw [show iv (l.length - 1) = V.int ((l.length : Int) - 1) from by show V.int ((l.length - 1 : Nat) : Int) = _; congr 1; omega] at this
    exact this
abbrev N_sc_ris : List Str := ["railway", "standing", "line", "head", "tail"]
theorem sc_ris : FnScope N_sc_ris ["railway", "standing", "line"] (defScope s_rise) := ⟨rfl, rfl, rfl, by decide +kernel, rfl, by decide +kernel, by decide +kernel⟩
theorem ok_ris {f fM C : Addr} {fd fdM : FuncData} (F : Fun K "_rise" "_rise" s_rise f fd) (UM : Use P w K mg base CX0 7 "mark" fM fdM ["railway", "line", "station"] (spMark C)) : FnOk P w K mg base CX0 8 f fd ["railway", "standing", "line"] (spRis C) := by
  refine F.ok sc_ris (fun vs H Q E h => ?_) (fun cdv A outer s H vs Q E hr h => ?_)
  · obtain ⟨r, t, p, tr, d, u, v, rfl, _⟩ := h
    rfl
  · obtain ⟨r, t, p, tr, d, u, v, rfl, R, ht, hu, hv, hp, ln, k⟩ := h
    refine ⟨_, (pss_cons (ps_asg (pv 1) (pg_tup rfl (pgs_cons (pg_name (i := 3) sc_ris.nd rfl (.inl rfl)) (pgs_cons (pg_name (i := 4) sc_ris.nd rfl (.inl rfl)) pgs_nil))))
        (pss_one (ps_ret (pe_op op_sub (pe_use UM hr (by rfl) (pa_cons (pv 0) (pa_cons (pv 2) (pa_cons (pv 4) pa_nil)))) (pe_use UM hr (by rfl) (pa_cons (pv 0) (pa_cons (pv 2) (pa_cons (pv 3) pa_nil)))))))), ?_⟩
    refine ⟨_, rfl, t, _, rfl, SqT.of ht, rfl, _, _, rfl, _, _, rfl, rfl, ?_⟩
    refine ⟨_, rfl, _, rfl, _, rfl, r, p, tr, d, v, rfl, R, hp, ln, hv, fun H1 s1 => ?_⟩
    refine ⟨_, rfl, _, rfl, _, rfl, r, p, tr, d, u, rfl, R.same s1, hp.same s1, ln, hu, fun H2 s2 => ⟨_, _, rfl, rfl, ?_⟩⟩
    have := k H2 (s1.trans s2)
    rw [show ((mkN tr d v : Int) - (mkN tr d u : Int)) = ((mkN tr d v : Int) - 1) - ((mkN tr d u : Int) - 1) from by omega] at this
    exact this
abbrev N_sc_opd : List Str := ["railway", "start", "goal", "line"]
theorem sc_opd : FnScope N_sc_opd ["railway", "start", "goal", "line"] (defScope s_are_opposed) := ⟨rfl, rfl, rfl, by decide +kernel, rfl, by decide +kernel, by decide +kernel⟩
theorem ok_opd {f fR C : Addr} {fd fdR : FuncData} (F : Fun K "_are_opposed" "_are_opposed" s_are_opposed f fd) (UR : Use P w K mg base CX0 8 "_rise" fR fdR ["railway", "standing", "line"] (spRis C)) : FnOk P w K mg base CX0 9 f fd ["railway", "start", "goal", "line"] (spOpd C) := by
  refine F.ok sc_opd (fun vs H Q E h => ?_) (fun cdv A outer s H vs Q E hr h => ?_)
  · obtain ⟨r, t, g, p, tr, d, u, v, x, y, rfl, _⟩ := h
    rfl
  · obtain ⟨r, t, g, p, tr, d, u, v, x, y, rfl, R, ht, hg, hu, hv, hx, hy, hp, ln, k⟩ := h
    refine ⟨_, (pss_one (ps_ret (pe_cmpR op_lt (pe_op op_mul (pe_use UR hr (by rfl) (pa_cons (pv 0) (pa_cons (pv 1) (pa_cons (pv 3) pa_nil)))) (pe_use UR hr (by rfl) (pa_cons (pv 0) (pa_cons (pv 2) (pa_cons (pv 3) pa_nil))))) pe_int (nomark _)))), ?_⟩
    have T := R.T
    have few := R.few
    have bd := isLn_bd T hp.le ln
    have mk9 : ∀ s, s ≤ tr.length → mkN tr d s ≤ 1000 := fun s hs => by
      obtain ⟨q, sq, _⟩ := sw_ex T bd.hle hs
      have e := pl_eq T sq
      have l1 := sw_len T sq bd.hle
      have := List.length_filter_le (fun z => decide (z ∈ d)) (pl tr (hd0 d) s)
      unfold mkN
      rw [e] at this ⊢
      omega
    have m1 := mk9 u hu
    have m2 := mk9 v hv
    have m3 := mk9 x hx
    have m4 := mk9 y hy
    refine ⟨_, rfl, _, rfl, _, rfl, r, t, p, tr, d, u, v, rfl, R, ht, hu, hv, hp, ln, fun H1 s1 => ?_⟩
    refine ⟨_, rfl, _, rfl, _, rfl, r, g, p, tr, d, x, y, rfl, R.same s1, s1 _ _ hg, hx, hy, hp.same s1, ln, fun H2 s2 => ?_⟩
    refine ⟨_, _, rfl, rfl, .inl ⟨?_, ?_⟩, ?_⟩
    · have : (2 : Int) ^ 64 = 18446744073709551616 := by decide
      omega
    · have : (2 : Int) ^ 64 = 18446744073709551616 := by decide
      omega
    · skip
      exact ⟨_, _, rfl, rfl, k H2 (s1.trans s2)⟩
end
end TR
namespace TR
open PySem PySem.Spec PyProof.Rows L2 L2.TT StX ClX
theorem at_lastW {l : List V} {x : V} : atI (l ++ [x]) (-1) = some x := by
  have e : ixN (l ++ [x]).length (-1) = some l.length := by
    unfold ixN
    rw [if_neg (by decide), List.length_append, List.length_singleton]
    rw [if_pos (by omega)]
    congr 1
    omega
  unfold atI
  rw [e]
  show (l ++ [x])[l.length]? = _
  rw [List.getElem?_append_right (Nat.le_refl _), Nat.sub_self]
  rfl
/-- the first station of the last layer -/
noncomputable def lstE (tr : List E2) (s : Nat) : Nat := ((lyr tr s none (ht tr s none - 1)).headD (0, none)).1
/-- the path that two sweeps find -/
noncomputable def lngP (tr : List E2) : List Nat := pl tr (lstE tr 0) (lstE tr (lstE tr 0))
theorem lst_far {tr : List E2} (T : TreeL tr) {s : Nat} (hs : s ≤ tr.length) : FarE tr s (lstE tr s) (ht tr s none) ∧ lstE tr s ≤ tr.length := by
  obtain ⟨h1, h2⟩ := ht_of T (b := none) hs
  have pos := ht_pos T (b := none) hs
  have hne := h2 (ht tr s none - 1) (by omega)
  unfold lstE
  cases hl : lyr tr s none (ht tr s none - 1) with
  | nil => exact absurd hl hne
  | cons x xs =>
    refine ⟨far_last T h1 (b := x.2) (e := x.1) ?_ pos, ?_⟩
    · rw [hl]
      exact List.mem_cons_self
    · exact (lyr_ms T (b := none) hs _ x (by rw [hl]; exact List.mem_cons_self)).2
theorem lay_lastW {tr : List E2} (T : TreeL tr) {H : Hp} {fl : Addr} {st : Nat} {fs : List Addr} (hs : st ≤ tr.length) (hk : ∀ (k : Nat) (f : Addr), fs[k]? = some f → H f = some (.lst (((lyr tr st none k).map Prod.fst).map iv))) (hn : ∀ k, k < fs.length → lyr tr st none k ≠ [])
    (h0 : lyr tr st none fs.length = []) : ∃ (gs : List Addr) (f : Addr) (ys : List Nat), fs.map V.ref = gs.map V.ref ++ [V.ref f] ∧ H f = some (.lst ((lstE tr st :: ys).map iv)) := by
  have eh := ht_eq h0 hn
  have pos := ht_pos T (b := none) hs
  rw [eh] at pos
  obtain ⟨gs, f, rfl⟩ : ∃ gs f, fs = gs ++ [f] := by
    have hne : fs ≠ [] := List.length_pos_iff.mp pos
    exact ⟨fs.dropLast, fs.getLast hne, (List.dropLast_concat_getLast hne).symm⟩
  have lg : (gs ++ [f]).length = gs.length + 1 := by simp
  have hg : (gs ++ [f])[gs.length]? = some f := by
    rw [List.getElem?_append_right (Nat.le_refl _), Nat.sub_self]
    rfl
  have hF := hk _ _ hg
  have hne := hn gs.length (by omega)
  unfold lstE
  rw [eh, lg, Nat.add_sub_cancel]
  cases hl : lyr tr st none gs.length with
  | nil => exact absurd hl hne
  | cons x xs =>
    rw [hl] at hF
    exact ⟨gs, f, xs.map Prod.fst, by simp, hF⟩
def spLongP (C : Addr) : Sp := fun vs H Q _ => ∃ (r : Addr) (tr : List E2), vs = [.ref r] ∧ RailAt C H r tr ∧ ∀ (p : Addr) (H' : Hp), Same H H' → H' p = some (.tup ((lngP tr).map iv)) → Q (.ref p) H'
section
variable {P : Program} {w : World} {K : PySem.W.Frag} {mg : Str → Option Value} {base : Heap}
abbrev N_sc_lng : List Str := ["railway", "end"]
theorem sc_lng : FnScope N_sc_lng ["railway"] (defScope s_longest_path) := ⟨rfl, rfl, rfl, by decide +kernel, rfl, by decide +kernel, by decide +kernel⟩
theorem ok_lngP {f fl fp C : Addr} {fd fdl fdp : FuncData} (F : Fun K "longest_path" "longest_path" s_longest_path f fd) (X : TxtR K mg C) (UL : Use P w K mg base CX0 6 "layers" fl fdl ["railway", "station", "barred"] (spLayers C)) (Mp : MU P w K mg base C 5 "path" fp fdp ["self", "one", "other"] (spPath C)) : FnOk P w K mg base CX0 7 f fd ["railway"] (spLongP C) := by
  refine F.ok sc_lng (fun vs H Q E h => ?_) (fun cdv A outer s H vs Q E hr h => ?_)
  · obtain ⟨r, tr, rfl, _⟩ := h
    rfl
  · obtain ⟨r, tr, rfl, R, k⟩ := h
    refine ⟨_, (pss_cons (ps_set (i := 1) sc_lng.nd rfl (.inl rfl) (pe_ix ix_list (pe_ix ix_list (pe_use UL hr (by rfl) (pa_cons (pv 0) (pa_cons pe_int (pa_cons pe_non pa_nil)))) (pe_un un_neg pe_int) (fun _ _ => rfl)) pe_int (fun _ _ => rfl)))
        (pss_one (ps_ret (pe_meth (pv 0) X.cl Mp.m Mp.G (hr.mono (by decide)) Mp.b .nil pass0 (pa_cons (pv 1) (pa_cons (pe_ix ix_list (pe_ix ix_list (pe_use UL hr (by rfl) (pa_cons (pv 0) (pa_cons (pv 1) (pa_cons pe_non pa_nil)))) (pe_un un_neg pe_int) (fun _ _ => rfl)) pe_int (fun _ _ => rfl)) pa_nil)))))), ?_⟩
    have T := R.T
    refine ⟨_, rfl, r, tr, 0, none, rfl, R, Nat.zero_le _, fun fl fs H1 s1 hf hk hn h0 => ?_⟩
    obtain ⟨gs, f1, ys, eg, hF⟩ := lay_lastW T (Nat.zero_le _) (fl := fl) hk hn h0
    obtain ⟨_, le0⟩ := lst_far T (Nat.zero_le tr.length)
    rw [eg] at hf
    refine ⟨_, rfl, fl, _, _, _, rfl, rfl, SqL.of hf, at_lastW, f1, _, _, _, rfl, rfl, SqL.of hF, atN (n := 0) (v := iv (lstE tr 0)) rfl, ?_⟩
    have R1 := R.same s1
    obtain ⟨_, _, dx, _, _, _, _, _, _, h1, _⟩ := id R1
    refine ⟨_, rfl, r, dx, _, rfl, h1, rfl, _, rfl, _, rfl, _, rfl, r, tr, lstE tr 0, none, rfl, R1, le0, fun fl2 fs2 H2 s2 hf2 hk2 hn2 h02 => ?_⟩
    obtain ⟨gs2, f2, ys2, eg2, hF2⟩ := lay_lastW T le0 (fl := fl2) hk2 hn2 h02
    obtain ⟨_, le1⟩ := lst_far T le0
    rw [eg2] at hf2
    refine ⟨_, rfl, fl2, _, _, _, rfl, rfl, SqL.of hf2, at_lastW, f2, _, _, _, rfl, rfl, SqL.of hF2, atN (n := 0) (v := iv (lstE tr (lstE tr 0))) rfl, ?_⟩
    refine ⟨r, tr, lstE tr 0, lstE tr (lstE tr 0), rfl, R1.same s2, le0, le1, fun l p H3 w s3 np hp => ?_⟩
    rw [← pl_eq T w] at hp
    exact k p H3 (s1.trans (s2.trans s3)) hp
end
end TR
namespace TR
/-- what the two sweeps find is a longest path -/
theorem lng_spec {tr : List E2} (T : TreeL tr) : SW tr (lstE tr 0) (lstE tr (lstE tr 0)) (lngP tr) ∧ lstE tr 0 ≤ tr.length ∧ ∀ a b p, a ≤ tr.length → SW tr a b p → p.length ≤ (lngP tr).length := by
  obtain ⟨f0, l0⟩ := lst_far T (Nat.zero_le tr.length)
  obtain ⟨f1, l1⟩ := lst_far T l0
  obtain ⟨l, sw, _⟩ := sw_ex T l0 l1
  obtain ⟨l', sw', e'⟩ := f1.1
  have e : lngP tr = l := pl_eq T sw
  rw [e]
  refine ⟨sw, l0, fun a b p ha sp => ?_⟩
  have := far_two T f0 f1 ha sp
  rw [SW.uniq T sw sw', e']
  exact this
end TR
namespace TR
open PySem PySem.Spec PyProof.Rows L2 L2.TT StX ClX
/-- the divide that is found -/
def FdV (tr : List E2) (L : Nat) (v : V) (H : Hp) : Prop := (((lngP tr).length ≤ 2 * L ∨ isDv tr L (lngP tr) = false) ∧ v = .non) ∨ (2 * L < (lngP tr).length ∧ isDv tr L (lngP tr) = true ∧ ∃ p, v = .ref p ∧ H p = some (.tup ((lngP tr).map iv)))
theorem lng_bd {tr : List E2} (T : TreeL tr) (h : 2 ≤ (lngP tr).length) : Bd tr (lngP tr) := by
  obtain ⟨sw, le, mx⟩ := lng_spec T
  have ne : lstE tr 0 ≠ lstE tr (lstE tr 0) := fun z => by
    rw [← z] at sw
    have := SW.uniq T sw (SW.one _)
    rw [this] at h
    exact absurd h (by simp)
  exact (sw_bd T sw le ne).1
theorem lng_len {tr : List E2} (T : TreeL tr) : (lngP tr).length ≤ tr.length + 1 := by
  obtain ⟨sw, le, mx⟩ := lng_spec T
  exact sw_len T sw le
def spFdv (C : Addr) : Sp := fun vs H Q _ => ∃ (r : Addr) (tr : List E2) (L : Nat), vs = [.ref r, iv L] ∧ 1 ≤ L ∧ L ≤ 99 ∧ RailAt C H r tr ∧ ∀ v H', Same H H' → FdV tr L v H' → Q v H'
section
variable {P : Program} {w : World} {K : PySem.W.Frag} {mg : Str → Option Value} {base : Heap}
abbrev N_sc_fdv : List Str := ["railway", "length", "line"]
theorem sc_fdv : FnScope N_sc_fdv ["railway", "length"] (defScope s_find_divide) := ⟨rfl, rfl, rfl, by decide +kernel, rfl, by decide +kernel, by decide +kernel⟩
theorem ok_fdv {f fL fG fD C : Addr} {fd fdL fdG fdD : FuncData} (F : Fun K "find_divide" "find_divide" s_find_divide f fd) (N : Nm mg) (UL : Use P w K mg base CX0 2 "check_length" fL fdL ["length"] spChkLen) (UG : Use P w K mg base CX0 7 "longest_path" fG fdG ["railway"] (spLongP C)) (UD : Use P w K mg base CX0 10 "is_divide" fD fdD ["railway", "length", "value"] (spIsDv C)) :
    FnOk P w K mg base CX0 11 f fd ["railway", "length"] (spFdv C) := by
  refine F.ok sc_fdv (fun vs H Q E h => ?_) (fun cdv A outer s H vs Q E hr h => ?_)
  · obtain ⟨r, tr, L, rfl, _⟩ := h
    rfl
  · obtain ⟨r, tr, L, rfl, hL, hL9, R, k⟩ := h
    refine ⟨_, (pss_cons (ps_expr (pe_use UL (hr.mono (by decide)) (by rfl) (pa_cons (pv 1) pa_nil)))
        (pss_cons (ps_set (i := 2) sc_fdv.nd rfl (.inl rfl) (pe_use UG (hr.mono (by decide)) (by rfl) (pa_cons (pv 0) pa_nil)))
        (pss_cons (ps_if (pt_cmpR op_le (pe_callB call_len_seq (by rfl) N.len boot_len (pa_cons (pv 2) pa_nil)) (pe_op op_mul pe_int (pv 1)) (nomark _)) (pss_one (ps_ret pe_non)) pss_nil)
        (pss_one (ps_ret (pe_ifExp (pt_val (pe_use UD hr (by rfl) (pa_cons (pv 0) (pa_cons (pv 1) (pa_cons (pv 2) pa_nil))))) (pv 2) pe_non)))))), ?_⟩
    have T := R.T
    have few := R.few
    have ll := lng_len T
    refine ⟨_, rfl, L, rfl, hL, ?_⟩
    refine ⟨_, rfl, r, tr, rfl, R, fun p H1 s1 hp => ?_⟩
    refine ⟨_, rfl, p, _, rfl, .inr (SqT.of hp), _, rfl, _, _, rfl, rfl, ?_, _, _, rfl, rfl, _, rfl, ?_⟩
    · exact .inl ⟨by decide, by decide⟩
    have e2 : ((2 : Int) * (L : Int)) = ((2 * L : Nat) : Int) := by omega
    by_cases c : (lngP tr).length ≤ 2 * L
    · rw [show decide ((((lngP tr).map iv).length : Int) ≤ (2 : Int) * (L : Int)) = true from decide_eq_true (by rw [List.length_map]; omega)]
      exact iteT (k _ _ s1 (.inl ⟨.inl c, rfl⟩))
    rw [show decide ((((lngP tr).map iv).length : Int) ≤ (2 : Int) * (L : Int)) = false from decide_eq_false (by rw [List.length_map]; omega)]
    refine iteF ?_
    have bd := lng_bd T (by omega)
    refine ⟨_, rfl, _, rfl, _, rfl, r, p, tr, L, lngP tr, rfl, hL, R.same s1, ⟨hp, bd.le, by omega⟩, isLn_of T bd, fun H2 s2 => ⟨_, rfl, ?_⟩⟩
    cases e : isDv tr L (lngP tr) with
    | true =>
      refine iteT ?_
      exact ⟨_, rfl, k _ _ (s1.trans s2) (.inr ⟨by omega, e, p, rfl, s2 _ _ hp⟩)⟩
    | false =>
      refine iteF ?_
      exact k _ _ (s1.trans s2) (.inl ⟨.inr e, rfl⟩)
end
end TR
namespace TR
open PySem PySem.Spec PyProof.Rows L2 L2.TT StX ClX
theorem opp_iff {a b c d : Nat} (h1 : a ≠ b) (h2 : c ≠ d) : ((b : Int) - (a : Int)) * ((d : Int) - (c : Int)) < 0 ↔ ¬ (a < b ↔ c < d) := by
  by_cases x : a < b <;> by_cases y : c < d
  · have : (0 : Int) < ((b : Int) - a) * ((d : Int) - c) := Int.mul_pos (by omega) (by omega)
    constructor
    · intro h; omega
    · intro h; exact absurd ⟨fun _ => y, fun _ => x⟩ h
  · have : ((b : Int) - a) * ((d : Int) - c) < 0 := Int.mul_neg_of_pos_of_neg (by omega) (by omega)
    exact ⟨fun _ h => y (h.mp x), fun _ => this⟩
  · have : ((b : Int) - a) * ((d : Int) - c) < 0 := Int.mul_neg_of_neg_of_pos (by omega) (by omega)
    exact ⟨fun _ h => x (h.mpr y), fun _ => this⟩
  · have : (0 : Int) < ((b : Int) - a) * ((d : Int) - c) := Int.mul_pos_of_neg_of_neg (by omega) (by omega)
    constructor
    · intro h; omega
    · intro h; exact absurd ⟨fun z => absurd z x, fun z => absurd z y⟩ h
/-- the marks of two standings stand in opposite orders -/
noncomputable def opdN (tr : List E2) (d l m : List Nat) : Bool := decide (((mkN tr d (lt0 l) : Int) - (mkN tr d (hd0 l) : Int)) * ((mkN tr d (lt0 m) : Int) - (mkN tr d (hd0 m) : Int)) < 0)
/-- what is told against -/
def RsV (tr : List E2) (l m : List Nat) (v : V) (H : Hp) : Prop := (Leads tr l m ∧ v = .non) ∨ (¬ Leads tr l m ∧ ∃ p, v = .ref p ∧
  ((∃ u z, H p = some (.tup [.str "clamp", iv u, iv z]) ∧ ((pk tr l = some (u, z) ∧ hasB m u z = false) ∨ (pk tr m = some (u, z) ∧ hasB l u z = false))) ∨
   (∃ q, H p = some (.tup [.str "divide", .ref q]) ∧ H q = some (.tup ((lngP tr).map iv)) ∧ 2 ≤ (lngP tr).length ∧ isDv tr (l.length - 1) (lngP tr) = true ∧ pk tr l = none ∧ pk tr m = none ∧ opdN tr (lngP tr) l m = true)))
theorem dpk_eqv {a b : Option E2} : PyData.eqv (dpk a) (dpk b) = decide (a = b) := by
  cases a with
  | none =>
    cases b with
    | none => rfl
    | some f => rw [decide_eq_false (by intro h; cases h)]; rfl
  | some e =>
    cases b with
    | none => rw [decide_eq_false (by intro h; cases h)]; rfl
    | some f =>
      show PyData.eqv (.tuple [di e.1, di e.2]) (.tuple [di f.1, di f.2]) = _
      rw [eqv_two]
      refine decide_eq_decide.mpr ⟨fun h => by rw [show e = f from h], fun h => Option.some.inj h⟩
theorem pkv_dp {K : PySem.W.Frag} {H : Hp} {o : Option E2} {v : V} (h : PkV o v H) : Dp K H v (dpk o) ∧ SeqAt.shaped (dpk o) = true := by
  rcases h with ⟨rfl, rfl⟩ | ⟨e, q, rfl, rfl, hq⟩
  · exact ⟨.non, rfl⟩
  · exact ⟨.tup (SqT.of hq) (dpAll_ints [e.1, e.2]), shaped_tup [e.1, e.2]⟩
def spRsn (C : Addr) : Sp := fun vs H Q _ => ∃ (r t g : Addr) (tr : List E2) (l m : List Nat), vs = [.ref r, .ref t, .ref g] ∧ RailAt C H r tr ∧ H t = some (.tup [iv (hd0 l), iv (lt0 l)]) ∧ Bd tr l ∧ H g = some (.tup [iv (hd0 m), iv (lt0 m)]) ∧ Bd tr m ∧ m.length = l.length ∧
  ∀ v H', Same H H' → RsV tr l m v H' → Q v H'
section
variable {P : Program} {w : World} {K : PySem.W.Frag} {mg : Str → Option Value} {base : Heap}
abbrev N_sc_rsn : List Str := ["railway", "start", "goal", "length", "one", "other", "clamp", "line"]
theorem sc_rsn : FnScope N_sc_rsn ["railway", "start", "goal"] (defScope s_reason_against) := ⟨rfl, rfl, rfl, by decide +kernel, rfl, by decide +kernel, by decide +kernel⟩
theorem ok_rsn {f fC fP fH fF fO C : Addr} {fd fdC fdP fdH fdF fdO : FuncData} (F : Fun K "reason_against" "reason_against" s_reason_against f fd) (UC : Use P w K mg base CX0 8 "common_length" fC fdC ["railway", "start", "goal"] (spCmL C)) (UP : Use P w K mg base CX0 15 "pocket" fP fdP ["railway", "standing"] (spPoc C)) (UH : Use P w K mg base CX0 7 "has_clamp" fH fdH ["railway", "standing", "clamp"] (spHas C))
    (UF : Use P w K mg base CX0 11 "find_divide" fF fdF ["railway", "length"] (spFdv C)) (UO : Use P w K mg base CX0 9 "_are_opposed" fO fdO ["railway", "start", "goal", "line"] (spOpd C)) : FnOk P w K mg base CX0 16 f fd ["railway", "start", "goal"] (spRsn C) := by
  refine F.ok sc_rsn (fun vs H Q E h => ?_) (fun cdv A outer s H vs Q E hr h => ?_)
  · obtain ⟨r, t, g, tr, l, m, rfl, _⟩ := h
    rfl
  · obtain ⟨r, t, g, tr, l, m, rfl, R, ht, b, hg, c, e, k⟩ := h
    have hu64 : (A.deeper (envOfC "reason_against" (defScope s_reason_against) s.heap.objs.size f cdv)).units + 64 < cLine := hr.units
    refine ⟨_, (pss_cons (ps_set (i := 3) sc_rsn.nd rfl (.inl rfl) (pe_use UC (hr.mono (by decide)) (by rfl) (pa_cons (pv 0) (pa_cons (pv 1) (pa_cons (pv 2) pa_nil)))))
        (pss_cons (ps_set (i := 4) sc_rsn.nd rfl (.inl rfl) (pe_use UP hr (by rfl) (pa_cons (pv 0) (pa_cons (pv 1) pa_nil))))
        (pss_cons (ps_set (i := 5) sc_rsn.nd rfl (.inl rfl) (pe_use UP hr (by rfl) (pa_cons (pv 0) (pa_cons (pv 2) pa_nil))))
        (pss_cons (ps_if (pt_cmpR (op_neD hu64) (pv 4) (pv 5) (nomark _)) (pss_cons (ps_set (i := 6) sc_rsn.nd rfl (.inl rfl) (pe_ifExp (PW.pt (pw_and (pt_cmp (pc_notN (pv 4))) (pw_and1 (pt_not (pt_val (pe_use UH (hr.mono (by decide)) (by rfl) (pa_cons (pv 0) (pa_cons (pv 2) (pa_cons (pv 4) pa_nil))))))))) (pv 4) (pv 5)))
          (pss_one (ps_ret (pe_op op_catT (pe_tup (pa_cons pe_str pa_nil)) (pv 6))))) pss_nil)
        (pss_cons (ps_if (pt_cmp (pc_notN (pv 4))) (pss_one (ps_ret pe_non)) pss_nil)
        (pss_cons (ps_set (i := 7) sc_rsn.nd rfl (.inl rfl) (pe_use UF (hr.mono (by decide)) (by rfl) (pa_cons (pv 0) (pa_cons (pv 3) pa_nil))))
        (pss_cons (ps_if (PW.pt (pw_or (pt_cmp (pc_isN (pv 7))) (pw_or1 (pt_not (pt_val (pe_use UO (hr.mono (by decide)) (by rfl) (pa_cons (pv 0) (pa_cons (pv 1) (pa_cons (pv 2) (pa_cons (pv 7) pa_nil)))))))))) (pss_one (ps_ret pe_non)) pss_nil)
        (pss_one (ps_ret (pe_tup (pa_cons pe_str (pa_cons (pv 7) pa_nil)))))))))))), ?_⟩
    have T := R.T
    have few := R.few
    have one : (1 : Nat) ≤ sizeLine := by rw [sizeLine_eq]; decide
    have two : (2 : Nat) ≤ sizeLine := by rw [sizeLine_eq]; decide
    have b2 := b.two
    have ll := sw_len T b.sw b.hle
    refine ⟨_, rfl, _, rfl, _, rfl, r, t, g, tr, l, m, rfl, R, ht, b, hg, c, e, fun H1 s1 => ?_⟩
    refine ⟨_, rfl, _, rfl, ?_⟩
    dsimp only [tNil]
    refine poc_pk (R.same s1) b (s1 _ _ ht) fun v1 H2 s2 p1 => ?_
    have s12 := s1.trans s2
    refine ⟨_, rfl, _, rfl, ?_⟩
    dsimp only [tNil]
    refine poc_pk (R.same s12) c (s12 _ _ hg) fun v2 H3 s3 p2 => ?_
    have s13 := s12.trans s3
    have p1 := p1.same s3
    clear s12 s1 s2 s3
    obtain ⟨d1, e1⟩ := pkv_dp (K := K) p1
    obtain ⟨d2, e2⟩ := pkv_dp (K := K) p2
    refine ⟨_, rfl, _, rfl, _, _, d1, d2, e1, e2, _, rfl, ?_⟩
    rw [dpk_eqv]
    have nonT : (!decide (V.non = V.non)) = false := by simp
    have refT : ∀ a : Addr, (!decide (V.ref a = V.non)) = true := fun a => by simp
    by_cases q : pk tr l = pk tr m
    · rw [decide_eq_true q]
      refine iteF ?_
      rcases p1 with ⟨o1, rfl⟩ | ⟨x, q1, o1, rfl, h1⟩
      · refine ⟨_, rfl, _, rfl, ?_⟩
        rw [nonT]
        refine iteF ?_
        have o2 : pk tr m = none := q.symm.trans o1
        have len : l.length = l.length - 1 + 1 := by omega
        have len2 : m.length = l.length - 1 + 1 := by omega
        refine ⟨_, rfl, _, rfl, r, tr, l.length - 1, rfl, by omega, by omega, R.same s13, fun v H4 s4 fv => ?_⟩
        have s14 := s13.trans s4
        obtain ⟨_, _, mx⟩ := lng_spec T
        rcases fv with ⟨no, rfl⟩ | ⟨lg, dv, p, rfl, hp⟩
        · refine ⟨_, rfl, _, rfl, ?_⟩
          rw [show decide (V.non = V.non) = true from by simp]
          refine iteT ?_
          refine iteT ?_
          exact k .non H4 s14 (.inl ⟨free_nodiv T mx (fun h => lng_bd T h) no b len o1 c len2 o2, rfl⟩)
        · refine ⟨_, rfl, _, rfl, ?_⟩
          rw [show decide (V.ref p = V.non) = false from by simp]
          refine iteF ?_
          have bd := lng_bd T (show 2 ≤ (lngP tr).length by omega)
          have le := lng_len T
          have fd := free_dec T bd dv b len o1 c len2 o2
          have n1 := mk_ne T bd dv b len o1
          have n2 := mk_ne T bd dv c len2 o2
          have oi := opp_iff n1 n2
          refine ⟨_, rfl, _, rfl, _, rfl, _, rfl, r, t, g, p, tr, lngP tr, _, _, _, _, rfl, R.same s14, s14 _ _ ht, s14 _ _ hg, b.hle, b.lle, c.hle, c.lle, ⟨hp, bd.le, by omega⟩, isLn_of T bd, fun H5 s5 => ⟨_, rfl, ?_⟩⟩
          by_cases op : ((mkN tr (lngP tr) (lt0 l) : Int) - (mkN tr (lngP tr) (hd0 l) : Int)) * ((mkN tr (lngP tr) (lt0 m) : Int) - (mkN tr (lngP tr) (hd0 m) : Int)) < 0
          · rw [decide_eq_true op]
            refine iteF ?_
            refine ⟨_, rfl, two, fun z nz => ?_⟩
            have sz := same_upd nz (.tup [.str "divide", .ref p])
            exact k (.ref z) _ ((s14.trans s5).trans sz) (.inr ⟨fun h => (oi.mp op) (fd.mp h), z, rfl, .inr ⟨p, upd_same, sz _ _ (s5 _ _ hp), by omega, dv, o1, o2, decide_eq_true op⟩⟩)
          · rw [decide_eq_false op]
            refine iteT ?_
            exact k .non H5 (s14.trans s5) (.inl ⟨fd.mpr (Classical.byContradiction fun h => op (oi.mpr h)), rfl⟩)
      · refine ⟨_, rfl, _, rfl, ?_⟩
        rw [refT]
        refine iteT ?_
        exact k .non H3 s13 (.inl ⟨pk_leads T b c (u := x.1) (v := x.2) o1 (q.symm.trans o1), rfl⟩)
    · rw [decide_eq_false q]
      refine iteT ?_
      have nl : ¬ Leads tr l m := fun h => q (pk_class T b h).symm
      have no : ∀ {l : List Nat} {x : E2}, Bd tr l → ¬ HasC l x.1 x.2 → hasB l x.1 x.2 = false := fun {l x} b h => by
        cases z : hasB l x.1 x.2 with
        | false => rfl
        | true => exact absurd ((has_iff b.sw.nd).mp z) h
      rcases p1 with ⟨o1, rfl⟩ | ⟨x, q1, o1, rfl, h1⟩
      · refine ⟨_, rfl, _, rfl, ?_⟩
        rw [nonT]
        refine iteF ?_
        refine iteF ?_
        obtain ⟨y, o2, ny⟩ := pk_pick T b c e q (fun x hx => by rw [o1] at hx; cases hx)
        rcases p2 with ⟨o3, _⟩ | ⟨y', q2, o3, rfl, h2⟩
        · rw [o2] at o3; cases o3
        · rw [o2] at o3
          cases o3
          refine ⟨_, rfl, one, fun u nu => ?_⟩
          have su := same_upd nu (.tup [.str "clamp"])
          refine ⟨_, rfl, u, q2, _, _, rfl, rfl, SqT.of upd_same, SqT.of (su _ _ h2), by simp, by rw [sizeLine_eq]; simp, fun z => (by cases z), fun _ z nz => ?_⟩
          exact k (.ref z) _ ((s13.trans su).trans (same_upd nz _)) (.inr ⟨nl, z, rfl, .inl ⟨y.1, y.2, upd_same, .inr ⟨o2, no b ny⟩⟩⟩)
      · refine ⟨_, rfl, _, rfl, ?_⟩
        rw [refT]
        refine iteT ?_
        refine ⟨_, rfl, _, rfl, _, rfl, r, g, q1, tr, m, x.1, x.2, rfl, R.same s13, s13 _ _ hg, c, h1, fun H4 s4 => ⟨_, rfl, ?_⟩⟩
        have s14 := s13.trans s4
        cases hb : hasB m x.1 x.2 with
        | true =>
          refine iteF ?_
          obtain ⟨y, o2, ny⟩ := pk_pick T b c e q (fun x' hx => by rw [o1] at hx; cases hx; exact (has_iff c.sw.nd).mp hb)
          rcases p2 with ⟨o3, _⟩ | ⟨y', q2, o3, rfl, h2⟩
          · rw [o2] at o3; cases o3
          · rw [o2] at o3
            cases o3
            refine ⟨_, rfl, one, fun u nu => ?_⟩
            have su := same_upd nu (.tup [.str "clamp"])
            refine ⟨_, rfl, u, q2, _, _, rfl, rfl, SqT.of upd_same, SqT.of (su _ _ (s4 _ _ h2)), by simp, by rw [sizeLine_eq]; simp, fun z => (by cases z), fun _ z nz => ?_⟩
            exact k (.ref z) _ ((s14.trans su).trans (same_upd nz _)) (.inr ⟨nl, z, rfl, .inl ⟨y.1, y.2, upd_same, .inr ⟨o2, no b ny⟩⟩⟩)
        | false =>
          refine iteT ?_
          refine ⟨_, rfl, one, fun u nu => ?_⟩
          have su := same_upd nu (.tup [.str "clamp"])
          refine ⟨_, rfl, u, q1, _, _, rfl, rfl, SqT.of upd_same, SqT.of (su _ _ (s4 _ _ h1)), by simp, by rw [sizeLine_eq]; simp, fun z => (by cases z), fun _ z nz => ?_⟩
          exact k (.ref z) _ ((s14.trans su).trans (same_upd nz _)) (.inr ⟨nl, z, rfl, .inl ⟨x.1, x.2, upd_same, .inl ⟨o1, hb⟩⟩⟩)
end
end TR
namespace TR
open PySem PySem.Spec PyProof.Rows L2 L2.TT StX ClX
theorem rs_down (n : Nat) : Builtin.Range.rangeSize ((n : Int) - 1) (-1) (-1) = n := by
  unfold Builtin.Range.rangeSize
  rw [if_neg (by decide)]
  by_cases h : n = 0
  · subst h
    rfl
  · rw [if_pos (by omega), show (-(-1) : Int) = 1 from rfl, Int.ediv_one]
    omega
theorem rg_fl (i : Int) (h : -10001 ≤ i) (k : i ≤ 10001) : Builtin.Range.rangeFitsLong i = true := by
  unfold Builtin.Range.rangeFitsLong
  simp
  omega
theorem rgc_down (n : Nat) (h : n ≤ 10000) : RgC ((n : Int) - 1) (-1) (-1) n := by
  refine ⟨by decide, by decide, ?_, rs_down n⟩
  unfold Builtin.Range.small
  rw [rs_down, rg_fl _ (by omega) (by omega), rg_fl (-1) (by decide) (by decide), rg_fl (n : Int) (by omega) (by omega), if_neg (by decide), rg_fl _ (by decide) (by decide)]
  simp
def spLwy (C : Addr) : Sp := fun vs H Q _ => ∃ (r t g : Addr) (tr : List E2) (l m : List Nat), vs = [.ref r, .ref t, .ref g] ∧ RailAt C H r tr ∧ H t = some (.tup [iv (hd0 l), iv (lt0 l)]) ∧ Bd tr l ∧ H g = some (.tup [iv (hd0 m), iv (lt0 m)]) ∧ Leads tr l m ∧
  ∀ (p : Addr) (ps : List Addr) (H' : Hp), Same H H' → H p = none → H' p = some (.tup (ps.map V.ref)) → Lay MvR H' ps (lwy tr m (gd tr l m) l) → Q (.ref p) H'
section
variable {P : Program} {w : World} {K : PySem.W.Frag} {mg : Str → Option Value} {base : Heap}
abbrev N_sc_lwy : List Str := ["railway", "start", "goal", "body", "counts", "fewest", "moves", "count", "nearer", "step", "move"]
theorem sc_lwy : FnScope N_sc_lwy ["railway", "start", "goal"] (defScope s_least_way) := ⟨rfl, rfl, rfl, by decide +kernel, rfl, by decide +kernel, by decide +kernel⟩
theorem ok_lwy {f fB fC fS C : Addr} {fd fdB fdC fdS : FuncData} (F : Fun K "least_way" "least_way" s_least_way f fd) (N : Nm mg) (UB : Use P w K mg base CX0 6 "body_of" fB fdB ["railway", "standing"] (spBody C)) (UC : Use P w K mg base CX0 7 "_counts_to" fC fdC ["railway", "start", "goal"] (spCntS C)) (US : Use P w K mg base CX0 6 "steps_from" fS fdS ["railway", "body"] (spStp C)) :
    FnOk P w K mg base CX0 8 f fd ["railway", "start", "goal"] (spLwy C) := by
  refine F.ok sc_lwy (fun vs H Q E h => ?_) (fun cdv A outer s H vs Q E hr h => ?_)
  · obtain ⟨r, t, g, tr, l, m, rfl, _⟩ := h
    rfl
  · obtain ⟨r, t, g, tr, l, m, rfl, R, ht, b, hg, ld, k⟩ := h
    have hu64 : (A.deeper (envOfC "least_way" (defScope s_least_way) s.heap.objs.size f cdv)).units + 64 < cLine := hr.units
    refine ⟨_, (pss_cons (ps_set (i := 3) sc_lwy.nd rfl (.inl rfl) (pe_use UB (hr.mono (by decide)) (by rfl) (pa_cons (pv 0) (pa_cons (pv 1) pa_nil))))
        (pss_cons (ps_set (i := 4) sc_lwy.nd rfl (.inr rfl) (pe_use UC hr (by rfl) (pa_cons (pv 0) (pa_cons (pv 3) (pa_cons (pe_use UB (hr.mono (by decide)) (by rfl) (pa_cons (pv 0) (pa_cons (pv 2) pa_nil))) pa_nil)))))
        (pss_cons (ps_set (i := 5) sc_lwy.nd rfl (.inl rfl) (pe_dget (hu_of hr) (pv 4) (pv 3) (fun _ _ => rfl)))
        (pss_cons (ps_set (i := 6) sc_lwy.nd rfl (.inl rfl) (pe_lst pa_nil))
        (pss_cons (ps_for PassesOwn.never rfl (pi_range3 (by rfl) N.range (pa_cons (pe_op op_sub (pv 5) pe_int) (pa_cons (pe_un un_neg pe_int) (pa_cons (pe_un un_neg pe_int) pa_nil)))) (pg_name (i := 7) sc_lwy.nd rfl (.inr rfl))
          (pss_cons (ps_setLc (i := 8) (own := [("step", 9)]) (g := (gName 9)) (by rfl) sc_lwy.nd rfl rfl (sw_true rfl rfl rfl (by decide +kernel)) (pi_list (pe_use US (hr.mono (by decide)) (by rfl) (pa_cons (pv 0) (pa_cons (pv 3) pa_nil)))) (blkOk_by (N := N_sc_lwy) (sc := defScope s_least_way) (by decide +kernel)) (fun _ _ _ _ _ => pg_name (i := 9) sc_lwy.nd rfl (Or.inl rfl)) (fun _ _ _ _ _ => pts_one (pt_cmpR op_eq (pe_dget1 (hu1 hu64) (pv 4) (pe_ix (it_K (K := K) rfl) (pv 9) pe_int (fun _ _ => rfl)) ⟨rfl, rfl, rfl, rfl⟩) (pv 7) (nomark _))) (fun _ _ _ _ _ => (pv 9)))
          (pss_cons (ps_asg (pe_ix ix_list (pv 8) pe_int (fun _ _ => rfl)) (pg_tup rfl (pgs_cons (pg_name (i := 10) sc_lwy.nd rfl (.inl rfl)) (pgs_cons (pg_name (i := 3) sc_lwy.nd rfl (.inl rfl)) pgs_nil))))
          (pss_one (ps_expr (pe_bm PySem.F.plainAttrs_list PySem.F.slot_list_append PySem.F.type_list_append mt_append (pv 6) (pa_cons (pv 10) pa_nil)))))))
        (pss_one (ps_ret (pe_callTy call_tuple_of (by rfl) N.tuple boot_tuple (pa_cons (pv 6) pa_nil))))))))), ?_⟩
    have T := R.T
    have few := R.few
    have c := (ld.bd T b).1
    have ld2 := ld.symm T b
    refine ⟨_, rfl, _, rfl, r, t, tr, hd0 l, lt0 l, rfl, R, ht, b.hle, b.lle, b.ne, fun l2 pb H1 sw s1 npb hpb => ?_⟩
    cases SW.uniq T sw b.sw
    refine ⟨_, rfl, _, rfl, _, rfl, _, rfl, r, g, tr, hd0 m, lt0 m, rfl, R.same s1, s1 _ _ hg, c.hle, c.lle, c.ne, fun m2 pm H2 sw2 s2 npm hpm => ?_⟩
    cases SW.uniq T sw2 c.sw
    have s12 := s1.trans s2
    refine ⟨r, pb, pm, tr, l, m, rfl, R.same s12, s2 _ _ hpb, hpm, c, ld2, fun D kvs bs H3 s3 nD hD dg nd hl hin => ?_⟩
    have s13 := s12.trans s3
    have hpb3 := s3 _ _ (s2 _ _ hpb)
    have inb : l ∈ bs := hin l ld2 (Nat.le_refl _)
    have bnd := gd_bound T b ld
    have nine : (tr.length + 1) * (tr.length + 1) ≤ 10000 := Nat.mul_le_mul (show tr.length + 1 ≤ 100 by omega) (show tr.length + 1 ≤ 100 by omega)
    have dgt : ∀ {Hx : Hp} {p : Addr} {y : List Nat}, Hx D = some (.dT kvs) → BdR Hx p y → DGet Hx D (.ref p) (valV kvs (keyL y)) := fun {Hx p y} h1 h2 => DGet.t (k := keyL y) h1 (by rw [keyL_kV]; exact h2)
    refine ⟨_, rfl, _, rfl, D, _, rfl, (by rw [← dg.get nd inb]; exact dgt hD hpb3), ?_⟩
    clear s1 s2 s3 npb hpb hpm sw sw2 npm
    generalize eN : gd tr l m = N at bnd hin k ⊢
    refine ⟨Nat.zero_le _, fun M nM => ?_⟩
    have sM := same_upd nM (.lst [])
    have ac0 := Acc.start (R := MvR) nM
    have hpb4 := sM _ _ hpb3
    generalize upd H3 M (.lst []) = H4 at sM ac0 hpb4 ⊢
    refine ⟨_, rfl, _, _, rfl, rfl, _, rfl, _, rfl, _, _, _, N, rfl, rgc_down N (by omega), ?_⟩
    refine for_rangeC (fun i σ H' => ∃ (x : List Nat) (pb : Addr) (ps : List Addr) (done : List Mv) (x7 x8 x9 x10 : Option V), σ = [some (.ref r), some (.ref t), some (.ref g), some (.ref pb), some (.ref D), some (iv N), some (.ref M), x7, x8, x9, x10] ∧ Acc MvR H3 H' M ps done ∧ BdR H' pb x ∧ Bd tr x ∧ Leads tr x m ∧ gd tr x m = N - i ∧ i ≤ N ∧ done.length = i ∧ done ++ lwy tr m (N - i) x = lwy tr m N l)
      ⟨l, pb, [], [], _, _, _, _, rfl, ac0, hpb4, b, ld, by omega, Nat.zero_le _, rfl, rfl⟩ ?_ ?_
    · clear ac0 hpb4 sM H4
      rintro i σ H4 hi ⟨x, pb, ps, done, x7, x8, x9, x10, rfl, ac, hpx, bx, lx, ex, iN, dl, el⟩
      have s34 := ac.sm
      have s4 := s13.trans s34
      have cnt : ((N : Int) - 1 + ((i : Nat) : Int) * -1) = ((N - i - 1 : Nat) : Int) := by omega
      rw [cnt]
      have ek : N - i = N - i - 1 + 1 := by omega
      rw [ek] at ex el
      generalize N - i - 1 = kk at ex el ek ⊢
      obtain ⟨mv, rs, ef, e2, hmv, em, lm⟩ := lwy_cons lx ex
      refine ⟨_, rfl, _, rfl, r, pb, tr, x, rfl, R.same s4, hpx, bx, fun z zs H5 s5 hz LZ => ⟨z, rfl, ⟨_, SqL.of hz⟩, fun C nC => ?_⟩⟩
      have hD5 := (s34.trans s5) _ _ hD
      refine lc_list (K := K) (a := z) (xs := zs.map V.ref) (fun j H' => ∃ qs, Acc StR H5 H' C qs (((stpL tr x).take j).filter fun y => decide (gd tr y.2 m = kk))) ⟨[], .start nC⟩ (fun j H' _ ⟨_, a⟩ => SqL.of (a.sm _ _ hz)) ?_ ?_
      · rintro j v H' hv ⟨qs, a5⟩
        obtain ⟨pp, y, rfl, hpp, hy, hR⟩ := LZ.get hv
        obtain ⟨w, hw, rfl⟩ := map_got hy
        have hR' := firmS _ _ _ _ a5.sm hR
        obtain ⟨mp, bp, h1, h2, h3⟩ := hR
        have h1 := a5.sm _ _ h1
        have h3 : BdR H' bp (aft x w) := firmB _ _ _ _ a5.sm h3
        have hD' := a5.sm _ _ hD5
        have wp := List.mem_of_getElem? hw
        have lw := (gd_far T bx (can_of wp) lx).2
        have bw := (bx.aft T (can_of wp)).1
        have lws := lw.symm T bw
        have es := fil_snoc (fun y : Mv × List Nat => decide (gd tr y.2 m = kk)) id hy
        rw [List.map_id, List.map_id] at es
        have fl := fil_len (xs := stpL tr x) (i := j) (fun y : Mv × List Nat => decide (gd tr y.2 m = kk))
        have pl2 := poss_len2 T x
        have sl : (stpL tr x).length = (poss tr x).length := List.length_map _
        refine ⟨rfl, _, rfl, D, rfl, .inr ⟨kvs, .inl hD'⟩, _, rfl, pp, _, _, _, rfl, rfl, SqT.of h1, atN (n := 1) rfl, _, dgt hD' h3, ?_⟩
        have sca : L2.scal ((valV kvs (keyL (aft x w))).getD V.non) (V.int (kk : Int)) = true := by
          by_cases inw : aft x w ∈ bs
          · rw [dg.get nd inw]
            rfl
          · rw [dg.non inw]
            rfl
        refine ⟨_, rfl, sca, _, rfl, ?_⟩
        by_cases cw : gd tr (aft x w) m = kk
        · have inw := hin (aft x w) lws (by omega)
          rw [dg.get nd inw, show decide ((some (iv (gd tr (aft x w) m))).getD V.non = V.int (kk : Int)) = true from decide_eq_true (by rw [cw]; rfl)]
          refine iteT ?_
          rw [if_pos (decide_eq_true cw)] at es
          have lq := a5.lay.len
          refine ⟨_, rfl, _, a5.own, by rw [List.length_map, sizeLine_eq]; omega, qs ++ [pp], ?_⟩
          rw [es]
          exact a5.push firmS tupyS nC (Same.refl _) ⟨mp, bp, h1, firmM _ _ _ _ a5.sm h2, h3⟩
        · have nf : decide ((valV kvs (keyL (aft x w))).getD V.non = V.int (kk : Int)) = false := by
            refine decide_eq_false fun z => ?_
            by_cases inw : aft x w ∈ bs
            · rw [dg.get nd inw] at z
              exact cw (iv_inj.mp z)
            · rw [dg.non inw] at z
              cases z
          rw [nf]
          refine iteF ?_
          rw [if_neg (by rw [decide_eq_true_iff]; exact cw), List.append_nil] at es
          exact ⟨qs, by rw [es]; exact a5⟩
      rintro H6 ⟨qs, a6⟩
      have zl : (zs.map V.ref).length = (stpL tr x).length := by rw [List.length_map, LZ.len]
      rw [zl, List.take_length] at a6
      have ef2 : (stpL tr x).filter (fun y => decide (gd tr y.2 m = kk)) = (mv, aft x mv) :: rs.map fun w => (w, aft x w) := by
        unfold stpL
        rw [List.filter_map, ← List.map_cons (f := fun w => (w, aft x w)), ← ef]
        congr 1
        refine List.filter_congr fun w hw => ?_
        refine decide_eq_decide.mpr ⟨fun h => ⟨h, (gd_far T bx (can_of hw) lx).2⟩, fun h => h.1⟩
      rw [ef2] at a6
      obtain ⟨q0, hq0, mp, bp, h1, h2, h3⟩ := a6.lay.of (i := 0) (x := (mv, aft x mv)) rfl
      have s36 := (s34.trans s5).trans a6.sm
      refine ⟨_, rfl, C, _, _, _, rfl, rfl, SqL.of a6.own, atN (n := 0) (by rw [List.getElem?_map, hq0]; rfl), ?_⟩
      refine ⟨q0, _, rfl, SqT.of h1, rfl, _, _, rfl, _, _, rfl, rfl, ?_⟩
      have ac6 := (ac.later firmM s5).later firmM a6.sm
      have lq := ac.lay.len
      refine ⟨_, rfl, .inl ⟨rfl, _, SqL.of ac6.own⟩, _, rfl, M, _, _, rfl, rfl, ac6.own, by rw [List.length_map, sizeLine_eq]; omega, ?_⟩
      refine ⟨aft x mv, bp, ps ++ [mp], done ++ [mv], _, _, _, _, rfl, ac6.push firmM tupyM nM (Same.refl _) h2, tupyB _ _ _ _ _ _ ac6.own h3, (bx.aft T (can_of hmv)).1, lm, em, by omega, by rw [List.length_append, dl]; rfl, ?_⟩
      rw [← el, e2, List.append_assoc]
      rfl
    rintro σ H4 ⟨x, pb, ps, done, x7, x8, x9, x10, rfl, ac, hpx, bx, lx, ex, iN, dl, el⟩
    rw [Nat.sub_self] at el
    have el : done = lwy tr m N l := by rw [← el]; exact (List.append_nil _).symm
    refine ⟨_, rfl, M, _, rfl, .inl ⟨SqL.of ac.own, fun z nz => ?_⟩⟩
    have sz := same_upd nz (.tup (ps.map V.ref))
    have s4 := s13.trans ac.sm
    refine k z ps _ (s4.trans sz) (s4.free nz) upd_same ?_
    rw [← el]
    exact ac.lay.same firmM sz
end
end TR
namespace TR
open PySem PySem.Spec PyProof.Rows L2 L2.TT StX ClX
def spCkw (C : Addr) : Sp := fun vs H Q _ => ∃ (r t g : Addr) (tr : List E2) (l m : List Nat), vs = [.ref r, .ref t, .ref g] ∧ RailAt C H r tr ∧ H t = some (.tup [iv (hd0 l), iv (lt0 l)]) ∧ Bd tr l ∧ H g = some (.tup [iv (hd0 m), iv (lt0 m)]) ∧ Leads tr l m ∧
  ∀ H', Same H H' → Q .non H'
def spShw (C : Addr) : Sp := fun vs H Q _ => ∃ (r t g : Addr) (tr : List E2) (l m : List Nat), vs = [.ref r, .ref t, .ref g] ∧ RailAt C H r tr ∧ tr.length ≤ 39 ∧ H t = some (.tup [iv (hd0 l), iv (lt0 l)]) ∧ Bd tr l ∧ H g = some (.tup [iv (hd0 m), iv (lt0 m)]) ∧ Leads tr l m ∧
  ∀ (p : Addr) (ps : List Addr) (H' : Hp), Same H H' → H p = none → H' p = some (.tup (ps.map V.ref)) → Lay MvR H' ps (lwy tr m (gd tr l m) l) → Q (.ref p) H'
def spFew (C : Addr) : Sp := fun vs H Q _ => ∃ (r t g : Addr) (tr : List E2) (l m : List Nat), vs = [.ref r, .ref t, .ref g] ∧ RailAt C H r tr ∧ tr.length ≤ 39 ∧ H t = some (.tup [iv (hd0 l), iv (lt0 l)]) ∧ Bd tr l ∧ H g = some (.tup [iv (hd0 m), iv (lt0 m)]) ∧ Leads tr l m ∧
  ∀ H', Same H H' → Q (iv (gd tr l m)) H'
section
variable {P : Program} {w : World} {K : PySem.W.Frag} {mg : Str → Option Value} {base : Heap}
abbrev N_sc_ckw : List Str := ["railway", "start", "goal", "reason"]
theorem sc_ckw : FnScope N_sc_ckw ["railway", "start", "goal"] (defScope s_check_way) := ⟨rfl, rfl, rfl, by decide +kernel, rfl, by decide +kernel, by decide +kernel⟩
theorem ok_ckw {f fR C : Addr} {fd fdR : FuncData} (F : Fun K "_check_way" "_check_way" s_check_way f fd) (UR : Use P w K mg base CX0 16 "reason_against" fR fdR ["railway", "start", "goal"] (spRsn C)) : FnOk P w K mg base CX0 17 f fd ["railway", "start", "goal"] (spCkw C) := by
  refine F.ok sc_ckw (fun vs H Q E h => ?_) (fun cdv A outer s H vs Q E hr h => ?_)
  · obtain ⟨r, t, g, tr, l, m, rfl, _⟩ := h
    rfl
  · obtain ⟨r, t, g, tr, l, m, rfl, R, ht, b, hg, ld, k⟩ := h
    refine ⟨_, (pss_cons (ps_set (i := 3) sc_ckw.nd rfl (.inl rfl) (pe_use UR hr (by rfl) (pa_cons (pv 0) (pa_cons (pv 1) (pa_cons (pv 2) pa_nil)))))
        (pss_one (ps_if (pt_cmp (pc_notN (pv 3))) (pss_one L2.ps_never) pss_nil))), ?_⟩
    obtain ⟨c, e⟩ := ld.bd R.T b
    refine ⟨_, rfl, _, rfl, _, rfl, r, t, g, tr, l, m, rfl, R, ht, b, hg, c, e, fun v H1 s1 rv => ?_⟩
    rcases rv with ⟨_, rfl⟩ | ⟨h1, _⟩
    · refine ⟨_, rfl, _, rfl, ?_⟩
      rw [show (!decide (V.non = V.non)) = false from by simp]
      refine iteF ?_
      exact k H1 s1
    · exact absurd ld h1
abbrev N_sc_shw : List Str := ["railway", "start", "goal"]
theorem sc_shw : FnScope N_sc_shw ["railway", "start", "goal"] (defScope s_shortest_way) := ⟨rfl, rfl, rfl, by decide +kernel, rfl, by decide +kernel, by decide +kernel⟩
theorem ok_shw {f fC fK fL C pz gz : Addr} {tk : Tok} {fd fdC fdK fdL fdz : FuncData} (F : Fun K "shortest_way" "shortest_way" s_shortest_way f fd) (mS : mg "MOST_SEARCHED" = some (.int 40 tk)) (Z : SizeOf P w K mg base C pz gz fdz) (UC : Use P w K mg base CX0 8 "common_length" fC fdC ["railway", "start", "goal"] (spCmL C)) (UK : Use P w K mg base CX0 17 "_check_way" fK fdK ["railway", "start", "goal"] (spCkw C)) (UL : Use P w K mg base CX0 8 "least_way" fL fdL ["railway", "start", "goal"] (spLwy C)) : FnOk P w K mg base CX0 18 f fd ["railway", "start", "goal"] (spShw C) := by
  refine F.ok sc_shw (fun vs H Q E h => ?_) (fun cdv A outer s H vs Q E hr h => ?_)
  · obtain ⟨r, t, g, tr, l, m, rfl, _⟩ := h
    rfl
  · obtain ⟨r, t, g, tr, l, m, rfl, R, few, ht, b, hg, ld, k⟩ := h
    refine ⟨_, (pss_cons (ps_expr (pe_use UC (hr.mono (by decide)) (by rfl) (pa_cons (pv 0) (pa_cons (pv 1) (pa_cons (pv 2) pa_nil)))))
        (pss_cons (ps_if (pt_cmpR op_gt (pe_prop (pv 0) Z.cl Z.hp Z.G (hr.mono (by decide)) Z.b .nil pass0 rfl) (pe_glob (v := .int 40) (by rfl) mS ⟨_, rfl⟩) (nomark _)) (pss_one L2.ps_never) pss_nil)
        (pss_cons (ps_expr (pe_use UK hr (by rfl) (pa_cons (pv 0) (pa_cons (pv 1) (pa_cons (pv 2) pa_nil)))))
        (pss_one (ps_ret (pe_use UL (hr.mono (by decide)) (by rfl) (pa_cons (pv 0) (pa_cons (pv 1) (pa_cons (pv 2) pa_nil))))))))), ?_⟩
    obtain ⟨c, e⟩ := ld.bd R.T b
    refine ⟨_, rfl, _, rfl, _, rfl, r, t, g, tr, l, m, rfl, R, ht, b, hg, c, e, fun H1 s1 => ?_⟩
    obtain ⟨_, _, dx, tt0, na, Aa, L, ps0, ts0, h1, _⟩ := id (R.same s1)
    refine ⟨_, rfl, r, dx, _, rfl, h1, r, tr, rfl, R.same s1, _, _, rfl, rfl, _, rfl, ?_⟩
    rw [show decide ((40 : Int) < (tr.length : Int) + 1) = false from decide_eq_false (by omega)]
    refine iteF ?_
    refine ⟨_, rfl, _, rfl, _, rfl, r, t, g, tr, l, m, rfl, R.same s1, s1 _ _ ht, b, s1 _ _ hg, ld, fun H2 s2 => ?_⟩
    have s12 := s1.trans s2
    exact ⟨_, rfl, _, rfl, _, rfl, r, t, g, tr, l, m, rfl, R.same s12, s12 _ _ ht, b, s12 _ _ hg, ld, fun p ps H3 s3 np hp LM => k p ps H3 (s12.trans s3) (s12.free np) hp LM⟩
abbrev N_sc_few : List Str := ["railway", "start", "goal"]
theorem sc_few : FnScope N_sc_few ["railway", "start", "goal"] (defScope s_fewest_moves) := ⟨rfl, rfl, rfl, by decide +kernel, rfl, by decide +kernel, by decide +kernel⟩
theorem ok_few {f fS C : Addr} {fd fdS : FuncData} (F : Fun K "fewest_moves" "fewest_moves" s_fewest_moves f fd) (N : Nm mg) (US : Use P w K mg base CX0 18 "shortest_way" fS fdS ["railway", "start", "goal"] (spShw C)) : FnOk P w K mg base CX0 19 f fd ["railway", "start", "goal"] (spFew C) := by
  refine F.ok sc_few (fun vs H Q E h => ?_) (fun cdv A outer s H vs Q E hr h => ?_)
  · obtain ⟨r, t, g, tr, l, m, rfl, _⟩ := h
    rfl
  · obtain ⟨r, t, g, tr, l, m, rfl, R, few, ht, b, hg, ld, k⟩ := h
    refine ⟨_, (pss_one (ps_ret (pe_callB call_len_seq (by rfl) N.len boot_len (pa_cons (pe_use US hr (by rfl) (pa_cons (pv 0) (pa_cons (pv 1) (pa_cons (pv 2) pa_nil)))) pa_nil)))), ?_⟩
    refine ⟨_, rfl, _, rfl, _, rfl, r, t, g, tr, l, m, rfl, R, few, ht, b, hg, ld, fun p ps H1 s1 np hp LM => ?_⟩
    refine ⟨p, _, rfl, .inr (SqT.of hp), ?_⟩
    rw [List.length_map, LM.len, (lwy_ok _ l m ld rfl).2.2]
    exact k H1 s1
end
end TR
namespace TR
open PySem PySem.Spec PyProof.Rows L2 L2.TT StX ClX
/-- moves may be shown -/
structure ShwM (l : List Mv) : Prop where
  sh : PyData.showableAll (l.map mvD) = true
  lv : PyData.leavesShortAll 13 (l.map mvD) = true
  wt : PyData.weightAll (l.map mvD) ≤ 40 * l.length
theorem shwM_of : ∀ {l : List Mv}, (∀ m ∈ l, m.2 ≤ 999) → ShwM l
  | [], _ => ⟨rfl, rfl, Nat.le_refl _⟩
  | m :: l, h => by
    have ih := shwM_of (l := l) fun z hz => h z (List.mem_cons_of_mem _ hz)
    have hm := h m (by simp)
    obtain ⟨i1, i2, i3, i4⟩ := int_show (i := (m.2 : Int)) (by omega) (by omega)
    have w1 : (PyData.str (mvw m.1)).showable = true := rfl
    have w2 : (PyData.str (mvw m.1)).leavesShort 13 = true := by cases m.1 <;> decide +kernel
    have w3 : (PyData.str (mvw m.1)).weight ≤ 20 := by cases m.1 <;> decide +kernel
    refine ⟨?_, ?_, ?_⟩
    · show (((PyData.str (mvw m.1)).showable && ((di m.2).showable && true)) && PyData.showableAll (l.map mvD)) = true
      rw [w1, show (di m.2).showable = true from i1, ih.sh]
      rfl
    · show (((PyData.str (mvw m.1)).leavesShort 13 && ((di m.2).leavesShort 13 && true)) && PyData.leavesShortAll 13 (l.map mvD)) = true
      rw [w2, show (di m.2).leavesShort 13 = true from i2, ih.lv]
      rfl
    · have h3 : (di m.2).weight ≤ 10 := i3
      have := ih.wt
      show ((PyData.str (mvw m.1)).weight + 1 + ((di m.2).weight + 1 + 0)) + 1 + PyData.weightAll (l.map mvD) ≤ 40 * (l.length + 1)
      omega
theorem okM_le {tr : List E2} (T : TreeL tr) : ∀ (ms : List Mv) {l : List Nat}, okM tr l ms = true → ∀ m ∈ ms, m.2 ≤ tr.length
  | [], _, _ => fun _ h => nomatch h
  | k :: ms, l, h => fun m hm => by
    have h : (canM tr l k && okM tr (aft l k) ms) = true := h
    rw [Bool.and_eq_true] at h
    rcases List.mem_cons.mp hm with rfl | hm
    · exact (T.adj_le ((mem_fre T).mp (of_decide_eq_true h.1)).1).2
    · exact okM_le T ms h.2 m hm
/-- two tuples of moves may be shown -/
theorem rep_mv2 {K : PySem.W.Frag} {H : Hp} {p q : Addr} {ps qs : List Addr} {ms : List Mv} (hp : H p = some (.tup (ps.map V.ref))) (hq : H q = some (.tup (qs.map V.ref))) (L1 : Lay MvR H ps ms) (L2 : Lay MvR H qs ms) (hm : ∀ m ∈ ms, m.2 ≤ 999) (hl : ms.length ≤ 1000) : RepF K H [.ref p, .ref q] [.tuple (ms.map mvD), .tuple (ms.map mvD)] := by
  have S := shwM_of hm
  have w := S.wt
  have d := mvs_depth ms
  have c : (PyData.tuple (ms.map mvD)).canLay0 = true := mvs_lay ms
  refine ⟨.inl ⟨.cons (.tup (SqT.of hp) (mvs_dp L1)) (.cons (.tup (SqT.of hq) (mvs_dp L2)) .nil), ?_⟩, ?_, ?_, ?_, ?_⟩
  · show ((PyData.tuple (ms.map mvD)).canLay0 && ((PyData.tuple (ms.map mvD)).canLay0 && true)) = true
    rw [c]
    rfl
  · show (PyData.showableAll (ms.map mvD) && (PyData.showableAll (ms.map mvD) && true)) = true
    rw [S.sh]
    rfl
  · show (PyData.leavesShortAll 13 (ms.map mvD) && (PyData.leavesShortAll 13 (ms.map mvD) && true)) = true
    rw [S.lv]
    rfl
  · show PyData.weightAll (ms.map mvD) + 1 + (PyData.weightAll (ms.map mvD) + 1 + 0) ≤ 1000000
    omega
  · show max (PyData.depthAll (ms.map mvD) + 1) (max (PyData.depthAll (ms.map mvD) + 1) 0) ≤ 20
    omega
end TR
namespace TR
open PySem PySem.Spec PyProof.Rows L2 L2.TT StX ClX
def spRgt (C : Addr) (K : PySem.W.Frag) : Sp := fun vs H Q _ => ∃ (r a t g : Addr) (tr : List E2) (l m : List Nat), vs = [.ref r, .ref a, .ref t, .ref g] ∧ RailAt C H r tr ∧ Ard K H a tr ∧ tr.length ≤ 8 ∧ H t = some (.tup [iv (hd0 l), iv (lt0 l)]) ∧ Bd tr l ∧ H g = some (.tup [iv (hd0 m), iv (lt0 m)]) ∧ Leads tr l m ∧
  ∀ H', Same H H' → Q (.bl true) H'
section
variable {P : Program} {w : World} {K : PySem.W.Frag} {mg : Str → Option Value} {base : Heap}
abbrev N_sc_rgt : List Str := ["net", "web", "first", "last", "due", "told"]
theorem sc_rgt : FnScope N_sc_rgt ["net", "web", "first", "last"] (defScope s_law_right) := ⟨rfl, rfl, rfl, by decide +kernel, rfl, by decide +kernel, by decide +kernel⟩
theorem ok_rgt {f fE fS fF fW fK C : Addr} {fd fdE fdS fdF fdW fdK : FuncData} (F : Fun K "_law_right" "_law_right" s_law_right f fd) (N : Nm mg) (UE : Use P w K mg base CX0 3 "_law_least" fE fdE ["web", "first", "gaps"] (spLst K)) (US : Use P w K mg base CX0 3 "_law_search" fS fdS ["web", "pair"] (spSrc K))
    (UF : UseK P w K mg base 19 "fewest_moves" fF fdF ["railway", "start", "goal"] ["goal", "start", "railway"] rv3 (spFew C)) (UW : UseK P w K mg base 18 "shortest_way" fW fdW ["railway", "start", "goal"] ["goal", "start", "railway"] rv3 (spShw C)) (UK : Use P w K mg base CX0 3 "_law_walked" fK fdK ["web", "pair", "moves"] (spWlk K)) :
    FnG P w K mg base CX0 20 f fd ["net", "web", "first", "last"] (spRgt C K) := by
  refine L2.TT.Fun.okG F sc_rgt (fun vs H Q E h => ?_) (fun cdv A outer s H vs Q E hG hr h => ?_)
  · obtain ⟨r, a, t, g, tr, l, m, rfl, _⟩ := h
    rfl
  · obtain ⟨r, a, t, g, tr, l, m, rfl, R, hA, few, ht, b, hg, ld, k⟩ := h
    have hu64 : (A.deeper (envOfC "_law_right" (defScope s_law_right) s.heap.objs.size f cdv)).units + 64 < cLine := hr.units
    have hr3 : Room 3 (A.deeper (envOfC "_law_right" (defScope s_law_right) s.heap.objs.size f cdv)) := hr.mono (by decide)
    have hr18 : Room 18 (A.deeper (envOfC "_law_right" (defScope s_law_right) s.heap.objs.size f cdv)) := hr.mono (by decide)
    refine ⟨_, (pss_cons (ps_set (i := 4) sc_rgt.nd rfl (.inl rfl) (pe_use UE hr3 (by rfl) (pa_cons (pv 1) (pa_cons (pv 2) (pa_cons (pe_use US hr3 (by rfl) (pa_cons (pv 1) (pa_cons (pv 3) pa_nil))) pa_nil)))))
        (pss_cons (ps_set (i := 5) sc_rgt.nd rfl (.inl rfl) (pe_lst (pa_cons (pe_use UF.toUse hr (by rfl) (pa_cons (pv 0) (pa_cons (pv 2) (pa_cons (pv 3) pa_nil)))) (pa_cons (pe_callKW0 (hV := rv3) UF.G hr UF.kb (fun hl r => rv3_vals hl r) pass0 (by rfl) UF.m UF.kp (pk_cons (pv 3) (pk_cons (pv 2) (pk_cons (pv 0) pk_nil)))) pa_nil))))
        (pss_cons (ps_if (PW.pt (pw_or (pt_cmpR op_ne (pe_callB (call_repr hG hu64) (by rfl) N.repr boot_repr (pa_cons (pv 5) pa_nil)) (pe_callB (call_repr hG hu64) (by rfl) N.repr boot_repr (pa_cons (pe_op op_rep (pe_lst (pa_cons (pe_callB call_len_seq (by rfl) N.len boot_len (pa_cons (pv 4) pa_nil)) pa_nil)) pe_int) pa_nil)) (nomark _)) (pw_or1 (pt_cmpR op_ne (pe_use UF.toUse hr (by rfl) (pa_cons (pv 0) (pa_cons (pv 3) (pa_cons (pv 2) pa_nil)))) (pe_callB call_len_seq (by rfl) N.len boot_len (pa_cons (pv 4) pa_nil)) (nomark _))))) (pss_one (ps_ret pe_bl)) pss_nil)
        (pss_cons (ps_set (i := 5) sc_rgt.nd rfl (.inl rfl) (pe_lst (pa_cons (pe_use UW.toUse hr18 (by rfl) (pa_cons (pv 0) (pa_cons (pv 2) (pa_cons (pv 3) pa_nil)))) (pa_cons (pe_callKW0 (hV := rv3) UW.G hr18 UW.kb (fun hl r => rv3_vals hl r) pass0 (by rfl) UW.m UW.kp (pk_cons (pv 3) (pk_cons (pv 2) (pk_cons (pv 0) pk_nil)))) pa_nil))))
        (pss_one (ps_ret (pe_and (pe_cmpR op_eq (pe_callB (call_repr hG hu64) (by rfl) N.repr boot_repr (pa_cons (pv 5) pa_nil)) (pe_callB (call_repr hG hu64) (by rfl) N.repr boot_repr (pa_cons (pe_lst (pa_cons (pv 4) (pa_cons (pv 4) pa_nil))) pa_nil)) (nomark _)) (pe_one (pe_cmpR (op_eqD hu64) (pe_use UK hr3 (by rfl) (pa_cons (pv 1) (pa_cons (pv 2) (pa_cons (pv 4) pa_nil)))) (pv 3) (nomark _)))))))))), ?_⟩
    have two : (2 : Nat) ≤ sizeLine := by rw [sizeLine_eq]; decide
    have one : (1 : Nat) ≤ sizeLine := by rw [sizeLine_eq]; decide
    have T := R.T
    obtain ⟨c, e⟩ := ld.bd T b
    have ld2 := ld.symm T b
    have bnd := gd_bound T b ld
    have nine : (tr.length + 1) * (tr.length + 1) ≤ 81 := Nat.mul_le_mul (show tr.length + 1 ≤ 9 by omega) (show tr.length + 1 ≤ 9 by omega)
    have gs := gd_symm T b ld
    obtain ⟨ok, en, ll⟩ := lwy_ok _ l m ld rfl
    have hm9 : ∀ mv ∈ lwy tr m (gd tr l m) l, mv.2 ≤ 999 := fun mv h => by
      have := okM_le T _ ok mv h
      omega
    generalize hms : lwy tr m (gd tr l m) l = ms at ok en ll hm9
    have n9 : ms.length ≤ 999 := by omega
    have ll2 : gd tr m l = ms.length := by omega
    refine ⟨_, rfl, _, rfl, _, rfl, _, rfl, a, g, tr, m, rfl, hA, T, by omega, hg, c, fun D kvs bs H1 s1 nD hD dk nd all => ?_⟩
    refine ⟨a, t, D, tr, l, m, kvs, bs, rfl, hA.same s1, T, by omega, s1 _ _ ht, b, hD, dk, nd, all, ld, fun p ps H2 s2 np hp LM => ?_⟩
    rw [hms] at LM
    have s12 := s1.trans s2
    clear hD dk nd all s1 s2 np nD
    have lps := LM.len
    refine ⟨_, rfl, _, rfl, _, rfl, r, t, g, tr, l, m, rfl, R.same s12, by omega, s12 _ _ ht, b, s12 _ _ hg, ld, fun H3 s3 => ?_⟩
    have s13 := s12.trans s3
    refine ⟨_, rfl, _, rfl, _, rfl, rfl, r, t, g, tr, l, m, rfl, R.same s13, by omega, s13 _ _ ht, b, s13 _ _ hg, ld, fun H4 s4 => ⟨two, fun L1 n1 => ?_⟩⟩
    have s34 := s3.trans s4
    have sL := same_upd n1 (.lst [iv (gd tr l m), iv (gd tr l m)])
    have hL := upd_same (H := H4) (a := L1) (o := .lst [iv (gd tr l m), iv (gd tr l m)])
    have s25 := s34.trans sL
    generalize upd H4 L1 (.lst [iv (gd tr l m), iv (gd tr l m)]) = H5 at sL hL s25 ⊢
    have s15 := s12.trans s25
    have hp5 := s25 _ _ hp
    have LM5 := LM.same firmM s25
    clear s34 s3 s4 sL n1 s13 H3 H4
    rw [← ll] at hL
    obtain ⟨e1, e2, e3, e4, e5⟩ := rep_two (K := K) (H := H5) n9 n9
    refine ⟨_, rfl, L1, _, _, rfl, SqL.of hL, e1, e2, e3, e4, e5, ?_⟩
    refine ⟨_, rfl, p, _, rfl, .inr (SqT.of hp5), one, fun D6 n6 => ⟨D6, 2, _, rfl, rfl, upd_same, by decide, by decide, by rw [sizeLine_eq]; show 1 * 2 ≤ 16777216; decide, fun D7 n7 => ?_⟩⟩
    have e7 : (List.replicate (2 : Int).toNat [V.int ((ps.map V.ref).length : Int)]).flatten = [iv ms.length, iv ms.length] := by
      rw [List.length_map, lps]
      rfl
    rw [e7]
    have s6 := same_upd n6 (.lst [V.int ((ps.map V.ref).length : Int)])
    have s7 := same_upd n7 (.lst [iv ms.length, iv ms.length])
    have hD7 := upd_same (H := upd H5 D6 (.lst [V.int ((ps.map V.ref).length : Int)])) (a := D7) (o := .lst [iv ms.length, iv ms.length])
    have s57 := s6.trans s7
    generalize upd (upd H5 D6 (.lst [V.int ((ps.map V.ref).length : Int)])) D7 (.lst [iv ms.length, iv ms.length]) = H7 at hD7 s57 ⊢
    clear s6 s7 n6 n7 e7
    obtain ⟨g1, g2, g3, g4, g5⟩ := rep_two (K := K) (H := H7) n9 n9
    refine ⟨D7, _, _, rfl, SqL.of hD7, g1, g2, g3, g4, g5, rfl, _, rfl, ?_⟩
    refine iteF' (ne_str rfl) ?_
    have s17 := s15.trans s57
    have hp7 := s57 _ _ hp5
    have LM7 := LM5.same firmM s57
    refine ⟨_, rfl, _, rfl, _, rfl, r, g, t, tr, m, l, rfl, R.same s17, by omega, s17 _ _ hg, c, s17 _ _ ht, ld2, fun H8 s8 => ⟨_, rfl, p, _, rfl, .inr (SqT.of (s8 _ _ hp7)), rfl, _, rfl, ?_⟩⟩
    rw [show (!decide (iv (gd tr m l) = V.int ((ps.map V.ref).length : Int))) = false from by rw [ll2, List.length_map, lps]; simp [iv]]
    refine iteF ?_
    have s18 := s17.trans s8
    have hp8 := s8 _ _ hp7
    have LM8 := LM7.same firmM s8
    refine ⟨_, rfl, _, rfl, _, rfl, r, t, g, tr, l, m, rfl, R.same s18, by omega, s18 _ _ ht, b, s18 _ _ hg, ld, fun q1 ps1 H9 s9 nq1 hq1 LM1 => ?_⟩
    have s19 := s18.trans s9
    refine ⟨_, rfl, _, rfl, _, rfl, rfl, r, t, g, tr, l, m, rfl, R.same s19, by omega, s19 _ _ ht, b, s19 _ _ hg, ld, fun q2 ps2 Ha sa nq2 hq2 LM2 => ⟨two, fun L2 n2 => ?_⟩⟩
    rw [hms] at LM1 LM2
    have sL := same_upd n2 (.lst [V.ref q1, V.ref q2])
    have hL := upd_same (H := Ha) (a := L2) (o := .lst [V.ref q1, V.ref q2])
    have s9b := (s9.trans sa).trans sL
    have hq1 := sL _ _ (sa _ _ hq1)
    have hq2 := sL _ _ hq2
    have LM1 := (LM1.same firmM sa).same firmM sL
    have LM2 := LM2.same firmM sL
    generalize upd Ha L2 (.lst [V.ref q1, V.ref q2]) = Hb at hL s9b hq1 hq2 LM1 LM2 ⊢
    obtain ⟨e1, e2, e3, e4, e5⟩ := rep_mv2 (K := K) hq1 hq2 LM1 LM2 hm9 (by omega)
    refine ⟨_, rfl, L2, _, _, rfl, SqL.of hL, e1, e2, e3, e4, e5, ?_⟩
    have hpb := s9b _ _ hp8
    have LMb := LM8.same firmM s9b
    have s1b := s18.trans s9b
    refine ⟨_, rfl, _, rfl, two, fun L3 n3 => ?_⟩
    have s3 := same_upd n3 (.lst [V.ref p, V.ref p])
    have hL3 := upd_same (H := Hb) (a := L3) (o := .lst [V.ref p, V.ref p])
    have hpc := s3 _ _ hpb
    have LMc := LMb.same firmM s3
    have s1c := s1b.trans s3
    generalize upd Hb L3 (.lst [V.ref p, V.ref p]) = Hc at hL3 hpc LMc s1c ⊢
    obtain ⟨g1, g2, g3, g4, g5⟩ := rep_mv2 (K := K) hpc hpc LMc LMc hm9 (by omega)
    refine ⟨L3, _, _, rfl, SqL.of hL3, g1, g2, g3, g4, g5, ?_⟩
    refine ⟨rfl, _, rfl, ?_⟩
    rw [decide_eq_true rfl]
    refine iteT ?_
    refine ⟨_, rfl, _, rfl, _, rfl, a, t, p, tr, l, ps, ms, rfl, hA.same s1c, T, by omega, s1c _ _ ht, b, hpc, LMc, ok, fun z Hd sd hz => ?_⟩
    rw [en] at hz
    refine ⟨_, rfl, .tuple [di (hd0 m), di (lt0 m)], .tuple [di (hd0 m), di (lt0 m)], .tup (SqT.of hz) (dpAll_ints [_, _]), .tup (SqT.of (sd _ _ (s1c _ _ hg))) (dpAll_ints [_, _]), shaped_tup [_, _], shaped_tup [_, _], ?_⟩
    rw [show PyData.eqv (.tuple [di (hd0 m), di (lt0 m)]) (.tuple [di (hd0 m), di (lt0 m)]) = true from by rw [eqv_two]; simp]
    exact k Hd (s1c.trans sd)
end
end TR
namespace TR
open PySem PySem.Spec PyProof.Rows L2 L2.TT
def spAround (K : PySem.W.Frag) : Sp := fun vs H Q _ => ∃ (a : Addr) (ps : List Addr) (tr : List E2), vs = [.ref a] ∧ SqT K H a (ps.map V.ref) ∧ Prs H ps tr ∧ (∀ e ∈ tr, e.1 ≠ e.2 ∧ e.1 < tr.length + 1 ∧ e.2 < tr.length + 1) ∧ tr.length ≤ 999 ∧
  ∀ (D : Addr) (ts : List Addr) (H' : Hp), Same H H' → Rws H H' D (tr.length + 1) HO.lst ts (nb tr) → Q (.ref D) H'
section
variable {P : Program} {w : World} {K : PySem.W.Frag} {mg : Str → Option Value} {base : Heap}
theorem sc_linksW : FnScope ["tracks", "found", "one", "two", "k", "some"] ["tracks"] (defScope s_law_links) := ⟨rfl, rfl, rfl, by decide +kernel, rfl, by decide +kernel, by decide +kernel⟩
theorem ok_linksW {f : Addr} {fd : FuncData} (F : Fun K "_law_links" "_law_links" s_law_links f fd) (N : Nm mg) : FnOk P w K mg base CX0 1 f fd ["tracks"] (spAround K) := by
  refine F.ok sc_linksW (fun vs H Q E h => ?_) (fun cdv A outer s H vs Q E hr h => ?_)
  · obtain ⟨a, ps, tr, rfl, _⟩ := h
    rfl
  · obtain ⟨a, ps, tr, rfl, hS, hP, T, hl, k⟩ := h
    refine ⟨_, pss_cons (ps_setLc (i := 1) (own := [("k", 4)]) (g := gName 4) (tt := tYes) (by rfl) sc_linksW.nd rfl rfl (sw_true rfl rfl rfl (by decide +kernel))
        (pi_range1 (by rfl) N.range (pa_cons (pe_op op_add (pe_callB call_len_seq (by rfl) N.len PySem.boot_len (pa_cons (pv 0) pa_nil)) pe_int) pa_nil))
        (blkOk_by (N := ["tracks", "found", "one", "two", "k", "some"]) (sc := defScope s_law_links) (by decide +kernel))
        (fun _ _ _ _ _ => pg_name (i := 4) sc_linksW.nd rfl (Or.inl rfl)) (fun _ _ _ _ _ => pts_nil) (fun _ _ _ _ _ => pe_lst pa_nil))
      (pss_cons (ps_for PassesOwn.never rfl (pi_tup (pv 0)) (pg_tup rfl (pgs_cons (pg_name (i := 2) sc_linksW.nd rfl (.inl rfl)) (pgs_cons (pg_name (i := 3) sc_linksW.nd rfl (.inl rfl)) pgs_nil)))
        (pss_cons (ps_expr (pe_bm PySem.F.plainAttrs_list PySem.F.slot_list_append PySem.F.type_list_append mt_append (pe_ix ix_list (pv 1) (pv 2) (fun _ _ => rfl)) (pa_cons (pv 3) pa_nil)))
        (pss_one (ps_expr (pe_bm PySem.F.plainAttrs_list PySem.F.slot_list_append PySem.F.type_list_append mt_append (pe_ix ix_list (pv 1) (pv 3) (fun _ _ => rfl)) (pa_cons (pv 2) pa_nil))))))
      (pss_one (ps_ret (pe_lc (own := [("some", 5)]) (g := gName 5) (tt := tYes) rfl sc_linksW.nd (pi_list (pv 1)) (blkOk_by (N := ["tracks", "found", "one", "two", "k", "some"]) (sc := defScope s_law_links) (by decide +kernel))
        (fun _ _ _ _ _ => pg_name (i := 5) sc_linksW.nd rfl (Or.inl rfl)) (fun _ _ _ _ _ => pts_nil)
        (fun _ _ _ _ _ => pe_callB (cs_K (K := K) rfl) (by rfl) N.sorted boot_sorted (pa_cons (pv 5) pa_nil)))))), ?_⟩
    have lp : (ps.map V.ref).length = tr.length := by rw [List.length_map, hP.1]
    have e62 : (2 : Int) ^ 62 = 4611686018427387904 := by decide
    refine ⟨_, rfl, a, _, rfl, .inr hS, _, _, rfl, rfl, _, rfl, by omega, by rw [lp, e62]; omega, fun r nr => ?_⟩
    refine lc_range (lo := 0) (fun i H' => ∃ as, Rws H H' r i HO.lst as (fun _ => []) ∧ Same H H') ⟨[], rws_start _ _ nr, same_upd nr _⟩ ?_ ?_
    · rintro i H' hi ⟨as, R, s1⟩
      refine ⟨rfl, by show 0 ≤ sizeLine; exact Nat.zero_le _, fun p np => ⟨as.map V.ref, ?_, ?_, as ++ [p], ?_, ?_⟩⟩
      · have npr : r ≠ p := fun z => by rw [← z, R.own] at np; cases np
        rw [upd_ne npr]
        exact R.own
      · rw [List.length_map, R.len, sizeLine_eq]
        rw [lp] at hi
        omega
      · exact R.grow s1 np (fun b hb _ => upd_ne hb) upd_same
      · exact same_old (s1.trans (same_upd np _)) nr _
    rintro H1 ⟨as, R, s1⟩
    have en : (((ps.map V.ref).length : Int) + 1).toNat = tr.length + 1 := by rw [lp]; omega
    have R1 : Rws H H1 r (tr.length + 1) HO.lst as (fun _ => []) := en ▸ R
    clear R
    -- for one, other in tracks
    refine ⟨_, rfl, a, rfl, ⟨_, s1.tp hS⟩, for_tup (K := K) (a := a) (xs := ps.map V.ref) (fun i σ H' => ∃ (as : List Addr) (x2 x3 x4 x5 : Option V), σ = [some (.ref a), some (.ref r), x2, x3, x4, x5] ∧ Same H H' ∧ Rws H H' r (tr.length + 1) HO.lst as (rowOf (tr.take i)))
      ⟨as, none, none, none, none, rfl, s1, R1⟩ (fun i σ H' _ ⟨_, _, _, _, _, _, s2, _⟩ => s2.tp hS) ?_ ?_⟩
    · rintro i v σ H' hv ⟨as, x2, x3, x4, x5, rfl, s2, R⟩
      obtain ⟨p, e, rfl, hp, he, hH⟩ := hP.get hv
      have hm := List.mem_of_getElem? he
      obtain ⟨ne, b1, b2⟩ := T e hm
      have hH2 := s2 _ _ hH
      refine ⟨p, _, rfl, SqT.of hH2, rfl, ?_⟩
      refine ⟨_, _, rfl, _, _, rfl, rfl, ?_⟩
      obtain ⟨r1, g1, h1, n1, d1⟩ := R.get b1
      have hlen : ∀ u, ((rowOf (tr.take i) u).map iv).length ≤ 999 := fun u => by
        rw [List.length_map]
        have := rowOf_len (tr.take i) u
        rw [List.length_take] at this
        omega
      refine ⟨_, rfl, _, rfl, r, _, _, _, rfl, rfl, SqL.of R.own, atN (map_get g1), .inl ⟨rfl, _, SqL.of h1⟩, _, rfl, _, _, _, rfl, rfl, h1, by rw [sizeLine_eq]; have := hlen e.1; omega, ?_⟩
      have e1 : (rowOf (tr.take i) e.1).map iv ++ [iv e.2] = ((fun u => if u = e.1 then rowOf (tr.take i) u ++ [e.2] else rowOf (tr.take i) u) e.1).map iv := by simp
      have R2 := R.put (g := fun u => if u = e.1 then rowOf (tr.take i) u ++ [e.2] else rowOf (tr.take i) u) g1 (fun u hu => by simp [hu])
      rw [← e1] at R2
      have s3 := same_old s2 n1 (.lst ((rowOf (tr.take i) e.1).map iv ++ [iv e.2]))
      generalize upd H' r1 (.lst ((rowOf (tr.take i) e.1).map iv ++ [iv e.2])) = H2 at R2 s3
      obtain ⟨r2, g2, h2, n2, d2⟩ := R2.get b2
      rw [if_neg fun z => ne z.symm] at h2
      refine ⟨_, rfl, _, rfl, r, _, _, _, rfl, rfl, SqL.of R2.own, atN (map_get g2), .inl ⟨rfl, _, SqL.of h2⟩, _, rfl, _, _, _, rfl, rfl, h2, by rw [sizeLine_eq]; have := hlen e.2; omega, ?_⟩
      have et : tr.take (i + 1) = tr.take i ++ [e] := take_snoc he
      have e2 : (rowOf (tr.take i) e.2).map iv ++ [iv e.1] = (rowOf (tr.take (i + 1)) e.2).map iv := by
        rw [et, rowOf_snoc, List.map_append]
        have : bit e.2 e = [e.1] := by unfold bit; rw [if_neg ne, if_pos rfl]
        rw [this]
        rfl
      refine ⟨as, _, _, _, _, rfl, same_old s3 n2 _, ?_⟩
      rw [e2]
      refine R2.put g2 fun u hu => ?_
      rw [et, rowOf_snoc]
      show rowOf (tr.take i) u ++ bit u e = if u = e.1 then rowOf (tr.take i) u ++ [e.2] else rowOf (tr.take i) u
      by_cases c : u = e.1
      · rw [if_pos c]
        unfold bit
        rw [if_pos c.symm]
      · rw [if_neg c]
        unfold bit
        rw [if_neg fun z => c z.symm, if_neg fun z => hu z.symm, List.append_nil]
    · rintro σ H' ⟨as, x2, x3, x4, x5, rfl, s2, R⟩
      have ea : tr.take (ps.map V.ref).length = tr := by rw [lp]; exact List.take_length
      rw [ea] at R
      refine ⟨_, rfl, r, rfl, ⟨_, SqL.of R.own⟩, fun D nD => ?_⟩
      refine lc_list (K := K) (a := r) (xs := as.map V.ref) (fun i H2 => ∃ ts, Rws H' H2 D i HO.lst ts (nb tr) ∧ Same H' H2) ⟨[], rws_start _ _ nD, same_upd nD _⟩ (fun i H2 _ ⟨_, _, s3⟩ => s3.seq (SqL.of R.own)) ?_ ?_
      · rintro i v H2 hv ⟨ts, R2, s3⟩
        obtain ⟨b, hb, rfl⟩ := map_got hv
        obtain ⟨h1, _, _⟩ := R.at_ i b hb
        refine ⟨rfl, ?_⟩
        refine ⟨_, rfl, b, (rowOf tr i).map Int.ofNat, rfl, by rw [ints_map]; exact s3.seq (SqL.of h1), fun ns' p hp hs np => ?_⟩
        have en' : ns'.map V.int = (nb tr i).map iv := by
          rw [srt_of hp hs, ints_map]
          rfl
        rw [en']
        refine ⟨ts.map V.ref, ?_, ?_, ts ++ [p], ?_, ?_⟩
        · have n1 : D ≠ p := fun z => by
            rw [← z, R2.own] at np
            cases np
          rw [upd_ne n1]
          exact R2.own
        · rw [List.length_map, R2.len, sizeLine_eq]
          have := (List.getElem?_eq_some_iff.mp hb).1
          rw [R.len] at this
          omega
        · exact R2.grow s3 np (fun b hb _ => upd_ne hb) upd_same
        · exact same_old (s3.trans (same_upd np _)) nD _
      · rintro H2 ⟨ts, R2, s3⟩
        refine k D ts H2 (s2.trans s3) ?_
        have el : (as.map V.ref).length = tr.length + 1 := by rw [List.length_map, R.len]
        rw [← el]
        exact R2.base s2
end
end TR
namespace L2.TT
open PySem PySem.Spec PyProof.Rows SrtO
end L2.TT
namespace L2.TT
open PySem PySem.Spec PyProof.Rows SrtO
end L2.TT
namespace L2.TT
open PySem PySem.Spec PyProof.Rows SrtO
/-- sorted(d), d a dict whose keys are pairs of ints -/
def rSortedDT : List V → Hp → VK → Prop := fun vs H Q => ∃ (a : Addr) (kvs : List (List Key × V)), vs = [V.ref a] ∧ Rd H a (.dT kvs) ∧ ∀ bs, IsKeys H kvs bs → ∃ k : V → Int × Int, (∀ x ∈ bs.map V.ref, ∃ t, x = V.ref t ∧ H t = some (.tup [.int (k x).1, .int (k x).2])) ∧
  ∀ ys p, SrtO.Srtd (ltP k) ys → SrtO.Stb (ltP k) ys (bs.map V.ref) → H p = none → Q (.ref p) (upd H p (.lst ys))
theorem cr_sortedDT {X : Cx} (hc : X.calm = true) : CallR X (.builtin "sorted") rSortedDT := by
  intro pins s σ H vs us Q I r h
  obtain ⟨a, kvs, rfl, hR, q⟩ := h
  obtain ⟨u, rfl, ru⟩ := vals1 r
  obtain rfl : u = Value.ref a := ru
  obtain ⟨hlen, hd, xs, rel, o, es, ep, ho, ex, hdd, he, his, hn⟩ := dt_rd I.hok hR
  obtain ⟨k, hx, q⟩ := q (xs.map fun x => x.2.1) (isKeys_of rel)
  have lx : kvs.length = xs.length := rel.length
  have les := size_of_entries he
  refine Calls.call_function_entry kind_sorted plain_sorted entry_sorted (args_sorted1 _) ?_
  unfold Builtin.«sorted»
  refine wpAny_bind (m := checkCount "sorted" 1 1 _) (wpAny_pure ?_)
  refine wpAny_bind (W.kdu_collect (kdl_raw hd ex hdd) (I.ok.hd hc) ho (by omega) fun h' tk acc kp items => ?_)
  have eacc : acc.toList = (xs.map fun x => x.2.1).map Value.ref := by
    refine List.ext_getElem? fun j => ?_
    rw [Array.getElem?_toList, List.getElem?_map, List.getElem?_map]
    cases hj : acc[j]? with
    | some v =>
      obtain ⟨en, h1, h2⟩ := items.2 j v hj
      rw [entry_at he j] at h1
      obtain ⟨x, h3, h4⟩ := Option.map_eq_some_iff.mp h1
      rw [h3, h2, ← h4]
      rfl
    | none =>
      have l1 := Array.getElem?_eq_none_iff.mp hj
      have l2 := items.1
      rw [List.getElem?_eq_none (by omega)]
      rfl
  rw [eacc]
  generalize hbs : xs.map (fun x => x.2.1) = bs at hx q
  have bl : bs.length = xs.length := by rw [← hbs, List.length_map]
  have hz : (bs.map Value.ref).length ≤ sizeLine := by rw [List.length_map]; omega
  refine wpAny_bind (wpAny_newList ?_ hz)
  have I1 : Inv X pins σ H { heap := h', gens := s.gens, drawn := s.drawn, toks := tk, os := s.os } := I.kept kp
  have new : (h'.push (seqObj "list" (bs.map Value.ref).toArray 0)).get? h'.objs.size = some (seqObj "list" (bs.map Value.ref).toArray 0) := Heap.get?_push_size _ rfl
  have old : ∀ b o, h'.get? b = some o → b ≠ h'.objs.size ∧ (h'.push (seqObj "list" (bs.map Value.ref).toArray 0)).get? b = some o := fun b o q => ⟨Nat.ne_of_lt (Heap.lt_size q), Heap.get?_push_of_some _ q⟩
  have pr : ∀ v ∈ bs.map Value.ref, Srt.IsPair h' v (k (backV v)).1 (k (backV v)).2 := fun v hv => by
    obtain ⟨b, hb, rfl⟩ := List.mem_map.mp hv
    obtain ⟨t', e, ht⟩ := hx (V.ref b) (List.mem_map.mpr ⟨b, hb, rfl⟩)
    cases e
    obtain ⟨_, its2, r2, o, ho, hc, n, hd⟩ := I1.hok _ _ ht
    obtain ⟨u1, u2, rfl, ri, rj⟩ := vals2 r2
    obtain ⟨t1, rfl⟩ := ri
    obtain ⟨t2, rfl⟩ := rj
    exact ⟨b, o, t1, t2, n, rfl, ho, hc, hd⟩
  refine wpAny_bind (wpAny_holding (wpAny_call_entry slot_list_sort ⟨_, new, rfl⟩ entry_list_sort (list_sort_ord (swo_lex fun u => k (backV u)) new hz (fun h2 => ?_) fun out hs hb => ⟨_, rfl, ?_⟩) (args_list_sort _)))
  · refine pairs_sortableO (by omega) (fun v hm => (pr v hm).keeps fun b o e _ => (old b o e).2) fun o e => ?_
    have e' : some o = some (seqObj "list" (bs.map Value.ref).toArray 0) := e.symm.trans new
    cases e'
    intro c
    exact absurd (Value.type.inj c) (by decide)
  · have h3 : ∀ u ∈ out, ∃ a, u = Value.ref a := fun u hu => by
      obtain ⟨b, _, e⟩ := List.mem_map.mp (hb.perm.mem_iff.mp hu)
      exact ⟨b, e.symm⟩
    have ebv : (bs.map Value.ref).map backV = bs.map V.ref := by rw [List.map_map]; rfl
    have hb2 : SrtO.Stb (ltP k) (out.map backV) (bs.map V.ref) := by
      rw [← ebv]
      exact SrtO.Stb.map (ltP_swo k) backV hb
    obtain ⟨n, hnn⟩ := sortedHeap_at (vs := bs.map Value.ref) (out := out.toArray) new
    have kp2 : ∀ b o, h'.get? b = some o → (sortedHeap (h'.push (seqObj "list" (bs.map Value.ref).toArray 0)) h'.objs.size (bs.map Value.ref) out.toArray).get? b = some o := fun b o e => by
      rw [sortedHeap_old (old b o e).1 (by rw [size_push']; exact Nat.lt_succ_of_lt (Heap.lt_size e))]
      exact (old b o e).2
    have fr := I1.hok.fresh (Nat.le_refl h'.objs.size)
    refine wpAny_pure ⟨_, rfl, ?_⟩
    refine ⟨.ref h'.objs.size, upd H h'.objs.size (.lst (out.map backV)), I1.laid (t' := tk) kp2 (Nat.le_refl _) ⟨?_, out, n, vals_back h3, hnn⟩, rfl, q _ _ (SrtO.srtd_map hs) hb2 fr⟩
    rw [hb2.len, List.length_map]
    omega
end L2.TT
namespace TR
open PySem PySem.Spec PyProof.Rows L2 L2.TT StX ClX
theorem prs_nd {H : Hp} {qs : List Addr} {es : List E2} (P : Prs H qs es) (nd : es.Nodup) : qs.Nodup := by
  rw [List.nodup_iff_pairwise_ne, List.pairwise_iff_getElem]
  intro i j hi hj hij e2
  have lq := P.1
  have hi2 : i < es.length := by omega
  have hj2 : j < es.length := by omega
  have a := P.2 i _ _ (List.getElem?_eq_getElem hi) (List.getElem?_eq_getElem hi2)
  have b := P.2 j _ _ (List.getElem?_eq_getElem hj) (List.getElem?_eq_getElem hj2)
  rw [e2, b] at a
  have := HO.tup.inj (Option.some.inj a)
  have h1 := iv_inj.mp (List.cons.inj this).1
  have h2 := iv_inj.mp (List.cons.inj (List.cons.inj this).2).1
  have : es[i] = es[j] := Prod.ext h1.symm h2.symm
  have := (List.getElem_inj nd).mp this
  omega
theorem ends_nd {tr : List E2} (T : TreeL tr) {bs : List (List Nat)} (nd : bs.Nodup) (hb : ∀ m ∈ bs, Bd tr m) : (bs.map endsB).Nodup := by
  rw [List.nodup_iff_pairwise_ne, List.pairwise_map]
  exact (List.nodup_iff_pairwise_ne.mp nd).imp_of_mem fun {a b} ha hbb ne z => ne (ends_inj T (hb a ha) (hb b hbb) z)
end TR
namespace TR
open PySem PySem.Spec PyProof.Rows L2 L2.TT StX ClX
theorem sqL_fr {K : PySem.W.Frag} {H H' : Hp} {a dr : Addr} {xs : List V} {kvs : List (Key × V)} (h : SqL K H a xs) (F : Fr dr H H') (hd : H dr = some (.dK kvs)) : SqL K H' a xs := by
  rcases h with (h | ⟨ob, h⟩) | h
  · exact .inl (.inl (F _ _ h (ne_of h hd (by intro z; cases z))))
  · exact .inl (.inr ⟨ob, F _ _ h (ne_of h hd (by intro z; cases z))⟩)
  · exact .inr h
theorem paired_at {α β : Type} {R : α → β → Prop} : ∀ {xs : List α} {ys : List β} {i : Nat} {x : α} {y : β}, Paired R xs ys → xs[i]? = some x → ys[i]? = some y → R x y
  | _ :: _, _ :: _, 0, _, _, .cons h _, h1, h2 => by
    cases h1
    cases h2
    exact h
  | _ :: xs, _ :: ys, i + 1, _, _, .cons _ h, h1, h2 => paired_at (xs := xs) (ys := ys) (i := i) h h1 h2
theorem srt2_len (l : List E2) : (srt2 l).length = l.length := (srt2_perm l).length_eq
end TR
namespace TR
open PySem PySem.Spec PyProof.Rows L2 L2.TT L2.TW StX ClX GenW
section
variable {P : Program} {w : World} {K : PySem.W.Frag} {mg : Str → Option Value} {base : Heap}
abbrev N_sc_law : List Str := ["script", "draw", "turn", "tracks", "net", "web", "first", "reached", "again", "last"]
theorem sc_law : FnScope N_sc_law ["script"] (defScope s_law) := ⟨rfl, rfl, rfl, by decide +kernel, rfl, by decide +kernel, by decide +kernel⟩
theorem ok_law {f fB fN fT fA fP fS f1 fO C pO : Addr} {mc : Value} {fd fdB fdN fdT fdA fdP fdS fd1 : FuncData} (F : Fun K "law" "law" s_law f fd) (N : Nm mg) (X : TxtR K mg C) (hcr : CRead K C mc) (cm : CMet K C mc "of" pO fO) (GO : FnR P w K mg base CX0 7 fO (spRof C))
    (UB : Use P w K mg base CX0 1 "_law_begin" fB fdB ["script"] (spBegin K)) (UN : Use P w K mg base CX0 2 "_law_next" fN fdN ["draw", "bound"] spNext) (UT : Use P w K mg base CX0 3 "_law_tracks" fT fdT ["draw", "most"] spTracks) (UA : Use P w K mg base CX0 1 "_law_links" fA fdA ["tracks"] (spAround K)) (UP : Use P w K mg base CX0 3 "_law_pair" fP fdP ["draw", "count"] spStand)
    (US : Use P w K mg base CX0 3 "_law_search" fS fdS ["web", "pair"] (spSrc K)) (G1 : UseG P w K mg base 20 "_law_right" f1 fd1 ["net", "web", "first", "last"] (spRgt C K)) :
    FnG P w K mg base CX0 21 f fd ["script"] (spLaw K) := by
  refine L2.TT.Fun.okG F sc_law (fun vs H Q E h => ?_) (fun cdv A outer s H vs Q E hG hr h => ?_)
  · obtain ⟨a, ns, rfl, _⟩ := h
    rfl
  · obtain ⟨a, ns, rfl, hS, hlen, k⟩ := h
    have hr1 : Room 1 (A.deeper (envOfC "law" (defScope s_law) s.heap.objs.size f cdv)) := hr.mono (by decide)
    have hr2 : Room 2 (A.deeper (envOfC "law" (defScope s_law) s.heap.objs.size f cdv)) := hr.mono (by decide)
    have hr3 : Room 3 (A.deeper (envOfC "law" (defScope s_law) s.heap.objs.size f cdv)) := hr.mono (by decide)
    have hr7 : Room 7 (A.deeper (envOfC "law" (defScope s_law) s.heap.objs.size f cdv)) := hr.mono (by decide)
    have hu64 : (A.deeper (envOfC "law" (defScope s_law) s.heap.objs.size f cdv)).units + 64 < cLine := hr.units
    refine ⟨_, (pss_cons (ps_set (i := 1) sc_law.nd rfl (.inl rfl) (pe_use UB hr1 (by rfl) (pa_cons (pv 0) pa_nil)))
        (pss_cons (ps_for PassesOwn.never rfl (pi_range1 (by rfl) N.range (pa_cons (pe_callB (call_min2 rfl) (by rfl) N.min boot_min (pa_cons pe_int (pa_cons (pe_op op_add pe_int (pe_callB call_len_seq (by rfl) N.len boot_len (pa_cons (pv 0) pa_nil))) pa_nil))) pa_nil)) (pg_name (i := 2) sc_law.nd rfl (.inl rfl))
          (pss_cons (ps_set (i := 3) sc_law.nd rfl (.inl rfl) (pe_use UT hr3 (by rfl) (pa_cons (pv 1) (pa_cons (pe_ix ix_list (pe_lst (pa_cons pe_int (pa_cons pe_int (pa_cons pe_int pa_nil)))) (pe_use UN hr2 (by rfl) (pa_cons (pv 1) (pa_cons pe_int pa_nil))) (fun _ _ => rfl)) pa_nil))))
          (pss_cons (ps_set (i := 3) sc_law.nd rfl (.inl rfl) (pe_ifExp (pt_cmpR (op_neD hu64) (pv 3) (pe_tup pa_nil) (nomark _)) (pv 3) (pe_tup (pa_cons (pe_tup (pa_cons pe_int (pa_cons pe_int pa_nil))) pa_nil))))
          (pss_cons (ps_par (i := 4) (j := 5) (by rfl) sc_law.nd rfl rfl (by decide) rfl rfl (pa_cons (pe_cmeth (pe_glob (v := .ref C) (by rfl) X.mgC rfl) hcr cm GO hr7 pass0 (pa_cons (pv 3) pa_nil)) (pa_cons (pe_use UA hr1 (by rfl) (pa_cons (pv 3) pa_nil)) pa_nil)) (by rfl))
          (pss_cons (ps_set (i := 6) sc_law.nd rfl (.inl rfl) (pe_use UP hr3 (by rfl) (pa_cons (pv 1) (pa_cons (pe_callB call_len_seq (by rfl) N.len boot_len (pa_cons (pv 5) pa_nil)) pa_nil))))
          (pss_cons (ps_set (i := 7) sc_law.nd rfl (.inl rfl) (pe_callB (cr_sortedDT rfl) (by rfl) N.sorted boot_sorted (pa_cons (pe_use US hr3 (by rfl) (pa_cons (pv 5) (pa_cons (pv 6) pa_nil))) pa_nil)))
          (pss_one (ps_for PassesOwn.never rfl (pi_range1 (by rfl) N.range (pa_cons pe_int pa_nil)) (pg_name (i := 8) sc_law.nd rfl (.inl rfl))
            (pss_cons (ps_set (i := 9) sc_law.nd rfl (.inl rfl) (pe_ifExp (pt_cmpR op_eq (pv 8) pe_int (nomark _)) (pv 6) (pe_ix ix_list (pv 7) (pe_use UN hr2 (by rfl) (pa_cons (pv 1) (pa_cons (pe_callB call_len_seq (by rfl) N.len boot_len (pa_cons (pv 7) pa_nil)) pa_nil))) (fun _ _ => rfl))))
            (pss_one (ps_if (pt_not (pt_val (pe_callG G1.G hG hr (by rfl) G1.m G1.kp G1.b pass0 (pa_cons (pv 4) (pa_cons (pv 5) (pa_cons (pv 6) (pa_cons (pv 9) pa_nil))))))) (pss_one (ps_ret pe_bl)) pss_nil)))))))))))
        (pss_one (ps_ret pe_bl)))), ?_⟩
    have e62 : (2 : Int) ^ 62 = 4611686018427387904 := by decide
    have two : (2 : Nat) ≤ sizeLine := by rw [sizeLine_eq]; decide
    refine ⟨_, rfl, a, ns, rfl, hS, hlen, fun dr cl H1 nd nc s1 D1 => ?_⟩
    have e9 : (2 : Int) ^ 62 = 4611686018427387904 := by decide
    have three : (3 : Nat) ≤ sizeLine := by rw [sizeLine_eq]; decide
    have hS1 := s1.seq hS
    refine ⟨_, rfl, a, _, rfl, .inl hS1, _, _, rfl, rfl, _, _, rfl, ?_⟩
    rw [List.length_map]
    obtain ⟨cnt, hc8, ec⟩ : ∃ cnt : Nat, cnt ≤ 8 ∧ V.int (if (fun i j => (i : Int) + j) 3 (ns.length : Int) < 8 then (fun i j => (i : Int) + j) 3 (ns.length : Int) else 8) = iv cnt := by
      by_cases c : (3 : Int) + (ns.length : Int) < 8
      · exact ⟨3 + ns.length, by omega, by rw [if_pos c]; show V.int _ = V.int _; congr 1⟩
      · exact ⟨8, Nat.le_refl _, by rw [if_neg c]; rfl⟩
    dsimp (config := { proj := false }) only [tNil, List.nil_append, List.cons_append] at ec ⊢
    rw [ec]
    refine ⟨_, rfl, by rw [e62]; omega, by rw [e62]; omega, ?_⟩
    refine for_range (lo := 0) (fun i σ H' => ∃ (y2 y3 y4 y5 y6 y7 y8 y9 : Option V), σ = [some (.ref a), some (.ref dr), y2, y3, y4, y5, y6, y7, y8, y9] ∧ DrawAt H' dr cl (1000 * i) ∧ SqL K H' a (ns.map V.int)) ⟨_, _, _, _, _, _, _, _, rfl, D1, hS1⟩ ?_ ?_
    · rintro i σ H2 hi ⟨y2, y3, y4, y5, y6, y7, y8, y9, rfl, D2, hS2⟩
      have hi8 : i < 8 := by
        have : i < ((cnt : Nat) : Int).toNat := hi
        omega
      obtain ⟨kv2, hd2⟩ := D2.some1
      refine ⟨_, rfl, three, fun LN nLN => ?_⟩
      have sN := same_upd nLN (.lst [V.int 5, V.int 7, V.int 9])
      have hN := upd_same (H := H2) (a := LN) (o := .lst [V.int 5, V.int 7, V.int 9])
      have DN := D2.same sN
      generalize upd H2 LN (.lst [V.int 5, V.int 7, V.int 9]) = H3 at sN hN DN ⊢
      refine ⟨_, rfl, dr, cl, 3, _, rfl, DN, by omega, by decide, by decide, fun x H4 x0 x1 D4 k4 => ?_⟩
      obtain ⟨kvN, hdN⟩ := DN.some1
      have F4 := Fr.of k4
      have hN4 : H4 LN = some (.lst [V.int 5, V.int 7, V.int 9]) := F4 _ _ hN (ne_of hN hdN (by intro z; cases z))
      have sa : ∀ {H' : Hp}, Fr dr H3 H' → SqL K H' a (ns.map V.int) := fun {H'} F => sqL_fr (sN.seq hS2) F hdN
      obtain ⟨mm, hm1, hm9, hat⟩ : ∃ mm : Nat, 1 ≤ mm ∧ mm ≤ 9 ∧ atI [V.int 5, V.int 7, V.int 9] x = some (iv mm) := by
        have : x = 0 ∨ x = 1 ∨ x = 2 := by omega
        rcases this with rfl | rfl | rfl
        · exact ⟨5, by omega, by omega, atN (n := 0) rfl⟩
        · exact ⟨7, by omega, by omega, atN (n := 1) rfl⟩
        · exact ⟨9, by omega, by omega, atN (n := 2) rfl⟩
      refine ⟨LN, _, _, _, rfl, rfl, SqL.of hN4, hat, dr, cl, mm, _, rfl, D4, by omega, by omega, by omega, fun a2 ps tr H5 D5 F5 ha hP T hl => ?_⟩
      refine trk_readN rfl ha hP T (by omega) (fun a4 ps4 tr4 H6 s6 ha4 P4 T4 l4 l41 l4m => ?_)
      have D6 := D5.same s6
      refine ⟨rfl, _, rfl, a4, ps4, tr4, rfl, ha4, P4, T4, l4, fun r H8 nr s8 R => ?_⟩
      refine ⟨_, rfl, a4, ps4, tr4, rfl, SqT.of (s8 _ _ ha4), P4.same s8, fun e he => ⟨T4.ne e he, T4.lt1 he⟩, by omega, fun DL ts H9 s9 RW => ⟨_, _, rfl, ?_⟩⟩
      have R9 := R.same s9
      have A9 : Ard K H9 DL (nrmS tr4) := ⟨ts, SqL.of RW.own, by rw [RW.len, nrmS_len], fun v t h => by rw [nb_nrmS T4]; exact (RW.at_ v t h).1⟩
      have s69 := s6.trans (s8.trans s9)
      have D9 := D5.same s69
      have S9 := s69.seq (sa (F4.trans F5))
      have ln : 1 ≤ (nrmS tr4).length := by rw [nrmS_len]; exact l41
      have ln8 : (nrmS tr4).length ≤ 8 := by rw [nrmS_len]; omega
      have Tn := R9.T
      generalize nrmS tr4 = tn at R9 A9 ln ln8 Tn
      obtain ⟨tsa, g1, g2, g3⟩ := A9.ex
      obtain ⟨kv9, hd9⟩ := D9.some1
      refine ⟨_, rfl, _, rfl, DL, _, rfl, .inl g1, ?_⟩
      refine ⟨dr, cl, tn.length + 1, _, ?_, D9, by omega, by omega, by omega, fun u v p Hf hu hv ne Df Ff np hp => ?_⟩
      · rw [List.length_map, g2]
        rfl
      have Rf := R9.fr Ff hd9
      have Af := A9.fr Ff hd9
      have Sf := sqL_fr S9 Ff hd9
      obtain ⟨kvf, hdf⟩ := Df.some1
      obtain ⟨l, sw, _⟩ := sw_ex Tn (show u ≤ tn.length by omega) (show v ≤ tn.length by omega)
      obtain ⟨bd, eh, et⟩ := sw_bd Tn sw (by omega) ne
      have hp' : Hf p = some (.tup [iv (hd0 l), iv (lt0 l)]) := by rw [eh, et]; exact hp
      refine ⟨_, rfl, _, rfl, DL, p, tn, l, rfl, Af, Tn, by omega, hp', bd, fun D kvs bs Hg sg nD hD dk nd all => ?_⟩
      have bdl : ∀ m ∈ bs, Bd tn m := fun m hm => (((all m).mpr hm).bd Tn bd).1
      refine ⟨D, kvs, rfl, .inl hD, fun qs ik => ?_⟩
      have PA : Prs Hg qs (bs.map endsB) := by
        refine ⟨?_, fun i q e h1 h2 => ?_⟩
        · rw [List.length_map, ← dk.len]
          exact (Paired.length ik).symm
        · obtain ⟨m, hm, rfl⟩ := map_got h2
          have kl : i < kvs.length := by
            rw [dk.len]
            exact (List.getElem?_eq_some_iff.mp hm).1
          have hk := List.getElem?_eq_getElem kl
          have h3 := paired_at ik hk h1
          have ek : kvs[i].1 = keyE (endsB m) := by
            have := congrArg (fun z => z[i]?) dk.keys
            simp only [List.getElem?_map, hk, hm, Option.map_some] at this
            exact Option.some.inj this
          rw [ek] at h3
          exact h3
      have ndq := prs_nd PA (ends_nd Tn nd bdl)
      refine ⟨kfOf qs (bs.map endsB), kf_items PA ndq, fun ys z hsr hst nz => ?_⟩
      obtain ⟨zs, rfl, hQ3, nd3⟩ := sorted_prs PA ndq hsr hst.perm
      have sz := same_upd nz (.lst (zs.map V.ref))
      have hz := upd_same (H := Hg) (a := z) (o := .lst (zs.map V.ref))
      have hQ4 := hQ3.same sz
      have sfh := sg.trans sz
      generalize upd Hg z (.lst (zs.map V.ref)) = Hh at hz hQ4 sfh ⊢
      have bl := bodies_le Tn nd bdl
      have b1 : 1 ≤ bs.length := List.length_pos_iff.mpr fun e => by
        have := (all l).mp (.refl l)
        rw [e] at this
        cases this
      have zl : zs.length = bs.length := by rw [hQ4.1, srt2_len, List.length_map]
      have nine : (tn.length + 1) * (tn.length + 1) ≤ 81 := Nat.mul_le_mul (show tn.length + 1 ≤ 9 by omega) (show tn.length + 1 ≤ 9 by omega)
      refine ⟨_, rfl, by rw [e62]; decide, by rw [e62]; decide, ?_⟩
      refine for_range (lo := 0) (fun j σ H' => ∃ (y8 y9 : Option V), σ = [some (.ref a), some (.ref dr), some (V.int (0 + (i : Int))), some (.ref a4), some (.ref r), some (.ref DL), some (.ref p), some (.ref z), y8, y9] ∧ DrawAt H' dr cl (1000 * i + 500 + 10 * j) ∧ RailAt C H' r tn ∧ Ard K H' DL tn ∧ H' p = some (.tup [iv (hd0 l), iv (lt0 l)]) ∧ H' z = some (.lst (zs.map V.ref)) ∧ Prs H' zs (srt2 (bs.map endsB)) ∧ SqL K H' a (ns.map V.int))
        ⟨_, _, rfl, (Df.same sfh).mono (by omega), Rf.same sfh, Af.same sfh, sfh _ _ hp', hz, hQ4, sfh.seq Sf⟩ ?_ ?_
      · clear hz hQ4 sfh sz nz
        rintro j σ H2 hj ⟨y8, y9, rfl, D2, R2, A2, hp2, hz2, Q2, S2⟩
        have hj4 : j < 4 := hj
        refine ⟨_, rfl, rfl, _, rfl, ?_⟩
        by_cases cj : j = 0
        · subst cj
          refine iteT ?_
          refine ⟨_, rfl, ?_⟩
          refine ⟨_, rfl, _, rfl, _, rfl, _, rfl, r, DL, p, p, tn, l, l, rfl, R2, A2, ln8, hp2, bd, hp2, .refl l, fun H4 s4 => ⟨_, rfl, ?_⟩⟩
          refine iteF ?_
          exact ⟨_, _, rfl, (D2.same s4).mono (by omega), R2.same s4, A2.same s4, s4 _ _ hp2, s4 _ _ hz2, Q2.same s4, s4.seq S2⟩
        · rw [show decide (V.int (0 + (j : Int)) = V.int 0) = false from decide_eq_false fun z => cj (by have := V.int.inj z; omega)]
          refine iteF ?_
          refine ⟨_, rfl, _, rfl, _, rfl, z, _, rfl, .inl (SqL.of hz2), dr, cl, ((zs.map V.ref).length : Int), _, rfl, D2, by omega, by rw [List.length_map]; omega, by rw [List.length_map]; omega, fun x2 H3 x20 x21 D3 k3 => ?_⟩
          rw [List.length_map] at x21
          have F3 := Fr.of k3
          obtain ⟨kv2, hd2⟩ := D2.some1
          obtain ⟨jj, rfl⟩ := Int.eq_ofNat_of_zero_le x20
          have jl : jj < zs.length := by omega
          have hq := List.getElem?_eq_getElem jl
          generalize zs[jj] = q at hq
          have lsr : jj < (srt2 (bs.map endsB)).length := by rw [← Q2.1]; exact jl
          have he := List.getElem?_eq_getElem lsr
          have hem := List.mem_of_getElem? he
          rw [(srt2_perm _).mem_iff] at hem
          obtain ⟨m, hm, em⟩ := List.mem_map.mp hem
          rw [← em] at he
          have hqe := Q2.2 _ _ _ hq he
          have Q3 : Prs H3 zs (srt2 (bs.map endsB)) := ⟨Q2.1, fun i p e h1 h2 => F3 _ _ (Q2.2 i p e h1 h2) (ne_of (Q2.2 i p e h1 h2) hd2 (by intro z; cases z))⟩
          have hz3 := F3 _ _ hz2 (ne_of hz2 hd2 (by intro z; cases z))
          have hp3 := F3 _ _ hp2 (ne_of hp2 hd2 (by intro z; cases z))
          have hq3 : H3 q = some (.tup [iv (hd0 m), iv (lt0 m)]) := F3 _ _ hqe (ne_of hqe hd2 (by intro z; cases z))
          have R3 := R2.fr F3 hd2
          have A3 := A2.fr F3 hd2
          have S3 := sqL_fr S2 F3 hd2
          refine ⟨z, _, _, _, rfl, rfl, SqL.of hz3, atN (by rw [List.getElem?_map, hq]; rfl), ?_⟩
          refine ⟨_, rfl, _, rfl, _, rfl, _, rfl, r, DL, p, q, tn, l, m, rfl, R3, A3, ln8, hp3, bd, hq3, (all m).mpr hm, fun H4 s4 => ⟨_, rfl, ?_⟩⟩
          refine iteF ?_
          exact ⟨_, _, rfl, (D3.same s4).mono (by omega), R3.same s4, A3.same s4, s4 _ _ hp3, s4 _ _ hz3, Q3.same s4, s4.seq S3⟩
      · rintro σ H2 ⟨y8, y9, rfl, D2, R2, A2, hp2, hz2, Q2, S2⟩
        exact ⟨_, _, _, _, _, _, _, _, rfl, D2.mono (by omega), S2⟩
    · rintro σ H2 ⟨y2, y3, y4, y5, y6, y7, y8, y9, rfl, D2, hS2⟩
      exact k H2
end
end TR
namespace TR
open PySem PySem.Spec PyProof.Rows L2 L2.TT StX ClX
theorem lenV1 {us : List Value} (h : us.length = 1) : ∃ x0, us = [x0] := by
  obtain ⟨x0, us, rfl⟩ : ∃ x r, us = x :: r := by
    cases us with
    | nil => cases h
    | cons x r => exact ⟨_, _, rfl⟩
  have h : us.length = 0 := Nat.succ.inj h
  cases us with
  | nil => exact ⟨x0, rfl⟩
  | cons x r => cases h
theorem lenV2 {us : List Value} (h : us.length = 2) : ∃ x0 x1, us = [x0, x1] := by
  obtain ⟨x0, us, rfl⟩ : ∃ x r, us = x :: r := by
    cases us with
    | nil => cases h
    | cons x r => exact ⟨_, _, rfl⟩
  have h : us.length = 1 := Nat.succ.inj h
  obtain ⟨x1, us, rfl⟩ : ∃ x r, us = x :: r := by
    cases us with
    | nil => cases h
    | cons x r => exact ⟨_, _, rfl⟩
  have h : us.length = 0 := Nat.succ.inj h
  cases us with
  | nil => exact ⟨x0, x1, rfl⟩
  | cons x r => cases h
theorem lenV3 {us : List Value} (h : us.length = 3) : ∃ x0 x1 x2, us = [x0, x1, x2] := by
  obtain ⟨x0, us, rfl⟩ : ∃ x r, us = x :: r := by
    cases us with
    | nil => cases h
    | cons x r => exact ⟨_, _, rfl⟩
  have h : us.length = 2 := Nat.succ.inj h
  obtain ⟨x1, us, rfl⟩ : ∃ x r, us = x :: r := by
    cases us with
    | nil => cases h
    | cons x r => exact ⟨_, _, rfl⟩
  have h : us.length = 1 := Nat.succ.inj h
  obtain ⟨x2, us, rfl⟩ : ∃ x r, us = x :: r := by
    cases us with
    | nil => cases h
    | cons x r => exact ⟨_, _, rfl⟩
  have h : us.length = 0 := Nat.succ.inj h
  cases us with
  | nil => exact ⟨x0, x1, x2, rfl⟩
  | cons x r => cases h
theorem lenV4 {us : List Value} (h : us.length = 4) : ∃ x0 x1 x2 x3, us = [x0, x1, x2, x3] := by
  obtain ⟨x0, us, rfl⟩ : ∃ x r, us = x :: r := by
    cases us with
    | nil => cases h
    | cons x r => exact ⟨_, _, rfl⟩
  have h : us.length = 3 := Nat.succ.inj h
  obtain ⟨x1, us, rfl⟩ : ∃ x r, us = x :: r := by
    cases us with
    | nil => cases h
    | cons x r => exact ⟨_, _, rfl⟩
  have h : us.length = 2 := Nat.succ.inj h
  obtain ⟨x2, us, rfl⟩ : ∃ x r, us = x :: r := by
    cases us with
    | nil => cases h
    | cons x r => exact ⟨_, _, rfl⟩
  have h : us.length = 1 := Nat.succ.inj h
  obtain ⟨x3, us, rfl⟩ : ∃ x r, us = x :: r := by
    cases us with
    | nil => cases h
    | cons x r => exact ⟨_, _, rfl⟩
  have h : us.length = 0 := Nat.succ.inj h
  cases us with
  | nil => exact ⟨x0, x1, x2, x3, rfl⟩
  | cons x r => cases h
theorem all_mk {P : Program} {w : World} {K : PySem.W.Frag} {h : Heap} {mg : Str → Option Value} {fa : Addr} (X : K.In h) (G : h.Ns mainGlobals mg) (hfa : mg "law" = some (.ref fa))
  {fis_integer : Addr} {ocis_integer kVis_integer dcis_integer pmis_integer cdis_integer ctis_integer : Value} {odis_integer anis_integer : Option Addr} {slis_integer : Array (Option Value)}
  {fis_number_from : Addr} {ocis_number_from kVis_number_from dcis_number_from pmis_number_from cdis_number_from ctis_number_from : Value} {odis_number_from anis_number_from : Option Addr} {slis_number_from : Array (Option Value)}
  {fis_pair_of_stations : Addr} {ocis_pair_of_stations kVis_pair_of_stations dcis_pair_of_stations pmis_pair_of_stations cdis_pair_of_stations ctis_pair_of_stations : Value} {odis_pair_of_stations anis_pair_of_stations : Option Addr} {slis_pair_of_stations : Array (Option Value)}
  {fis_station : Addr} {ocis_station kVis_station dcis_station pmis_station cdis_station ctis_station : Value} {odis_station anis_station : Option Addr} {slis_station : Array (Option Value)}
  {fcheck_station : Addr} {occheck_station kVcheck_station dccheck_station pmcheck_station cdcheck_station ctcheck_station : Value} {odcheck_station ancheck_station : Option Addr} {slcheck_station : Array (Option Value)}
  {fjoined : Addr} {ocjoined kVjoined dcjoined pmjoined cdjoined ctjoined : Value} {odjoined anjoined : Option Addr} {sljoined : Array (Option Value)}
  {ffirst_wrong_track : Addr} {ocfirst_wrong_track kVfirst_wrong_track dcfirst_wrong_track pmfirst_wrong_track cdfirst_wrong_track ctfirst_wrong_track : Value} {odfirst_wrong_track anfirst_wrong_track : Option Addr} {slfirst_wrong_track : Array (Option Value)}
  {fneighbours_of : Addr} {ocneighbours_of kVneighbours_of dcneighbours_of pmneighbours_of cdneighbours_of ctneighbours_of : Value} {odneighbours_of anneighbours_of : Option Addr} {slneighbours_of : Array (Option Value)}
  {fplaces_below_first : Addr} {ocplaces_below_first kVplaces_below_first dcplaces_below_first pmplaces_below_first cdplaces_below_first ctplaces_below_first : Value} {odplaces_below_first anplaces_below_first : Option Addr} {slplaces_below_first : Array (Option Value)}
  {flaw_begin : Addr} {oclaw_begin kVlaw_begin dclaw_begin pmlaw_begin cdlaw_begin ctlaw_begin : Value} {odlaw_begin anlaw_begin : Option Addr} {sllaw_begin : Array (Option Value)}
  {flaw_mixed : Addr} {oclaw_mixed kVlaw_mixed dclaw_mixed pmlaw_mixed cdlaw_mixed ctlaw_mixed : Value} {odlaw_mixed anlaw_mixed : Option Addr} {sllaw_mixed : Array (Option Value)}
  {flaw_next : Addr} {oclaw_next kVlaw_next dclaw_next pmlaw_next cdlaw_next ctlaw_next : Value} {odlaw_next anlaw_next : Option Addr} {sllaw_next : Array (Option Value)}
  {flaw_tracks : Addr} {oclaw_tracks kVlaw_tracks dclaw_tracks pmlaw_tracks cdlaw_tracks ctlaw_tracks : Value} {odlaw_tracks anlaw_tracks : Option Addr} {sllaw_tracks : Array (Option Value)}
  {fcheck_length : Addr} {occheck_length kVcheck_length dccheck_length pmcheck_length cdcheck_length ctcheck_length : Value} {odcheck_length ancheck_length : Option Addr} {slcheck_length : Array (Option Value)}
  {flayers : Addr} {oclayers kVlayers dclayers pmlayers cdlayers ctlayers : Value} {odlayers anlayers : Option Addr} {sllayers : Array (Option Value)}
  {fdepth_behind : Addr} {ocdepth_behind kVdepth_behind dcdepth_behind pmdepth_behind cddepth_behind ctdepth_behind : Value} {oddepth_behind andepth_behind : Option Addr} {sldepth_behind : Array (Option Value)}
  {fbranch_depths : Addr} {ocbranch_depths kVbranch_depths dcbranch_depths pmbranch_depths cdbranch_depths ctbranch_depths : Value} {odbranch_depths anbranch_depths : Option Addr} {slbranch_depths : Array (Option Value)}
  {flongest_path : Addr} {oclongest_path kVlongest_path dclongest_path pmlongest_path cdlongest_path ctlongest_path : Value} {odlongest_path anlongest_path : Option Addr} {sllongest_path : Array (Option Value)}
  {flayers_behind : Addr} {oclayers_behind kVlayers_behind dclayers_behind pmlayers_behind cdlayers_behind ctlayers_behind : Value} {odlayers_behind anlayers_behind : Option Addr} {sllayers_behind : Array (Option Value)}
  {fis_line : Addr} {ocis_line kVis_line dcis_line pmis_line cdis_line ctis_line : Value} {odis_line anis_line : Option Addr} {slis_line : Array (Option Value)}
  {fis_divide : Addr} {ocis_divide kVis_divide dcis_divide pmis_divide cdis_divide ctis_divide : Value} {odis_divide anis_divide : Option Addr} {slis_divide : Array (Option Value)}
  {fmark : Addr} {ocmark kVmark dcmark pmmark cdmark ctmark : Value} {odmark anmark : Option Addr} {slmark : Array (Option Value)}
  {ffind_divide : Addr} {ocfind_divide kVfind_divide dcfind_divide pmfind_divide cdfind_divide ctfind_divide : Value} {odfind_divide anfind_divide : Option Addr} {slfind_divide : Array (Option Value)}
  {fis_standing : Addr} {ocis_standing kVis_standing dcis_standing pmis_standing cdis_standing ctis_standing : Value} {odis_standing anis_standing : Option Addr} {slis_standing : Array (Option Value)}
  {fcheck_standing : Addr} {occheck_standing kVcheck_standing dccheck_standing pmcheck_standing cdcheck_standing ctcheck_standing : Value} {odcheck_standing ancheck_standing : Option Addr} {slcheck_standing : Array (Option Value)}
  {flength_of : Addr} {oclength_of kVlength_of dclength_of pmlength_of cdlength_of ctlength_of : Value} {odlength_of anlength_of : Option Addr} {sllength_of : Array (Option Value)}
  {fbody_of : Addr} {ocbody_of kVbody_of dcbody_of pmbody_of cdbody_of ctbody_of : Value} {odbody_of anbody_of : Option Addr} {slbody_of : Array (Option Value)}
  {fsteps_from : Addr} {ocsteps_from kVsteps_from dcsteps_from pmsteps_from cdsteps_from ctsteps_from : Value} {odsteps_from ansteps_from : Option Addr} {slsteps_from : Array (Option Value)}
  {fbody_after : Addr} {ocbody_after kVbody_after dcbody_after pmbody_after cdbody_after ctbody_after : Value} {odbody_after anbody_after : Option Addr} {slbody_after : Array (Option Value)}
  {fis_pocket : Addr} {ocis_pocket kVis_pocket dcis_pocket pmis_pocket cdis_pocket ctis_pocket : Value} {odis_pocket anis_pocket : Option Addr} {slis_pocket : Array (Option Value)}
  {fhas_clamp : Addr} {ochas_clamp kVhas_clamp dchas_clamp pmhas_clamp cdhas_clamp cthas_clamp : Value} {odhas_clamp anhas_clamp : Option Addr} {slhas_clamp : Array (Option Value)}
  {fclimb : Addr} {occlimb kVclimb dcclimb pmclimb cdclimb ctclimb : Value} {odclimb anclimb : Option Addr} {slclimb : Array (Option Value)}
  {fpocket : Addr} {ocpocket kVpocket dcpocket pmpocket cdpocket ctpocket : Value} {odpocket anpocket : Option Addr} {slpocket : Array (Option Value)}
  {fslack_and_depths : Addr} {ocslack_and_depths kVslack_and_depths dcslack_and_depths pmslack_and_depths cdslack_and_depths ctslack_and_depths : Value} {odslack_and_depths anslack_and_depths : Option Addr} {slslack_and_depths : Array (Option Value)}
  {fnext_part : Addr} {ocnext_part kVnext_part dcnext_part pmnext_part cdnext_part ctnext_part : Value} {odnext_part annext_part : Option Addr} {slnext_part : Array (Option Value)}
  {fcommon_length : Addr} {occommon_length kVcommon_length dccommon_length pmcommon_length cdcommon_length ctcommon_length : Value} {odcommon_length ancommon_length : Option Addr} {slcommon_length : Array (Option Value)}
  {freason_against : Addr} {ocreason_against kVreason_against dcreason_against pmreason_against cdreason_against ctreason_against : Value} {odreason_against anreason_against : Option Addr} {slreason_against : Array (Option Value)}
  {fare_opposed : Addr} {ocare_opposed kVare_opposed dcare_opposed pmare_opposed cdare_opposed ctare_opposed : Value} {odare_opposed anare_opposed : Option Addr} {slare_opposed : Array (Option Value)}
  {frise : Addr} {ocrise kVrise dcrise pmrise cdrise ctrise : Value} {odrise anrise : Option Addr} {slrise : Array (Option Value)}
  {fleast_way : Addr} {ocleast_way kVleast_way dcleast_way pmleast_way cdleast_way ctleast_way : Value} {odleast_way anleast_way : Option Addr} {slleast_way : Array (Option Value)}
  {fcounts_to : Addr} {occounts_to kVcounts_to dccounts_to pmcounts_to cdcounts_to ctcounts_to : Value} {odcounts_to ancounts_to : Option Addr} {slcounts_to : Array (Option Value)}
  {fcheck_way : Addr} {occheck_way kVcheck_way dccheck_way pmcheck_way cdcheck_way ctcheck_way : Value} {odcheck_way ancheck_way : Option Addr} {slcheck_way : Array (Option Value)}
  {ffewest_moves : Addr} {ocfewest_moves kVfewest_moves dcfewest_moves pmfewest_moves cdfewest_moves ctfewest_moves : Value} {odfewest_moves anfewest_moves : Option Addr} {slfewest_moves : Array (Option Value)}
  {fshortest_way : Addr} {ocshortest_way kVshortest_way dcshortest_way pmshortest_way cdshortest_way ctshortest_way : Value} {odshortest_way anshortest_way : Option Addr} {slshortest_way : Array (Option Value)}
  {flaw_links : Addr} {oclaw_links kVlaw_links dclaw_links pmlaw_links cdlaw_links ctlaw_links : Value} {odlaw_links anlaw_links : Option Addr} {sllaw_links : Array (Option Value)}
  {flaw_body : Addr} {oclaw_body kVlaw_body dclaw_body pmlaw_body cdlaw_body ctlaw_body : Value} {odlaw_body anlaw_body : Option Addr} {sllaw_body : Array (Option Value)}
  {flaw_steps : Addr} {oclaw_steps kVlaw_steps dclaw_steps pmlaw_steps cdlaw_steps ctlaw_steps : Value} {odlaw_steps anlaw_steps : Option Addr} {sllaw_steps : Array (Option Value)}
  {flaw_search : Addr} {oclaw_search kVlaw_search dclaw_search pmlaw_search cdlaw_search ctlaw_search : Value} {odlaw_search anlaw_search : Option Addr} {sllaw_search : Array (Option Value)}
  {flaw_walked : Addr} {oclaw_walked kVlaw_walked dclaw_walked pmlaw_walked cdlaw_walked ctlaw_walked : Value} {odlaw_walked anlaw_walked : Option Addr} {sllaw_walked : Array (Option Value)}
  {flaw_pair : Addr} {oclaw_pair kVlaw_pair dclaw_pair pmlaw_pair cdlaw_pair ctlaw_pair : Value} {odlaw_pair anlaw_pair : Option Addr} {sllaw_pair : Array (Option Value)}
  {flaw_least : Addr} {oclaw_least kVlaw_least dclaw_least pmlaw_least cdlaw_least ctlaw_least : Value} {odlaw_least anlaw_least : Option Addr} {sllaw_least : Array (Option Value)}
  {flaw_right : Addr} {oclaw_right kVlaw_right dclaw_right pmlaw_right cdlaw_right ctlaw_right : Value} {odlaw_right anlaw_right : Option Addr} {sllaw_right : Array (Option Value)}
  {flaw : Addr} {oclaw kVlaw dclaw pmlaw cdlaw ctlaw : Value} {odlaw anlaw : Option Addr} {sllaw : Array (Option Value)}
  {C : Addr} {tM : Tok}
  {fMinit : Addr} {ocMinit kVMinit dcMinit pmMinit cdMinit ctMinit : Value} {odMinit anMinit : Option Addr} {slMinit : Array (Option Value)}
  {fMpath : Addr} {ocMpath kVMpath dcMpath pmMpath cdMpath ctMpath : Value} {odMpath anMpath : Option Addr} {slMpath : Array (Option Value)}
  {fMsize : Addr} {ocMsize kVMsize dcMsize pmMsize cdMsize ctMsize : Value} {odMsize anMsize : Option Addr} {slMsize : Array (Option Value)}
  {pMsize : Addr} {rMsize : List Value}
  {fMof : Addr} {ocMof kVMof dcMof pmMof cdMof ctMof : Value} {odMof anMof : Option Addr} {slMof : Array (Option Value)}
  {pMof : Addr} {rMof : List Value}
  {fMneighbours : Addr} {ocMneighbours kVMneighbours dcMneighbours pmMneighbours cdMneighbours ctMneighbours : Value} {odMneighbours anMneighbours : Option Addr} {slMneighbours : Array (Option Value)}
  {fMdistance : Addr} {ocMdistance kVMdistance dcMdistance pmMdistance cdMdistance ctMdistance : Value} {odMdistance anMdistance : Option Addr} {slMdistance : Array (Option Value)}
  {tMOST_SEARCHED : Tok}
  (ais_integer : PySem.W.nsIn K mainGlobals "is_integer" = some (some (.ref fis_integer)))
  (lis_integer : K.lookup fis_integer = some ⟨ocis_integer, odis_integer, .func (PySem.W.fnOf "is_integer" "is_integer" (defArgs s_is_integer) (defBody s_is_integer) (defScope s_is_integer) .none kVis_integer dcis_integer pmis_integer anis_integer cdis_integer ctis_integer), slis_integer⟩)
  (cis_integer : PySem.W.codeIn K cdis_integer "is_integer" = true)
  (kis_integer : PySem.W.keepIn K (.ref fis_integer) = true)
  (ais_number_from : PySem.W.nsIn K mainGlobals "is_number_from" = some (some (.ref fis_number_from)))
  (lis_number_from : K.lookup fis_number_from = some ⟨ocis_number_from, odis_number_from, .func (PySem.W.fnOf "is_number_from" "is_number_from" (defArgs s_is_number_from) (defBody s_is_number_from) (defScope s_is_number_from) .none kVis_number_from dcis_number_from pmis_number_from anis_number_from cdis_number_from ctis_number_from), slis_number_from⟩)
  (cis_number_from : PySem.W.codeIn K cdis_number_from "is_number_from" = true)
  (kis_number_from : PySem.W.keepIn K (.ref fis_number_from) = true)
  (ais_pair_of_stations : PySem.W.nsIn K mainGlobals "is_pair_of_stations" = some (some (.ref fis_pair_of_stations)))
  (lis_pair_of_stations : K.lookup fis_pair_of_stations = some ⟨ocis_pair_of_stations, odis_pair_of_stations, .func (PySem.W.fnOf "is_pair_of_stations" "is_pair_of_stations" (defArgs s_is_pair_of_stations) (defBody s_is_pair_of_stations) (defScope s_is_pair_of_stations) .none kVis_pair_of_stations dcis_pair_of_stations pmis_pair_of_stations anis_pair_of_stations cdis_pair_of_stations ctis_pair_of_stations), slis_pair_of_stations⟩)
  (cis_pair_of_stations : PySem.W.codeIn K cdis_pair_of_stations "is_pair_of_stations" = true)
  (kis_pair_of_stations : PySem.W.keepIn K (.ref fis_pair_of_stations) = true)
  (ais_station : PySem.W.nsIn K mainGlobals "is_station" = some (some (.ref fis_station)))
  (lis_station : K.lookup fis_station = some ⟨ocis_station, odis_station, .func (PySem.W.fnOf "is_station" "is_station" (defArgs s_is_station) (defBody s_is_station) (defScope s_is_station) .none kVis_station dcis_station pmis_station anis_station cdis_station ctis_station), slis_station⟩)
  (cis_station : PySem.W.codeIn K cdis_station "is_station" = true)
  (kis_station : PySem.W.keepIn K (.ref fis_station) = true)
  (acheck_station : PySem.W.nsIn K mainGlobals "check_station" = some (some (.ref fcheck_station)))
  (lcheck_station : K.lookup fcheck_station = some ⟨occheck_station, odcheck_station, .func (PySem.W.fnOf "check_station" "check_station" (defArgs s_check_station) (defBody s_check_station) (defScope s_check_station) .none kVcheck_station dccheck_station pmcheck_station ancheck_station cdcheck_station ctcheck_station), slcheck_station⟩)
  (ccheck_station : PySem.W.codeIn K cdcheck_station "check_station" = true)
  (kcheck_station : PySem.W.keepIn K (.ref fcheck_station) = true)
  (ajoined : PySem.W.nsIn K mainGlobals "joined" = some (some (.ref fjoined)))
  (ljoined : K.lookup fjoined = some ⟨ocjoined, odjoined, .func (PySem.W.fnOf "joined" "joined" (defArgs s_joined) (defBody s_joined) (defScope s_joined) .none kVjoined dcjoined pmjoined anjoined cdjoined ctjoined), sljoined⟩)
  (cjoined : PySem.W.codeIn K cdjoined "joined" = true)
  (kjoined : PySem.W.keepIn K (.ref fjoined) = true)
  (afirst_wrong_track : PySem.W.nsIn K mainGlobals "first_wrong_track" = some (some (.ref ffirst_wrong_track)))
  (lfirst_wrong_track : K.lookup ffirst_wrong_track = some ⟨ocfirst_wrong_track, odfirst_wrong_track, .func (PySem.W.fnOf "first_wrong_track" "first_wrong_track" (defArgs s_first_wrong_track) (defBody s_first_wrong_track) (defScope s_first_wrong_track) .none kVfirst_wrong_track dcfirst_wrong_track pmfirst_wrong_track anfirst_wrong_track cdfirst_wrong_track ctfirst_wrong_track), slfirst_wrong_track⟩)
  (cfirst_wrong_track : PySem.W.codeIn K cdfirst_wrong_track "first_wrong_track" = true)
  (kfirst_wrong_track : PySem.W.keepIn K (.ref ffirst_wrong_track) = true)
  (aneighbours_of : PySem.W.nsIn K mainGlobals "_neighbours_of" = some (some (.ref fneighbours_of)))
  (lneighbours_of : K.lookup fneighbours_of = some ⟨ocneighbours_of, odneighbours_of, .func (PySem.W.fnOf "_neighbours_of" "_neighbours_of" (defArgs s_neighbours_of) (defBody s_neighbours_of) (defScope s_neighbours_of) .none kVneighbours_of dcneighbours_of pmneighbours_of anneighbours_of cdneighbours_of ctneighbours_of), slneighbours_of⟩)
  (cneighbours_of : PySem.W.codeIn K cdneighbours_of "_neighbours_of" = true)
  (kneighbours_of : PySem.W.keepIn K (.ref fneighbours_of) = true)
  (aplaces_below_first : PySem.W.nsIn K mainGlobals "_places_below_first" = some (some (.ref fplaces_below_first)))
  (lplaces_below_first : K.lookup fplaces_below_first = some ⟨ocplaces_below_first, odplaces_below_first, .func (PySem.W.fnOf "_places_below_first" "_places_below_first" (defArgs s_places_below_first) (defBody s_places_below_first) (defScope s_places_below_first) .none kVplaces_below_first dcplaces_below_first pmplaces_below_first anplaces_below_first cdplaces_below_first ctplaces_below_first), slplaces_below_first⟩)
  (cplaces_below_first : PySem.W.codeIn K cdplaces_below_first "_places_below_first" = true)
  (kplaces_below_first : PySem.W.keepIn K (.ref fplaces_below_first) = true)
  (alaw_begin : PySem.W.nsIn K mainGlobals "_law_begin" = some (some (.ref flaw_begin)))
  (llaw_begin : K.lookup flaw_begin = some ⟨oclaw_begin, odlaw_begin, .func (PySem.W.fnOf "_law_begin" "_law_begin" (defArgs s_law_begin) (defBody s_law_begin) (defScope s_law_begin) .none kVlaw_begin dclaw_begin pmlaw_begin anlaw_begin cdlaw_begin ctlaw_begin), sllaw_begin⟩)
  (claw_begin : PySem.W.codeIn K cdlaw_begin "_law_begin" = true)
  (klaw_begin : PySem.W.keepIn K (.ref flaw_begin) = true)
  (alaw_mixed : PySem.W.nsIn K mainGlobals "_law_mixed" = some (some (.ref flaw_mixed)))
  (llaw_mixed : K.lookup flaw_mixed = some ⟨oclaw_mixed, odlaw_mixed, .func (PySem.W.fnOf "_law_mixed" "_law_mixed" (defArgs s_law_mixed) (defBody s_law_mixed) (defScope s_law_mixed) .none kVlaw_mixed dclaw_mixed pmlaw_mixed anlaw_mixed cdlaw_mixed ctlaw_mixed), sllaw_mixed⟩)
  (claw_mixed : PySem.W.codeIn K cdlaw_mixed "_law_mixed" = true)
  (klaw_mixed : PySem.W.keepIn K (.ref flaw_mixed) = true)
  (alaw_next : PySem.W.nsIn K mainGlobals "_law_next" = some (some (.ref flaw_next)))
  (llaw_next : K.lookup flaw_next = some ⟨oclaw_next, odlaw_next, .func (PySem.W.fnOf "_law_next" "_law_next" (defArgs s_law_next) (defBody s_law_next) (defScope s_law_next) .none kVlaw_next dclaw_next pmlaw_next anlaw_next cdlaw_next ctlaw_next), sllaw_next⟩)
  (claw_next : PySem.W.codeIn K cdlaw_next "_law_next" = true)
  (klaw_next : PySem.W.keepIn K (.ref flaw_next) = true)
  (alaw_tracks : PySem.W.nsIn K mainGlobals "_law_tracks" = some (some (.ref flaw_tracks)))
  (llaw_tracks : K.lookup flaw_tracks = some ⟨oclaw_tracks, odlaw_tracks, .func (PySem.W.fnOf "_law_tracks" "_law_tracks" (defArgs s_law_tracks) (defBody s_law_tracks) (defScope s_law_tracks) .none kVlaw_tracks dclaw_tracks pmlaw_tracks anlaw_tracks cdlaw_tracks ctlaw_tracks), sllaw_tracks⟩)
  (claw_tracks : PySem.W.codeIn K cdlaw_tracks "_law_tracks" = true)
  (klaw_tracks : PySem.W.keepIn K (.ref flaw_tracks) = true)
  (acheck_length : PySem.W.nsIn K mainGlobals "check_length" = some (some (.ref fcheck_length)))
  (lcheck_length : K.lookup fcheck_length = some ⟨occheck_length, odcheck_length, .func (PySem.W.fnOf "check_length" "check_length" (defArgs s_check_length) (defBody s_check_length) (defScope s_check_length) .none kVcheck_length dccheck_length pmcheck_length ancheck_length cdcheck_length ctcheck_length), slcheck_length⟩)
  (ccheck_length : PySem.W.codeIn K cdcheck_length "check_length" = true)
  (kcheck_length : PySem.W.keepIn K (.ref fcheck_length) = true)
  (alayers : PySem.W.nsIn K mainGlobals "layers" = some (some (.ref flayers)))
  (llayers : K.lookup flayers = some ⟨oclayers, odlayers, .func (PySem.W.fnOf "layers" "layers" (defArgs s_layers) (defBody s_layers) (defScope s_layers) .none kVlayers dclayers pmlayers anlayers cdlayers ctlayers), sllayers⟩)
  (clayers : PySem.W.codeIn K cdlayers "layers" = true)
  (klayers : PySem.W.keepIn K (.ref flayers) = true)
  (adepth_behind : PySem.W.nsIn K mainGlobals "depth_behind" = some (some (.ref fdepth_behind)))
  (ldepth_behind : K.lookup fdepth_behind = some ⟨ocdepth_behind, oddepth_behind, .func (PySem.W.fnOf "depth_behind" "depth_behind" (defArgs s_depth_behind) (defBody s_depth_behind) (defScope s_depth_behind) .none kVdepth_behind dcdepth_behind pmdepth_behind andepth_behind cddepth_behind ctdepth_behind), sldepth_behind⟩)
  (cdepth_behind : PySem.W.codeIn K cddepth_behind "depth_behind" = true)
  (kdepth_behind : PySem.W.keepIn K (.ref fdepth_behind) = true)
  (abranch_depths : PySem.W.nsIn K mainGlobals "branch_depths" = some (some (.ref fbranch_depths)))
  (lbranch_depths : K.lookup fbranch_depths = some ⟨ocbranch_depths, odbranch_depths, .func (PySem.W.fnOf "branch_depths" "branch_depths" (defArgs s_branch_depths) (defBody s_branch_depths) (defScope s_branch_depths) .none kVbranch_depths dcbranch_depths pmbranch_depths anbranch_depths cdbranch_depths ctbranch_depths), slbranch_depths⟩)
  (cbranch_depths : PySem.W.codeIn K cdbranch_depths "branch_depths" = true)
  (kbranch_depths : PySem.W.keepIn K (.ref fbranch_depths) = true)
  (alongest_path : PySem.W.nsIn K mainGlobals "longest_path" = some (some (.ref flongest_path)))
  (llongest_path : K.lookup flongest_path = some ⟨oclongest_path, odlongest_path, .func (PySem.W.fnOf "longest_path" "longest_path" (defArgs s_longest_path) (defBody s_longest_path) (defScope s_longest_path) .none kVlongest_path dclongest_path pmlongest_path anlongest_path cdlongest_path ctlongest_path), sllongest_path⟩)
  (clongest_path : PySem.W.codeIn K cdlongest_path "longest_path" = true)
  (klongest_path : PySem.W.keepIn K (.ref flongest_path) = true)
  (alayers_behind : PySem.W.nsIn K mainGlobals "_layers_behind" = some (some (.ref flayers_behind)))
  (llayers_behind : K.lookup flayers_behind = some ⟨oclayers_behind, odlayers_behind, .func (PySem.W.fnOf "_layers_behind" "_layers_behind" (defArgs s_layers_behind) (defBody s_layers_behind) (defScope s_layers_behind) .none kVlayers_behind dclayers_behind pmlayers_behind anlayers_behind cdlayers_behind ctlayers_behind), sllayers_behind⟩)
  (clayers_behind : PySem.W.codeIn K cdlayers_behind "_layers_behind" = true)
  (klayers_behind : PySem.W.keepIn K (.ref flayers_behind) = true)
  (ais_line : PySem.W.nsIn K mainGlobals "is_line" = some (some (.ref fis_line)))
  (lis_line : K.lookup fis_line = some ⟨ocis_line, odis_line, .func (PySem.W.fnOf "is_line" "is_line" (defArgs s_is_line) (defBody s_is_line) (defScope s_is_line) .none kVis_line dcis_line pmis_line anis_line cdis_line ctis_line), slis_line⟩)
  (cis_line : PySem.W.codeIn K cdis_line "is_line" = true)
  (kis_line : PySem.W.keepIn K (.ref fis_line) = true)
  (ais_divide : PySem.W.nsIn K mainGlobals "is_divide" = some (some (.ref fis_divide)))
  (lis_divide : K.lookup fis_divide = some ⟨ocis_divide, odis_divide, .func (PySem.W.fnOf "is_divide" "is_divide" (defArgs s_is_divide) (defBody s_is_divide) (defScope s_is_divide) .none kVis_divide dcis_divide pmis_divide anis_divide cdis_divide ctis_divide), slis_divide⟩)
  (cis_divide : PySem.W.codeIn K cdis_divide "is_divide" = true)
  (kis_divide : PySem.W.keepIn K (.ref fis_divide) = true)
  (amark : PySem.W.nsIn K mainGlobals "mark" = some (some (.ref fmark)))
  (lmark : K.lookup fmark = some ⟨ocmark, odmark, .func (PySem.W.fnOf "mark" "mark" (defArgs s_mark) (defBody s_mark) (defScope s_mark) .none kVmark dcmark pmmark anmark cdmark ctmark), slmark⟩)
  (cmark : PySem.W.codeIn K cdmark "mark" = true)
  (kmark : PySem.W.keepIn K (.ref fmark) = true)
  (afind_divide : PySem.W.nsIn K mainGlobals "find_divide" = some (some (.ref ffind_divide)))
  (lfind_divide : K.lookup ffind_divide = some ⟨ocfind_divide, odfind_divide, .func (PySem.W.fnOf "find_divide" "find_divide" (defArgs s_find_divide) (defBody s_find_divide) (defScope s_find_divide) .none kVfind_divide dcfind_divide pmfind_divide anfind_divide cdfind_divide ctfind_divide), slfind_divide⟩)
  (cfind_divide : PySem.W.codeIn K cdfind_divide "find_divide" = true)
  (kfind_divide : PySem.W.keepIn K (.ref ffind_divide) = true)
  (ais_standing : PySem.W.nsIn K mainGlobals "is_standing" = some (some (.ref fis_standing)))
  (lis_standing : K.lookup fis_standing = some ⟨ocis_standing, odis_standing, .func (PySem.W.fnOf "is_standing" "is_standing" (defArgs s_is_standing) (defBody s_is_standing) (defScope s_is_standing) .none kVis_standing dcis_standing pmis_standing anis_standing cdis_standing ctis_standing), slis_standing⟩)
  (cis_standing : PySem.W.codeIn K cdis_standing "is_standing" = true)
  (kis_standing : PySem.W.keepIn K (.ref fis_standing) = true)
  (acheck_standing : PySem.W.nsIn K mainGlobals "check_standing" = some (some (.ref fcheck_standing)))
  (lcheck_standing : K.lookup fcheck_standing = some ⟨occheck_standing, odcheck_standing, .func (PySem.W.fnOf "check_standing" "check_standing" (defArgs s_check_standing) (defBody s_check_standing) (defScope s_check_standing) .none kVcheck_standing dccheck_standing pmcheck_standing ancheck_standing cdcheck_standing ctcheck_standing), slcheck_standing⟩)
  (ccheck_standing : PySem.W.codeIn K cdcheck_standing "check_standing" = true)
  (kcheck_standing : PySem.W.keepIn K (.ref fcheck_standing) = true)
  (alength_of : PySem.W.nsIn K mainGlobals "length_of" = some (some (.ref flength_of)))
  (llength_of : K.lookup flength_of = some ⟨oclength_of, odlength_of, .func (PySem.W.fnOf "length_of" "length_of" (defArgs s_length_of) (defBody s_length_of) (defScope s_length_of) .none kVlength_of dclength_of pmlength_of anlength_of cdlength_of ctlength_of), sllength_of⟩)
  (clength_of : PySem.W.codeIn K cdlength_of "length_of" = true)
  (klength_of : PySem.W.keepIn K (.ref flength_of) = true)
  (abody_of : PySem.W.nsIn K mainGlobals "body_of" = some (some (.ref fbody_of)))
  (lbody_of : K.lookup fbody_of = some ⟨ocbody_of, odbody_of, .func (PySem.W.fnOf "body_of" "body_of" (defArgs s_body_of) (defBody s_body_of) (defScope s_body_of) .none kVbody_of dcbody_of pmbody_of anbody_of cdbody_of ctbody_of), slbody_of⟩)
  (cbody_of : PySem.W.codeIn K cdbody_of "body_of" = true)
  (kbody_of : PySem.W.keepIn K (.ref fbody_of) = true)
  (asteps_from : PySem.W.nsIn K mainGlobals "steps_from" = some (some (.ref fsteps_from)))
  (lsteps_from : K.lookup fsteps_from = some ⟨ocsteps_from, odsteps_from, .func (PySem.W.fnOf "steps_from" "steps_from" (defArgs s_steps_from) (defBody s_steps_from) (defScope s_steps_from) .none kVsteps_from dcsteps_from pmsteps_from ansteps_from cdsteps_from ctsteps_from), slsteps_from⟩)
  (csteps_from : PySem.W.codeIn K cdsteps_from "steps_from" = true)
  (ksteps_from : PySem.W.keepIn K (.ref fsteps_from) = true)
  (abody_after : PySem.W.nsIn K mainGlobals "_body_after" = some (some (.ref fbody_after)))
  (lbody_after : K.lookup fbody_after = some ⟨ocbody_after, odbody_after, .func (PySem.W.fnOf "_body_after" "_body_after" (defArgs s_body_after) (defBody s_body_after) (defScope s_body_after) .none kVbody_after dcbody_after pmbody_after anbody_after cdbody_after ctbody_after), slbody_after⟩)
  (cbody_after : PySem.W.codeIn K cdbody_after "_body_after" = true)
  (kbody_after : PySem.W.keepIn K (.ref fbody_after) = true)
  (ais_pocket : PySem.W.nsIn K mainGlobals "is_pocket" = some (some (.ref fis_pocket)))
  (lis_pocket : K.lookup fis_pocket = some ⟨ocis_pocket, odis_pocket, .func (PySem.W.fnOf "is_pocket" "is_pocket" (defArgs s_is_pocket) (defBody s_is_pocket) (defScope s_is_pocket) .none kVis_pocket dcis_pocket pmis_pocket anis_pocket cdis_pocket ctis_pocket), slis_pocket⟩)
  (cis_pocket : PySem.W.codeIn K cdis_pocket "is_pocket" = true)
  (kis_pocket : PySem.W.keepIn K (.ref fis_pocket) = true)
  (ahas_clamp : PySem.W.nsIn K mainGlobals "has_clamp" = some (some (.ref fhas_clamp)))
  (lhas_clamp : K.lookup fhas_clamp = some ⟨ochas_clamp, odhas_clamp, .func (PySem.W.fnOf "has_clamp" "has_clamp" (defArgs s_has_clamp) (defBody s_has_clamp) (defScope s_has_clamp) .none kVhas_clamp dchas_clamp pmhas_clamp anhas_clamp cdhas_clamp cthas_clamp), slhas_clamp⟩)
  (chas_clamp : PySem.W.codeIn K cdhas_clamp "has_clamp" = true)
  (khas_clamp : PySem.W.keepIn K (.ref fhas_clamp) = true)
  (aclimb : PySem.W.nsIn K mainGlobals "climb" = some (some (.ref fclimb)))
  (lclimb : K.lookup fclimb = some ⟨occlimb, odclimb, .func (PySem.W.fnOf "climb" "climb" (defArgs s_climb) (defBody s_climb) (defScope s_climb) .none kVclimb dcclimb pmclimb anclimb cdclimb ctclimb), slclimb⟩)
  (cclimb : PySem.W.codeIn K cdclimb "climb" = true)
  (kclimb : PySem.W.keepIn K (.ref fclimb) = true)
  (apocket : PySem.W.nsIn K mainGlobals "pocket" = some (some (.ref fpocket)))
  (lpocket : K.lookup fpocket = some ⟨ocpocket, odpocket, .func (PySem.W.fnOf "pocket" "pocket" (defArgs s_pocket) (defBody s_pocket) (defScope s_pocket) .none kVpocket dcpocket pmpocket anpocket cdpocket ctpocket), slpocket⟩)
  (cpocket : PySem.W.codeIn K cdpocket "pocket" = true)
  (kpocket : PySem.W.keepIn K (.ref fpocket) = true)
  (aslack_and_depths : PySem.W.nsIn K mainGlobals "_slack_and_depths" = some (some (.ref fslack_and_depths)))
  (lslack_and_depths : K.lookup fslack_and_depths = some ⟨ocslack_and_depths, odslack_and_depths, .func (PySem.W.fnOf "_slack_and_depths" "_slack_and_depths" (defArgs s_slack_and_depths) (defBody s_slack_and_depths) (defScope s_slack_and_depths) .none kVslack_and_depths dcslack_and_depths pmslack_and_depths anslack_and_depths cdslack_and_depths ctslack_and_depths), slslack_and_depths⟩)
  (cslack_and_depths : PySem.W.codeIn K cdslack_and_depths "_slack_and_depths" = true)
  (kslack_and_depths : PySem.W.keepIn K (.ref fslack_and_depths) = true)
  (anext_part : PySem.W.nsIn K mainGlobals "_next_part" = some (some (.ref fnext_part)))
  (lnext_part : K.lookup fnext_part = some ⟨ocnext_part, odnext_part, .func (PySem.W.fnOf "_next_part" "_next_part" (defArgs s_next_part) (defBody s_next_part) (defScope s_next_part) .none kVnext_part dcnext_part pmnext_part annext_part cdnext_part ctnext_part), slnext_part⟩)
  (cnext_part : PySem.W.codeIn K cdnext_part "_next_part" = true)
  (knext_part : PySem.W.keepIn K (.ref fnext_part) = true)
  (acommon_length : PySem.W.nsIn K mainGlobals "common_length" = some (some (.ref fcommon_length)))
  (lcommon_length : K.lookup fcommon_length = some ⟨occommon_length, odcommon_length, .func (PySem.W.fnOf "common_length" "common_length" (defArgs s_common_length) (defBody s_common_length) (defScope s_common_length) .none kVcommon_length dccommon_length pmcommon_length ancommon_length cdcommon_length ctcommon_length), slcommon_length⟩)
  (ccommon_length : PySem.W.codeIn K cdcommon_length "common_length" = true)
  (kcommon_length : PySem.W.keepIn K (.ref fcommon_length) = true)
  (areason_against : PySem.W.nsIn K mainGlobals "reason_against" = some (some (.ref freason_against)))
  (lreason_against : K.lookup freason_against = some ⟨ocreason_against, odreason_against, .func (PySem.W.fnOf "reason_against" "reason_against" (defArgs s_reason_against) (defBody s_reason_against) (defScope s_reason_against) .none kVreason_against dcreason_against pmreason_against anreason_against cdreason_against ctreason_against), slreason_against⟩)
  (creason_against : PySem.W.codeIn K cdreason_against "reason_against" = true)
  (kreason_against : PySem.W.keepIn K (.ref freason_against) = true)
  (aare_opposed : PySem.W.nsIn K mainGlobals "_are_opposed" = some (some (.ref fare_opposed)))
  (lare_opposed : K.lookup fare_opposed = some ⟨ocare_opposed, odare_opposed, .func (PySem.W.fnOf "_are_opposed" "_are_opposed" (defArgs s_are_opposed) (defBody s_are_opposed) (defScope s_are_opposed) .none kVare_opposed dcare_opposed pmare_opposed anare_opposed cdare_opposed ctare_opposed), slare_opposed⟩)
  (care_opposed : PySem.W.codeIn K cdare_opposed "_are_opposed" = true)
  (kare_opposed : PySem.W.keepIn K (.ref fare_opposed) = true)
  (arise : PySem.W.nsIn K mainGlobals "_rise" = some (some (.ref frise)))
  (lrise : K.lookup frise = some ⟨ocrise, odrise, .func (PySem.W.fnOf "_rise" "_rise" (defArgs s_rise) (defBody s_rise) (defScope s_rise) .none kVrise dcrise pmrise anrise cdrise ctrise), slrise⟩)
  (crise : PySem.W.codeIn K cdrise "_rise" = true)
  (krise : PySem.W.keepIn K (.ref frise) = true)
  (aleast_way : PySem.W.nsIn K mainGlobals "least_way" = some (some (.ref fleast_way)))
  (lleast_way : K.lookup fleast_way = some ⟨ocleast_way, odleast_way, .func (PySem.W.fnOf "least_way" "least_way" (defArgs s_least_way) (defBody s_least_way) (defScope s_least_way) .none kVleast_way dcleast_way pmleast_way anleast_way cdleast_way ctleast_way), slleast_way⟩)
  (cleast_way : PySem.W.codeIn K cdleast_way "least_way" = true)
  (kleast_way : PySem.W.keepIn K (.ref fleast_way) = true)
  (acounts_to : PySem.W.nsIn K mainGlobals "_counts_to" = some (some (.ref fcounts_to)))
  (lcounts_to : K.lookup fcounts_to = some ⟨occounts_to, odcounts_to, .func (PySem.W.fnOf "_counts_to" "_counts_to" (defArgs s_counts_to) (defBody s_counts_to) (defScope s_counts_to) .none kVcounts_to dccounts_to pmcounts_to ancounts_to cdcounts_to ctcounts_to), slcounts_to⟩)
  (ccounts_to : PySem.W.codeIn K cdcounts_to "_counts_to" = true)
  (kcounts_to : PySem.W.keepIn K (.ref fcounts_to) = true)
  (acheck_way : PySem.W.nsIn K mainGlobals "_check_way" = some (some (.ref fcheck_way)))
  (lcheck_way : K.lookup fcheck_way = some ⟨occheck_way, odcheck_way, .func (PySem.W.fnOf "_check_way" "_check_way" (defArgs s_check_way) (defBody s_check_way) (defScope s_check_way) .none kVcheck_way dccheck_way pmcheck_way ancheck_way cdcheck_way ctcheck_way), slcheck_way⟩)
  (ccheck_way : PySem.W.codeIn K cdcheck_way "_check_way" = true)
  (kcheck_way : PySem.W.keepIn K (.ref fcheck_way) = true)
  (afewest_moves : PySem.W.nsIn K mainGlobals "fewest_moves" = some (some (.ref ffewest_moves)))
  (lfewest_moves : K.lookup ffewest_moves = some ⟨ocfewest_moves, odfewest_moves, .func (PySem.W.fnOf "fewest_moves" "fewest_moves" (defArgs s_fewest_moves) (defBody s_fewest_moves) (defScope s_fewest_moves) .none kVfewest_moves dcfewest_moves pmfewest_moves anfewest_moves cdfewest_moves ctfewest_moves), slfewest_moves⟩)
  (cfewest_moves : PySem.W.codeIn K cdfewest_moves "fewest_moves" = true)
  (kfewest_moves : PySem.W.keepIn K (.ref ffewest_moves) = true)
  (ashortest_way : PySem.W.nsIn K mainGlobals "shortest_way" = some (some (.ref fshortest_way)))
  (lshortest_way : K.lookup fshortest_way = some ⟨ocshortest_way, odshortest_way, .func (PySem.W.fnOf "shortest_way" "shortest_way" (defArgs s_shortest_way) (defBody s_shortest_way) (defScope s_shortest_way) .none kVshortest_way dcshortest_way pmshortest_way anshortest_way cdshortest_way ctshortest_way), slshortest_way⟩)
  (cshortest_way : PySem.W.codeIn K cdshortest_way "shortest_way" = true)
  (kshortest_way : PySem.W.keepIn K (.ref fshortest_way) = true)
  (alaw_links : PySem.W.nsIn K mainGlobals "_law_links" = some (some (.ref flaw_links)))
  (llaw_links : K.lookup flaw_links = some ⟨oclaw_links, odlaw_links, .func (PySem.W.fnOf "_law_links" "_law_links" (defArgs s_law_links) (defBody s_law_links) (defScope s_law_links) .none kVlaw_links dclaw_links pmlaw_links anlaw_links cdlaw_links ctlaw_links), sllaw_links⟩)
  (claw_links : PySem.W.codeIn K cdlaw_links "_law_links" = true)
  (klaw_links : PySem.W.keepIn K (.ref flaw_links) = true)
  (alaw_body : PySem.W.nsIn K mainGlobals "_law_body" = some (some (.ref flaw_body)))
  (llaw_body : K.lookup flaw_body = some ⟨oclaw_body, odlaw_body, .func (PySem.W.fnOf "_law_body" "_law_body" (defArgs s_law_body) (defBody s_law_body) (defScope s_law_body) .none kVlaw_body dclaw_body pmlaw_body anlaw_body cdlaw_body ctlaw_body), sllaw_body⟩)
  (claw_body : PySem.W.codeIn K cdlaw_body "_law_body" = true)
  (klaw_body : PySem.W.keepIn K (.ref flaw_body) = true)
  (alaw_steps : PySem.W.nsIn K mainGlobals "_law_steps" = some (some (.ref flaw_steps)))
  (llaw_steps : K.lookup flaw_steps = some ⟨oclaw_steps, odlaw_steps, .func (PySem.W.fnOf "_law_steps" "_law_steps" (defArgs s_law_steps) (defBody s_law_steps) (defScope s_law_steps) .none kVlaw_steps dclaw_steps pmlaw_steps anlaw_steps cdlaw_steps ctlaw_steps), sllaw_steps⟩)
  (claw_steps : PySem.W.codeIn K cdlaw_steps "_law_steps" = true)
  (klaw_steps : PySem.W.keepIn K (.ref flaw_steps) = true)
  (alaw_search : PySem.W.nsIn K mainGlobals "_law_search" = some (some (.ref flaw_search)))
  (llaw_search : K.lookup flaw_search = some ⟨oclaw_search, odlaw_search, .func (PySem.W.fnOf "_law_search" "_law_search" (defArgs s_law_search) (defBody s_law_search) (defScope s_law_search) .none kVlaw_search dclaw_search pmlaw_search anlaw_search cdlaw_search ctlaw_search), sllaw_search⟩)
  (claw_search : PySem.W.codeIn K cdlaw_search "_law_search" = true)
  (klaw_search : PySem.W.keepIn K (.ref flaw_search) = true)
  (alaw_walked : PySem.W.nsIn K mainGlobals "_law_walked" = some (some (.ref flaw_walked)))
  (llaw_walked : K.lookup flaw_walked = some ⟨oclaw_walked, odlaw_walked, .func (PySem.W.fnOf "_law_walked" "_law_walked" (defArgs s_law_walked) (defBody s_law_walked) (defScope s_law_walked) .none kVlaw_walked dclaw_walked pmlaw_walked anlaw_walked cdlaw_walked ctlaw_walked), sllaw_walked⟩)
  (claw_walked : PySem.W.codeIn K cdlaw_walked "_law_walked" = true)
  (klaw_walked : PySem.W.keepIn K (.ref flaw_walked) = true)
  (alaw_pair : PySem.W.nsIn K mainGlobals "_law_pair" = some (some (.ref flaw_pair)))
  (llaw_pair : K.lookup flaw_pair = some ⟨oclaw_pair, odlaw_pair, .func (PySem.W.fnOf "_law_pair" "_law_pair" (defArgs s_law_pair) (defBody s_law_pair) (defScope s_law_pair) .none kVlaw_pair dclaw_pair pmlaw_pair anlaw_pair cdlaw_pair ctlaw_pair), sllaw_pair⟩)
  (claw_pair : PySem.W.codeIn K cdlaw_pair "_law_pair" = true)
  (klaw_pair : PySem.W.keepIn K (.ref flaw_pair) = true)
  (alaw_least : PySem.W.nsIn K mainGlobals "_law_least" = some (some (.ref flaw_least)))
  (llaw_least : K.lookup flaw_least = some ⟨oclaw_least, odlaw_least, .func (PySem.W.fnOf "_law_least" "_law_least" (defArgs s_law_least) (defBody s_law_least) (defScope s_law_least) .none kVlaw_least dclaw_least pmlaw_least anlaw_least cdlaw_least ctlaw_least), sllaw_least⟩)
  (claw_least : PySem.W.codeIn K cdlaw_least "_law_least" = true)
  (klaw_least : PySem.W.keepIn K (.ref flaw_least) = true)
  (alaw_right : PySem.W.nsIn K mainGlobals "_law_right" = some (some (.ref flaw_right)))
  (llaw_right : K.lookup flaw_right = some ⟨oclaw_right, odlaw_right, .func (PySem.W.fnOf "_law_right" "_law_right" (defArgs s_law_right) (defBody s_law_right) (defScope s_law_right) .none kVlaw_right dclaw_right pmlaw_right anlaw_right cdlaw_right ctlaw_right), sllaw_right⟩)
  (claw_right : PySem.W.codeIn K cdlaw_right "_law_right" = true)
  (klaw_right : PySem.W.keepIn K (.ref flaw_right) = true)
  (alaw : PySem.W.nsIn K mainGlobals "law" = some (some (.ref flaw)))
  (llaw : K.lookup flaw = some ⟨oclaw, odlaw, .func (PySem.W.fnOf "law" "law" (defArgs s_law) (defBody s_law) (defScope s_law) .none kVlaw dclaw pmlaw anlaw cdlaw ctlaw), sllaw⟩)
  (claw : PySem.W.codeIn K cdlaw "law" = true)
  (klaw : PySem.W.keepIn K (.ref flaw) = true)
  (aC : PySem.W.nsIn K mainGlobals "Railway" = some (some (.ref C)))
  (cR : PySem.W.readsIn K C (.type "type") = true)
  (cG : PySem.W.specialIn K (.ref C) "__getattribute__" = some (some (.builtin "type.__getattribute__")))
  (cM : PySem.W.findCls K (.ref C) (.type "type") "MOST_STATIONS" = some (.val (.int 100 tM)))
  (pg : PySem.W.plainGet K C Str.empty = true)
  (hd : PySem.W.hasDictIn K C = true)
  (po : PySem.W.plainOver K C = true)
  (sa : PySem.W.findIn K (.ref C) "__setattr__" = some (some (.builtin "object.__setattr__")))
  (mk : PySem.W.makesIn K C = true)
  (kc : PySem.W.keepIn K (.ref C) = true)
  (n0 : PySem.W.findIn K (.ref C) "_tracks" = some none)
  (n1 : PySem.W.findIn K (.ref C) "_neighbours" = some none)
  (n2 : PySem.W.findIn K (.ref C) "_above" = some none)
  (n3 : PySem.W.findIn K (.ref C) "_levels" = some none)
  (kca : PySem.W.findIn K (.ref C) "__class__" = some (some (.builtin "object.__class__")))
  (kob : PySem.W.mroIn K C (.type "object") = some true)
  (sg : PySem.W.specialIn K (.builtin "object.__class__") "__get__" = some (some (.builtin "getset_descriptor.__get__")))
  (st : PySem.W.takesIn K (.builtin "object.__class__") = some true)
  (aMinit : PySem.W.findIn K (.ref C) "__init__" = some (some (.ref fMinit)))
  (iMinit : PySem.W.isFn K (.ref fMinit) = true)
  (lMinit : K.lookup fMinit = some ⟨ocMinit, odMinit, .func (PySem.W.fnOf "__init__" "Railway.__init__" (defArgs s_Railway_init) (defBody s_Railway_init) (defScope s_Railway_init) .none kVMinit dcMinit pmMinit anMinit cdMinit ctMinit), slMinit⟩)
  (cMinit : PySem.W.codeIn K cdMinit "Railway.__init__" = true)
  (kMinit : PySem.W.keepIn K (.ref fMinit) = true)
  (aMpath : PySem.W.findIn K (.ref C) "path" = some (some (.ref fMpath)))
  (iMpath : PySem.W.isFn K (.ref fMpath) = true)
  (lMpath : K.lookup fMpath = some ⟨ocMpath, odMpath, .func (PySem.W.fnOf "path" "Railway.path" (defArgs s_Railway_path) (defBody s_Railway_path) (defScope s_Railway_path) .none kVMpath dcMpath pmMpath anMpath cdMpath ctMpath), slMpath⟩)
  (cMpath : PySem.W.codeIn K cdMpath "Railway.path" = true)
  (kMpath : PySem.W.keepIn K (.ref fMpath) = true)
  (aMsize : PySem.W.findIn K (.ref C) "size" = some (some (.ref pMsize)))
  (gMsize : PySem.W.specialIn K (.ref pMsize) "__get__" = some (some (.builtin "property.__get__")))
  (tMsize : PySem.W.takesIn K (.ref pMsize) = some true)
  (rMsizeh : PySem.W.recIn K pMsize "property" = some (.ref fMsize :: rMsize))
  (lMsize : K.lookup fMsize = some ⟨ocMsize, odMsize, .func (PySem.W.fnOf "size" "Railway.size" (defArgs s_Railway_size) (defBody s_Railway_size) (defScope s_Railway_size) .none kVMsize dcMsize pmMsize anMsize cdMsize ctMsize), slMsize⟩)
  (cMsize : PySem.W.codeIn K cdMsize "Railway.size" = true)
  (kMsize : PySem.W.keepIn K (.ref fMsize) = true)
  (aMof : PySem.W.findCls K (.ref C) (.type "type") "of" = some (.get (.builtin "classmethod.__get__") (.ref pMof) .none (.ref C)))
  (rMofh : PySem.W.recIn K pMof "classmethod" = some (.ref fMof :: rMof))
  (iMof : PySem.W.fnIn K fMof = true)
  (lMof : K.lookup fMof = some ⟨ocMof, odMof, .func (PySem.W.fnOf "of" "Railway.of" (defArgs s_Railway_of) (defBody s_Railway_of) (defScope s_Railway_of) .none kVMof dcMof pmMof anMof cdMof ctMof), slMof⟩)
  (cMof : PySem.W.codeIn K cdMof "Railway.of" = true)
  (kMof : PySem.W.keepIn K (.ref fMof) = true)
  (aMneighbours : PySem.W.findIn K (.ref C) "neighbours" = some (some (.ref fMneighbours)))
  (iMneighbours : PySem.W.isFn K (.ref fMneighbours) = true)
  (lMneighbours : K.lookup fMneighbours = some ⟨ocMneighbours, odMneighbours, .func (PySem.W.fnOf "neighbours" "Railway.neighbours" (defArgs s_Railway_neighbours) (defBody s_Railway_neighbours) (defScope s_Railway_neighbours) .none kVMneighbours dcMneighbours pmMneighbours anMneighbours cdMneighbours ctMneighbours), slMneighbours⟩)
  (cMneighbours : PySem.W.codeIn K cdMneighbours "Railway.neighbours" = true)
  (kMneighbours : PySem.W.keepIn K (.ref fMneighbours) = true)
  (aMdistance : PySem.W.findIn K (.ref C) "distance" = some (some (.ref fMdistance)))
  (iMdistance : PySem.W.isFn K (.ref fMdistance) = true)
  (lMdistance : K.lookup fMdistance = some ⟨ocMdistance, odMdistance, .func (PySem.W.fnOf "distance" "Railway.distance" (defArgs s_Railway_distance) (defBody s_Railway_distance) (defScope s_Railway_distance) .none kVMdistance dcMdistance pmMdistance anMdistance cdMdistance ctMdistance), slMdistance⟩)
  (cMdistance : PySem.W.codeIn K cdMdistance "Railway.distance" = true)
  (kMdistance : PySem.W.keepIn K (.ref fMdistance) = true)
  (z_len : PySem.W.nsIn K mainGlobals "len" = some none)
  (z_isinstance : PySem.W.nsIn K mainGlobals "isinstance" = some none)
  (z_int : PySem.W.nsIn K mainGlobals "int" = some none)
  (z_bool : PySem.W.nsIn K mainGlobals "bool" = some none)
  (z_tuple : PySem.W.nsIn K mainGlobals "tuple" = some none)
  (z_list : PySem.W.nsIn K mainGlobals "list" = some none)
  (z_sorted : PySem.W.nsIn K mainGlobals "sorted" = some none)
  (z_min : PySem.W.nsIn K mainGlobals "min" = some none)
  (z_max : PySem.W.nsIn K mainGlobals "max" = some none)
  (z_range : PySem.W.nsIn K mainGlobals "range" = some none)
  (z_enumerate : PySem.W.nsIn K mainGlobals "enumerate" = some none)
  (z_repr : PySem.W.nsIn K mainGlobals "repr" = some none)
  (z_set : PySem.W.nsIn K mainGlobals "set" = some none)
  (z_all : PySem.W.nsIn K mainGlobals "all" = some none)
  (z_any : PySem.W.nsIn K mainGlobals "any" = some none)
  (z_zip : PySem.W.nsIn K mainGlobals "zip" = some none)
  (z_str : PySem.W.nsIn K mainGlobals "str" = some none)
  (vMOST_SEARCHED : PySem.W.nsIn K mainGlobals "MOST_SEARCHED" = some (some (.int 40 tMOST_SEARCHED))) :
  ∃ fd : FuncData, (∀ (s : Shared) (u : Value), BindsTo s fd ⟨[u], []⟩ [("script", u)]) ∧ ∀ base : Heap, K.In base → base.Ns mainGlobals mg → FnG P w K mg base CX0 21 fa fd ["script"] (spLaw K) := by
  have e := hfa.symm.trans (PySem.W.mg_of X G alaw)
  cases e
  have N : Nm mg := ⟨PySem.W.mg_none_of X G z_len, PySem.W.mg_none_of X G z_isinstance, PySem.W.mg_none_of X G z_int, PySem.W.mg_none_of X G z_bool, PySem.W.mg_none_of X G z_tuple, PySem.W.mg_none_of X G z_list, PySem.W.mg_none_of X G z_sorted, PySem.W.mg_none_of X G z_min, PySem.W.mg_none_of X G z_max, PySem.W.mg_none_of X G z_range, PySem.W.mg_none_of X G z_enumerate, PySem.W.mg_none_of X G z_repr, PySem.W.mg_none_of X G z_set, PySem.W.mg_none_of X G z_all, PySem.W.mg_none_of X G z_any, PySem.W.mg_none_of X G z_zip, PySem.W.mg_none_of X G z_str⟩
  have Fis_integer := fun_mk (st := s_is_integer) lis_integer cis_integer kis_integer
  have bis_integer := Fis_integer.binds (ps := ["value"]) fun _ _ _ _ _ _ us hl => by obtain ⟨_, rfl⟩ := lenV1 hl; exact rfl
  have Fis_number_from := fun_mk (st := s_is_number_from) lis_number_from cis_number_from kis_number_from
  have bis_number_from := Fis_number_from.binds (ps := ["value", "least", "greatest"]) fun _ _ _ _ _ _ us hl => by obtain ⟨_, _, _, rfl⟩ := lenV3 hl; exact rfl
  have Fis_pair_of_stations := fun_mk (st := s_is_pair_of_stations) lis_pair_of_stations cis_pair_of_stations kis_pair_of_stations
  have bis_pair_of_stations := Fis_pair_of_stations.binds (ps := ["value", "size"]) fun _ _ _ _ _ _ us hl => by obtain ⟨_, _, rfl⟩ := lenV2 hl; exact rfl
  have Fis_station := fun_mk (st := s_is_station) lis_station cis_station kis_station
  have bis_station := Fis_station.binds (ps := ["railway", "value"]) fun _ _ _ _ _ _ us hl => by obtain ⟨_, _, rfl⟩ := lenV2 hl; exact rfl
  have Fcheck_station := fun_mk (st := s_check_station) lcheck_station ccheck_station kcheck_station
  have bcheck_station := Fcheck_station.binds (ps := ["railway", "station"]) fun _ _ _ _ _ _ us hl => by obtain ⟨_, _, rfl⟩ := lenV2 hl; exact rfl
  have Fjoined := fun_mk (st := s_joined) ljoined cjoined kjoined
  have bjoined := Fjoined.binds (ps := ["groups", "one", "other"]) fun _ _ _ _ _ _ us hl => by obtain ⟨_, _, _, rfl⟩ := lenV3 hl; exact rfl
  have Ffirst_wrong_track := fun_mk (st := s_first_wrong_track) lfirst_wrong_track cfirst_wrong_track kfirst_wrong_track
  have bfirst_wrong_track := Ffirst_wrong_track.binds (ps := ["tracks"]) fun _ _ _ _ _ _ us hl => by obtain ⟨_, rfl⟩ := lenV1 hl; exact rfl
  have Fneighbours_of := fun_mk (st := s_neighbours_of) lneighbours_of cneighbours_of kneighbours_of
  have bneighbours_of := Fneighbours_of.binds (ps := ["tracks"]) fun _ _ _ _ _ _ us hl => by obtain ⟨_, rfl⟩ := lenV1 hl; exact rfl
  have Fplaces_below_first := fun_mk (st := s_places_below_first) lplaces_below_first cplaces_below_first kplaces_below_first
  have bplaces_below_first := Fplaces_below_first.binds (ps := ["neighbours"]) fun _ _ _ _ _ _ us hl => by obtain ⟨_, rfl⟩ := lenV1 hl; exact rfl
  have Flaw_begin := fun_mk (st := s_law_begin) llaw_begin claw_begin klaw_begin
  have blaw_begin := Flaw_begin.binds (ps := ["script"]) fun _ _ _ _ _ _ us hl => by obtain ⟨_, rfl⟩ := lenV1 hl; exact rfl
  have Flaw_mixed := fun_mk (st := s_law_mixed) llaw_mixed claw_mixed klaw_mixed
  have blaw_mixed := Flaw_mixed.binds (ps := ["cell", "k"]) fun _ _ _ _ _ _ us hl => by obtain ⟨_, _, rfl⟩ := lenV2 hl; exact rfl
  have Flaw_next := fun_mk (st := s_law_next) llaw_next claw_next klaw_next
  have blaw_next := Flaw_next.binds (ps := ["draw", "bound"]) fun _ _ _ _ _ _ us hl => by obtain ⟨_, _, rfl⟩ := lenV2 hl; exact rfl
  have Flaw_tracks := fun_mk (st := s_law_tracks) llaw_tracks claw_tracks klaw_tracks
  have blaw_tracks := Flaw_tracks.binds (ps := ["draw", "most"]) fun _ _ _ _ _ _ us hl => by obtain ⟨_, _, rfl⟩ := lenV2 hl; exact rfl
  have Fcheck_length := fun_mk (st := s_check_length) lcheck_length ccheck_length kcheck_length
  have bcheck_length := Fcheck_length.binds (ps := ["length"]) fun _ _ _ _ _ _ us hl => by obtain ⟨_, rfl⟩ := lenV1 hl; exact rfl
  have Flayers := fun_mk (st := s_layers) llayers clayers klayers
  have blayers := Flayers.binds (ps := ["railway", "station", "barred"]) fun _ _ _ _ _ _ us hl => by obtain ⟨_, _, _, rfl⟩ := lenV3 hl; exact rfl
  have Fdepth_behind := fun_mk (st := s_depth_behind) ldepth_behind cdepth_behind kdepth_behind
  have bdepth_behind := Fdepth_behind.binds (ps := ["railway", "station", "seen_from"]) fun _ _ _ _ _ _ us hl => by obtain ⟨_, _, _, rfl⟩ := lenV3 hl; exact rfl
  have Fbranch_depths := fun_mk (st := s_branch_depths) lbranch_depths cbranch_depths kbranch_depths
  have bbranch_depths := Fbranch_depths.binds (ps := ["railway", "station"]) fun _ _ _ _ _ _ us hl => by obtain ⟨_, _, rfl⟩ := lenV2 hl; exact rfl
  have Flongest_path := fun_mk (st := s_longest_path) llongest_path clongest_path klongest_path
  have blongest_path := Flongest_path.binds (ps := ["railway"]) fun _ _ _ _ _ _ us hl => by obtain ⟨_, rfl⟩ := lenV1 hl; exact rfl
  have Flayers_behind := fun_mk (st := s_layers_behind) llayers_behind clayers_behind klayers_behind
  have blayers_behind := Flayers_behind.binds (ps := ["railway", "station", "seen_from"]) fun _ _ _ _ _ _ us hl => by obtain ⟨_, _, _, rfl⟩ := lenV3 hl; exact rfl
  have Fis_line := fun_mk (st := s_is_line) lis_line cis_line kis_line
  have bis_line := Fis_line.binds (ps := ["railway", "value"]) fun _ _ _ _ _ _ us hl => by obtain ⟨_, _, rfl⟩ := lenV2 hl; exact rfl
  have Fis_divide := fun_mk (st := s_is_divide) lis_divide cis_divide kis_divide
  have bis_divide := Fis_divide.binds (ps := ["railway", "length", "value"]) fun _ _ _ _ _ _ us hl => by obtain ⟨_, _, _, rfl⟩ := lenV3 hl; exact rfl
  have Fmark := fun_mk (st := s_mark) lmark cmark kmark
  have bmark := Fmark.binds (ps := ["railway", "line", "station"]) fun _ _ _ _ _ _ us hl => by obtain ⟨_, _, _, rfl⟩ := lenV3 hl; exact rfl
  have Ffind_divide := fun_mk (st := s_find_divide) lfind_divide cfind_divide kfind_divide
  have bfind_divide := Ffind_divide.binds (ps := ["railway", "length"]) fun _ _ _ _ _ _ us hl => by obtain ⟨_, _, rfl⟩ := lenV2 hl; exact rfl
  have Fis_standing := fun_mk (st := s_is_standing) lis_standing cis_standing kis_standing
  have bis_standing := Fis_standing.binds (ps := ["railway", "value"]) fun _ _ _ _ _ _ us hl => by obtain ⟨_, _, rfl⟩ := lenV2 hl; exact rfl
  have Fcheck_standing := fun_mk (st := s_check_standing) lcheck_standing ccheck_standing kcheck_standing
  have bcheck_standing := Fcheck_standing.binds (ps := ["railway", "standing"]) fun _ _ _ _ _ _ us hl => by obtain ⟨_, _, rfl⟩ := lenV2 hl; exact rfl
  have Flength_of := fun_mk (st := s_length_of) llength_of clength_of klength_of
  have blength_of := Flength_of.binds (ps := ["railway", "standing"]) fun _ _ _ _ _ _ us hl => by obtain ⟨_, _, rfl⟩ := lenV2 hl; exact rfl
  have Fbody_of := fun_mk (st := s_body_of) lbody_of cbody_of kbody_of
  have bbody_of := Fbody_of.binds (ps := ["railway", "standing"]) fun _ _ _ _ _ _ us hl => by obtain ⟨_, _, rfl⟩ := lenV2 hl; exact rfl
  have Fsteps_from := fun_mk (st := s_steps_from) lsteps_from csteps_from ksteps_from
  have bsteps_from := Fsteps_from.binds (ps := ["railway", "body"]) fun _ _ _ _ _ _ us hl => by obtain ⟨_, _, rfl⟩ := lenV2 hl; exact rfl
  have Fbody_after := fun_mk (st := s_body_after) lbody_after cbody_after kbody_after
  have bbody_after := Fbody_after.binds (ps := ["body", "end", "station"]) fun _ _ _ _ _ _ us hl => by obtain ⟨_, _, _, rfl⟩ := lenV3 hl; exact rfl
  have Fis_pocket := fun_mk (st := s_is_pocket) lis_pocket cis_pocket kis_pocket
  have bis_pocket := Fis_pocket.binds (ps := ["railway", "length", "value"]) fun _ _ _ _ _ _ us hl => by obtain ⟨_, _, _, rfl⟩ := lenV3 hl; exact rfl
  have Fhas_clamp := fun_mk (st := s_has_clamp) lhas_clamp chas_clamp khas_clamp
  have bhas_clamp := Fhas_clamp.binds (ps := ["railway", "standing", "clamp"]) fun _ _ _ _ _ _ us hl => by obtain ⟨_, _, _, rfl⟩ := lenV3 hl; exact rfl
  have Fclimb := fun_mk (st := s_climb) lclimb cclimb kclimb
  have bclimb := Fclimb.binds (ps := ["railway", "standing"]) fun _ _ _ _ _ _ us hl => by obtain ⟨_, _, rfl⟩ := lenV2 hl; exact rfl
  have Fpocket := fun_mk (st := s_pocket) lpocket cpocket kpocket
  have bpocket := Fpocket.binds (ps := ["railway", "standing"]) fun _ _ _ _ _ _ us hl => by obtain ⟨_, _, rfl⟩ := lenV2 hl; exact rfl
  have Fslack_and_depths := fun_mk (st := s_slack_and_depths) lslack_and_depths cslack_and_depths kslack_and_depths
  have bslack_and_depths := Fslack_and_depths.binds (ps := ["railway", "length", "pair"]) fun _ _ _ _ _ _ us hl => by obtain ⟨_, _, _, rfl⟩ := lenV3 hl; exact rfl
  have Fnext_part := fun_mk (st := s_next_part) lnext_part cnext_part knext_part
  have bnext_part := Fnext_part.binds (ps := ["railway", "length", "part"]) fun _ _ _ _ _ _ us hl => by obtain ⟨_, _, _, rfl⟩ := lenV3 hl; exact rfl
  have Fcommon_length := fun_mk (st := s_common_length) lcommon_length ccommon_length kcommon_length
  have bcommon_length := Fcommon_length.binds (ps := ["railway", "start", "goal"]) fun _ _ _ _ _ _ us hl => by obtain ⟨_, _, _, rfl⟩ := lenV3 hl; exact rfl
  have Freason_against := fun_mk (st := s_reason_against) lreason_against creason_against kreason_against
  have breason_against := Freason_against.binds (ps := ["railway", "start", "goal"]) fun _ _ _ _ _ _ us hl => by obtain ⟨_, _, _, rfl⟩ := lenV3 hl; exact rfl
  have Fare_opposed := fun_mk (st := s_are_opposed) lare_opposed care_opposed kare_opposed
  have bare_opposed := Fare_opposed.binds (ps := ["railway", "start", "goal", "line"]) fun _ _ _ _ _ _ us hl => by obtain ⟨_, _, _, _, rfl⟩ := lenV4 hl; exact rfl
  have Frise := fun_mk (st := s_rise) lrise crise krise
  have brise := Frise.binds (ps := ["railway", "standing", "line"]) fun _ _ _ _ _ _ us hl => by obtain ⟨_, _, _, rfl⟩ := lenV3 hl; exact rfl
  have Fleast_way := fun_mk (st := s_least_way) lleast_way cleast_way kleast_way
  have bleast_way := Fleast_way.binds (ps := ["railway", "start", "goal"]) fun _ _ _ _ _ _ us hl => by obtain ⟨_, _, _, rfl⟩ := lenV3 hl; exact rfl
  have Fcounts_to := fun_mk (st := s_counts_to) lcounts_to ccounts_to kcounts_to
  have bcounts_to := Fcounts_to.binds (ps := ["railway", "start", "goal"]) fun _ _ _ _ _ _ us hl => by obtain ⟨_, _, _, rfl⟩ := lenV3 hl; exact rfl
  have Fcheck_way := fun_mk (st := s_check_way) lcheck_way ccheck_way kcheck_way
  have bcheck_way := Fcheck_way.binds (ps := ["railway", "start", "goal"]) fun _ _ _ _ _ _ us hl => by obtain ⟨_, _, _, rfl⟩ := lenV3 hl; exact rfl
  have Ffewest_moves := fun_mk (st := s_fewest_moves) lfewest_moves cfewest_moves kfewest_moves
  have bfewest_moves := Ffewest_moves.binds (ps := ["railway", "start", "goal"]) fun _ _ _ _ _ _ us hl => by obtain ⟨_, _, _, rfl⟩ := lenV3 hl; exact rfl
  have Fshortest_way := fun_mk (st := s_shortest_way) lshortest_way cshortest_way kshortest_way
  have bshortest_way := Fshortest_way.binds (ps := ["railway", "start", "goal"]) fun _ _ _ _ _ _ us hl => by obtain ⟨_, _, _, rfl⟩ := lenV3 hl; exact rfl
  have Flaw_links := fun_mk (st := s_law_links) llaw_links claw_links klaw_links
  have blaw_links := Flaw_links.binds (ps := ["tracks"]) fun _ _ _ _ _ _ us hl => by obtain ⟨_, rfl⟩ := lenV1 hl; exact rfl
  have Flaw_body := fun_mk (st := s_law_body) llaw_body claw_body klaw_body
  have blaw_body := Flaw_body.binds (ps := ["web", "one", "two"]) fun _ _ _ _ _ _ us hl => by obtain ⟨_, _, _, rfl⟩ := lenV3 hl; exact rfl
  have Flaw_steps := fun_mk (st := s_law_steps) llaw_steps claw_steps klaw_steps
  have blaw_steps := Flaw_steps.binds (ps := ["web", "pair"]) fun _ _ _ _ _ _ us hl => by obtain ⟨_, _, rfl⟩ := lenV2 hl; exact rfl
  have Flaw_search := fun_mk (st := s_law_search) llaw_search claw_search klaw_search
  have blaw_search := Flaw_search.binds (ps := ["web", "pair"]) fun _ _ _ _ _ _ us hl => by obtain ⟨_, _, rfl⟩ := lenV2 hl; exact rfl
  have Flaw_walked := fun_mk (st := s_law_walked) llaw_walked claw_walked klaw_walked
  have blaw_walked := Flaw_walked.binds (ps := ["web", "pair", "moves"]) fun _ _ _ _ _ _ us hl => by obtain ⟨_, _, _, rfl⟩ := lenV3 hl; exact rfl
  have Flaw_pair := fun_mk (st := s_law_pair) llaw_pair claw_pair klaw_pair
  have blaw_pair := Flaw_pair.binds (ps := ["draw", "count"]) fun _ _ _ _ _ _ us hl => by obtain ⟨_, _, rfl⟩ := lenV2 hl; exact rfl
  have Flaw_least := fun_mk (st := s_law_least) llaw_least claw_least klaw_least
  have blaw_least := Flaw_least.binds (ps := ["web", "first", "gaps"]) fun _ _ _ _ _ _ us hl => by obtain ⟨_, _, _, rfl⟩ := lenV3 hl; exact rfl
  have Flaw_right := fun_mk (st := s_law_right) llaw_right claw_right klaw_right
  have blaw_right := Flaw_right.binds (ps := ["net", "web", "first", "last"]) fun _ _ _ _ _ _ us hl => by obtain ⟨_, _, _, _, rfl⟩ := lenV4 hl; exact rfl
  have Flaw := fun_mk (st := s_law) llaw claw klaw
  have blaw := Flaw.binds (ps := ["script"]) fun _ _ _ _ _ _ us hl => by obtain ⟨_, rfl⟩ := lenV1 hl; exact rfl
  have cl : Cls K C := ⟨pg, hd, po, sa⟩
  have cr : CRead K C (.type "type") := ⟨cR, cG⟩
  have TX : TxtR K mg C := ⟨cl, n0, n1, n2, n3, PySem.W.mg_of X G aC, .type "type", tM, cr, ⟨cM, ⟨tM, rfl⟩⟩⟩
  have JK : InsK K C := ⟨kca, sg, st, kob⟩
  have KC : KCls K := ⟨sg, st⟩
  have FMinit := fun_mk (st := s_Railway_init) lMinit cMinit kMinit
  have FMpath := fun_mk (st := s_Railway_path) lMpath cMpath kMpath
  have bMpath := FMpath.binds (ps := ["self", "one", "other"]) fun _ _ _ _ _ _ us hl => by obtain ⟨_, _, _, rfl⟩ := lenV3 hl; exact rfl
  have mMpath : Meth K C "path" fMpath := ⟨aMpath, iMpath, kMpath⟩
  have PMsize : PropOf K C "size" pMsize fMsize := ⟨aMsize, gMsize, tMsize, ⟨rMsize, rMsizeh⟩⟩
  have FMsize := fun_mk (st := s_Railway_size) lMsize cMsize kMsize
  have bMsize := FMsize.binds (ps := ["self"]) fun _ _ _ _ _ _ us hl => by obtain ⟨_, rfl⟩ := lenV1 hl; exact rfl
  have FMof := fun_mk (st := s_Railway_of) lMof cMof kMof
  have bMof := FMof.binds (ps := ["cls", "tracks"]) fun _ _ _ _ _ _ us hl => by obtain ⟨_, _, rfl⟩ := lenV2 hl; exact rfl
  have cmMof : CMet K C (.type "type") "of" pMof fMof := ⟨aMof, ⟨rMof, rMofh⟩, iMof⟩
  have FMneighbours := fun_mk (st := s_Railway_neighbours) lMneighbours cMneighbours kMneighbours
  have bMneighbours := FMneighbours.binds (ps := ["self", "station"]) fun _ _ _ _ _ _ us hl => by obtain ⟨_, _, rfl⟩ := lenV2 hl; exact rfl
  have mMneighbours : Meth K C "neighbours" fMneighbours := ⟨aMneighbours, iMneighbours, kMneighbours⟩
  have FMdistance := fun_mk (st := s_Railway_distance) lMdistance cMdistance kMdistance
  have bMdistance := FMdistance.binds (ps := ["self", "one", "other"]) fun _ _ _ _ _ _ us hl => by obtain ⟨_, _, _, rfl⟩ := lenV3 hl; exact rfl
  have mMdistance : Meth K C "distance" fMdistance := ⟨aMdistance, iMdistance, kMdistance⟩
  have mMOST_SEARCHED : mg "MOST_SEARCHED" = some (.int 40 tMOST_SEARCHED) := PySem.W.mg_of X G vMOST_SEARCHED
  refine ⟨PySem.W.fnOf "law" "law" (defArgs s_law) (defBody s_law) (defScope s_law) .none kVlaw dclaw pmlaw anlaw cdlaw ctlaw, fun s v => .of_eq rfl, fun base _ _ => ?_⟩
  have Uis_integer : Use P w K mg base CX0 1 _ _ _ _ _ := ⟨ok_isInt Fis_integer N, PySem.W.mg_of X G ais_integer, kis_integer, bis_integer⟩
  have Uis_number_from : Use P w K mg base CX0 2 _ _ _ _ _ := ⟨ok_num Fis_number_from Uis_integer, PySem.W.mg_of X G ais_number_from, kis_number_from, bis_number_from⟩
  have Uis_pair_of_stations : Use P w K mg base CX0 3 _ _ _ _ _ := ⟨ok_pair Fis_pair_of_stations N Uis_number_from, PySem.W.mg_of X G ais_pair_of_stations, kis_pair_of_stations, bis_pair_of_stations⟩
  have Z : SizeOf P w K mg base C pMsize fMsize _ := ⟨cl, PMsize, ok_size FMsize N TX, bMsize⟩
  have Uis_station : Use P w K mg base CX0 3 _ _ _ _ _ := ⟨ok_isst Fis_station Uis_number_from Z, PySem.W.mg_of X G ais_station, kis_station, bis_station⟩
  have Ucheck_station : Use P w K mg base CX0 4 _ _ _ _ _ := ⟨ok_chk Fcheck_station Uis_station, PySem.W.mg_of X G acheck_station, kcheck_station, bcheck_station⟩
  have GP := ok_path (P := P) (w := w) (base := base) FMpath N TX Ucheck_station
  have Ujoined : Use P w K mg base CX0 1 _ _ _ _ _ := ⟨ok_join Fjoined, PySem.W.mg_of X G ajoined, kjoined, bjoined⟩
  have Ufirst_wrong_track : Use P w K mg base CX0 4 _ _ _ _ _ := ⟨ok_first Ffirst_wrong_track N Uis_pair_of_stations Ujoined, PySem.W.mg_of X G afirst_wrong_track, kfirst_wrong_track, bfirst_wrong_track⟩
  have Uneighbours_of : Use P w K mg base CX0 1 _ _ _ _ _ := ⟨ok_nbs Fneighbours_of N, PySem.W.mg_of X G aneighbours_of, kneighbours_of, bneighbours_of⟩
  have Uplaces_below_first : Use P w K mg base CX0 1 _ _ _ _ _ := ⟨ok_places Fplaces_below_first N, PySem.W.mg_of X G aplaces_below_first, kplaces_below_first, bplaces_below_first⟩
  have GI := fn_init (P := P) (w := w) (base := base) FMinit N TX Ufirst_wrong_track Uneighbours_of Uplaces_below_first
  have M : Mk K C fMinit := ⟨mk, aMinit, iMinit, kc⟩
  have GO : FnR P w K mg base CX0 7 fMof (spRof C) := ((ok_rof FMof N M GI).raw bMof .nil).imp fun vs H Q E h => by rw [List.append_nil]; exact h
  have Ulaw_begin : Use P w K mg base CX0 1 _ _ _ _ _ := ⟨ok_begin Flaw_begin, PySem.W.mg_of X G alaw_begin, klaw_begin, blaw_begin⟩
  have Ulaw_next : Use P w K mg base CX0 2 _ _ _ _ _ := ⟨ok_next Flaw_next ⟨PySem.W.mg_none_of X G z_len, PySem.W.mg_of X G alaw_mixed⟩ Flaw_mixed blaw_mixed, PySem.W.mg_of X G alaw_next, klaw_next, blaw_next⟩
  have Ulaw_tracks : Use P w K mg base CX0 3 _ _ _ _ _ := ⟨ok_trk Flaw_tracks N Ulaw_next, PySem.W.mg_of X G alaw_tracks, klaw_tracks, blaw_tracks⟩
  have Uis_standing : Use P w K mg base CX0 4 _ _ _ _ _ := ⟨ok_isstd Fis_standing Uis_pair_of_stations Z, PySem.W.mg_of X G ais_standing, kis_standing, bis_standing⟩
  have Ucheck_standing : Use P w K mg base CX0 5 _ _ _ _ _ := ⟨ok_chkstd Fcheck_standing Uis_standing, PySem.W.mg_of X G acheck_standing, kcheck_standing, bcheck_standing⟩
  have Ubody_of : Use P w K mg base CX0 6 _ _ _ _ _ := ⟨ok_body Fbody_of TX Ucheck_standing mMpath GP bMpath, PySem.W.mg_of X G abody_of, kbody_of, bbody_of⟩
  have GPF := ok_pathF (P := P) (w := w) (base := base) FMpath N TX Ucheck_station
  have UbF : Use P w K mg base CX0 6 _ _ _ _ _ := ⟨ok_bodyF Fbody_of TX Ucheck_standing mMpath GPF bMpath, PySem.W.mg_of X G abody_of, kbody_of, bbody_of⟩
  have Ulength_of : Use P w K mg base CX0 7 _ _ _ _ _ := ⟨ok_len Flength_of N Ubody_of, PySem.W.mg_of X G alength_of, klength_of, blength_of⟩
  have Ucheck_length : Use P w K mg base CX0 2 _ _ _ _ _ := ⟨ok_chklen Fcheck_length Uis_integer, PySem.W.mg_of X G acheck_length, kcheck_length, bcheck_length⟩
  have Mn : MU P w K mg base C 5 "neighbours" fMneighbours _ ["self", "station"] (spNbr C) := ⟨mMneighbours, ok_nbr FMneighbours TX Ucheck_station, bMneighbours⟩
  have Mp : MU P w K mg base C 5 "path" fMpath _ ["self", "one", "other"] (spPath C) := ⟨mMpath, GP, bMpath⟩
  have Md : MU P w K mg base C 6 "distance" fMdistance _ ["self", "one", "other"] (spDist C) := ⟨mMdistance, ok_dist FMdistance N TX mMpath GP bMpath, bMdistance⟩
  have Ulayers : Use P w K mg base CX0 6 _ _ _ _ _ := ⟨ok_layers Flayers TX mMneighbours Mn.G bMneighbours, PySem.W.mg_of X G alayers, klayers, blayers⟩
  have Ulayers_behind : Use P w K mg base CX0 7 _ _ _ _ _ := ⟨ok_lbh Flayers_behind TX Ucheck_station Ulayers Mp, PySem.W.mg_of X G alayers_behind, klayers_behind, blayers_behind⟩
  have Udepth_behind : Use P w K mg base CX0 8 _ _ _ _ _ := ⟨ok_dbh Fdepth_behind N Ulayers_behind, PySem.W.mg_of X G adepth_behind, kdepth_behind, bdepth_behind⟩
  have Uslack_and_depths : Use P w K mg base CX0 9 _ _ _ _ _ := ⟨ok_slk Fslack_and_depths TX Udepth_behind Md, PySem.W.mg_of X G aslack_and_depths, kslack_and_depths, bslack_and_depths⟩
  have Unext_part : Use P w K mg base CX0 10 _ _ _ _ _ := ⟨ok_nxp Fnext_part Uslack_and_depths, PySem.W.mg_of X G anext_part, knext_part, bnext_part⟩
  have GPO : GenU P w K mg base 11 "climb" fclimb _ ["railway", "standing"] ["standing", "railway"] swp (spCli C) := ⟨ok_cli Fclimb N Ubody_of Unext_part, PySem.W.mg_of X G aclimb, kclimb, bclimb, L2.TT.Fun.kb Fclimb (fun _ _ _ _ _ _ ws hl => match ws, hl with | [_, _], _ => rfl)⟩
  have Uis_pocket : Use P w K mg base CX0 10 _ _ _ _ _ := ⟨ok_pkt Fis_pocket Ucheck_length Uis_standing Uslack_and_depths, PySem.W.mg_of X G ais_pocket, kis_pocket, bis_pocket⟩
  have UP : UseK P w K mg base 15 "pocket" fpocket _ ["railway", "standing"] ["standing", "railway"] swp (spPoc C) := ⟨⟨ok_poc Fpocket N GPO Uis_pocket Ulength_of, PySem.W.mg_of X G apocket, kpocket, bpocket⟩, L2.TT.Fun.kb Fpocket (fun _ _ _ _ _ _ ws hl => match ws, hl with | [_, _], _ => rfl)⟩
  have Ubranch_depths : Use P w K mg base CX0 9 _ _ _ _ _ := ⟨ok_brd Fbranch_depths N TX Ucheck_station Udepth_behind Mn, PySem.W.mg_of X G abranch_depths, kbranch_depths, bbranch_depths⟩
  have Ulongest_path : Use P w K mg base CX0 7 _ _ _ _ _ := ⟨ok_lngP Flongest_path TX Ulayers Mp, PySem.W.mg_of X G alongest_path, klongest_path, blongest_path⟩
  have UI : UseK P w K mg base 6 "is_line" fis_line _ ["railway", "value"] ["value", "railway"] swp (spLnQ C K) := ⟨⟨fnok_or (ok_isl Fis_line N TX Uis_station Mp) (ok_isl0 Fis_line N TX Uis_station Mp), PySem.W.mg_of X G ais_line, kis_line, bis_line⟩, L2.TT.Fun.kb Fis_line (fun _ _ _ _ _ _ ws hl => match ws, hl with | [_, _], _ => rfl)⟩
  have Uis_divide : Use P w K mg base CX0 10 _ _ _ _ _ := ⟨ok_isd Fis_divide Ucheck_length UI.toUse Ubranch_depths, PySem.W.mg_of X G ais_divide, kis_divide, bis_divide⟩
  have Umark : Use P w K mg base CX0 7 _ _ _ _ _ := ⟨ok_mrk Fmark N TX UI.toUse Ucheck_station Mp, PySem.W.mg_of X G amark, kmark, bmark⟩
  have Ufind_divide : Use P w K mg base CX0 11 _ _ _ _ _ := ⟨ok_fdv Ffind_divide N Ucheck_length Ulongest_path Uis_divide, PySem.W.mg_of X G afind_divide, kfind_divide, bfind_divide⟩
  have Uhas_clamp : Use P w K mg base CX0 7 _ _ _ _ _ := ⟨ok_hsc Fhas_clamp UbF, PySem.W.mg_of X G ahas_clamp, khas_clamp, bhas_clamp⟩
  have Ucommon_length : Use P w K mg base CX0 8 _ _ _ _ _ := ⟨ok_cml Fcommon_length Ulength_of, PySem.W.mg_of X G acommon_length, kcommon_length, bcommon_length⟩
  have Urise : Use P w K mg base CX0 8 _ _ _ _ _ := ⟨ok_ris Frise Umark, PySem.W.mg_of X G arise, krise, brise⟩
  have Uare_opposed : Use P w K mg base CX0 9 _ _ _ _ _ := ⟨ok_opd Fare_opposed Urise, PySem.W.mg_of X G aare_opposed, kare_opposed, bare_opposed⟩
  have Ureason_against : Use P w K mg base CX0 16 _ _ _ _ _ := ⟨ok_rsn Freason_against Ucommon_length UP.toUse Uhas_clamp Ufind_divide Uare_opposed, PySem.W.mg_of X G areason_against, kreason_against, breason_against⟩
  have Ubody_after : Use P w K mg base CX0 1 _ _ _ _ _ := ⟨ok_aft Fbody_after, PySem.W.mg_of X G abody_after, kbody_after, bbody_after⟩
  have Usteps_from : Use P w K mg base CX0 6 _ _ _ _ _ := ⟨ok_stp Fsteps_from TX Ubody_after Mn, PySem.W.mg_of X G asteps_from, ksteps_from, bsteps_from⟩
  have Ucounts_to : Use P w K mg base CX0 7 _ _ _ _ _ := ⟨ok_cns Fcounts_to Usteps_from, PySem.W.mg_of X G acounts_to, kcounts_to, bcounts_to⟩
  have Uleast_way : Use P w K mg base CX0 8 _ _ _ _ _ := ⟨ok_lwy Fleast_way N Ubody_of Ucounts_to Usteps_from, PySem.W.mg_of X G aleast_way, kleast_way, bleast_way⟩
  have Ucheck_way : Use P w K mg base CX0 17 _ _ _ _ _ := ⟨ok_ckw Fcheck_way Ureason_against, PySem.W.mg_of X G acheck_way, kcheck_way, bcheck_way⟩
  have UW : UseK P w K mg base 18 "shortest_way" fshortest_way _ ["railway", "start", "goal"] ["goal", "start", "railway"] rv3 (spShw C) := ⟨⟨ok_shw Fshortest_way mMOST_SEARCHED Z Ucommon_length Ucheck_way Uleast_way, PySem.W.mg_of X G ashortest_way, kshortest_way, bshortest_way⟩, L2.TT.Fun.kb Fshortest_way (fun _ _ _ _ _ _ ws hl => match ws, hl with | [_, _, _], _ => rfl)⟩
  have UFW : UseK P w K mg base 19 "fewest_moves" ffewest_moves _ ["railway", "start", "goal"] ["goal", "start", "railway"] rv3 (spFew C) := ⟨⟨ok_few Ffewest_moves N UW.toUse, PySem.W.mg_of X G afewest_moves, kfewest_moves, bfewest_moves⟩, L2.TT.Fun.kb Ffewest_moves (fun _ _ _ _ _ _ ws hl => match ws, hl with | [_, _, _], _ => rfl)⟩
  have Ulaw_links : Use P w K mg base CX0 1 _ _ _ _ _ := ⟨ok_linksW Flaw_links N, PySem.W.mg_of X G alaw_links, klaw_links, blaw_links⟩
  have Ulaw_body : Use P w K mg base CX0 1 _ _ _ _ _ := ⟨ok_bdy Flaw_body, PySem.W.mg_of X G alaw_body, klaw_body, blaw_body⟩
  have Ulaw_steps : Use P w K mg base CX0 2 _ _ _ _ _ := ⟨ok_ste Flaw_steps Ulaw_body, PySem.W.mg_of X G alaw_steps, klaw_steps, blaw_steps⟩
  have Ulaw_search : Use P w K mg base CX0 3 _ _ _ _ _ := ⟨ok_src Flaw_search Ulaw_steps, PySem.W.mg_of X G alaw_search, klaw_search, blaw_search⟩
  have Ulaw_walked : Use P w K mg base CX0 3 _ _ _ _ _ := ⟨ok_wlk Flaw_walked Ulaw_steps, PySem.W.mg_of X G alaw_walked, klaw_walked, blaw_walked⟩
  have Ulaw_pair : Use P w K mg base CX0 3 _ _ _ _ _ := ⟨ok_par Flaw_pair N Ulaw_next, PySem.W.mg_of X G alaw_pair, klaw_pair, blaw_pair⟩
  have Ulaw_least : Use P w K mg base CX0 3 _ _ _ _ _ := ⟨ok_lst Flaw_least N Ulaw_steps, PySem.W.mg_of X G alaw_least, klaw_least, blaw_least⟩
  have G1 : UseG P w K mg base 20 "_law_right" flaw_right _ ["net", "web", "first", "last"] (spRgt C K) := ⟨ok_rgt Flaw_right N Ulaw_least Ulaw_search UFW UW Ulaw_walked, PySem.W.mg_of X G alaw_right, klaw_right, blaw_right⟩
  exact ok_law Flaw N TX cr cmMof GO Ulaw_begin Ulaw_next Ulaw_tracks Ulaw_links Ulaw_pair Ulaw_search G1
end TR
namespace TR
open PySem PySem.W PyProof.Rows L2 L2.TT
set_option maxRecDepth 100000 in
noncomputable def Kk (P : Params) : PySem.W.Frag := List.cons (Prod.mk (nat_lit 2) (Obj.mk Value.none (none) (Data.dict (@List.toArray.{0} DictEntry []) (nat_lit 0)) (@List.toArray.{0} (@Option.{0} Value) []))) <|
  List.cons (Prod.mk (nat_lit 3) (Obj.mk (Value.type "dict") (none) (Data.dict (@List.toArray.{0} DictEntry ((DictEntry.mk (PyData.keyHash P (Str.ofString "__name__")) (Value.str (Str.ofString "__name__") (nat_lit 165)) (Value.str (Str.ofString "law_treetrain_k34_fewest_moves") (nat_lit 1176)))::((DictEntry.mk (PyData.keyHash P (Str.ofString "__doc__")) (Value.str (Str.ofString "__doc__") (nat_lit 166)) Value.none)::((DictEntry.mk (PyData.keyHash P (Str.ofString "__package__")) (Value.str (Str.ofString "__package__") (nat_lit 167)) Value.none)::((DictEntry.mk (PyData.keyHash P (Str.ofString "__loader__")) (Value.str (Str.ofString "__loader__") (nat_lit 168)) (Value.builtin "__main__.__loader__#opaque"))::((DictEntry.mk (PyData.keyHash P (Str.ofString "__spec__")) (Value.str (Str.ofString "__spec__") (nat_lit 169)) Value.none)::((DictEntry.mk (PyData.keyHash P (Str.ofString "__annotations__")) (Value.str (Str.ofString "__annotations__") (nat_lit 170)) (Value.ref (nat_lit 6)))::((DictEntry.mk (PyData.keyHash P (Str.ofString "__builtins__")) (Value.str (Str.ofString "__builtins__") (nat_lit 171)) (Value.ref (nat_lit 4)))::((DictEntry.mk (PyData.keyHash P (Str.ofString "__file__")) (Value.str (Str.ofString "__file__") (nat_lit 173)) (Value.str (Str.ofString "/claim/cut.py") (nat_lit 172)))::((DictEntry.mk (PyData.keyHash P (Str.ofString "__cached__")) (Value.str (Str.ofString "__cached__") (nat_lit 174)) Value.none)::((DictEntry.mk (PyData.keyHash P (Str.ofString "_wall")) (Value.str (Str.ofString "_wall") (nat_lit 193)) (Value.ref (nat_lit 21)))::((DictEntry.mk (PyData.keyHash P (Str.ofString "RailError")) (Value.str (Str.ofString "RailError") (nat_lit 213)) (Value.ref (nat_lit 31)))::((DictEntry.mk (PyData.keyHash P (Str.ofString "RunError")) (Value.str (Str.ofString "RunError") (nat_lit 231)) (Value.ref (nat_lit 44)))::((DictEntry.mk (PyData.keyHash P (Str.ofString "InvalidTracks")) (Value.str (Str.ofString "InvalidTracks") (nat_lit 256)) (Value.ref (nat_lit 65)))::((DictEntry.mk (PyData.keyHash P (Str.ofString "InvalidStation")) (Value.str (Str.ofString "InvalidStation") (nat_lit 281)) (Value.ref (nat_lit 84)))::((DictEntry.mk (PyData.keyHash P (Str.ofString "InvalidLength")) (Value.str (Str.ofString "InvalidLength") (nat_lit 306)) (Value.ref (nat_lit 103)))::((DictEntry.mk (PyData.keyHash P (Str.ofString "InvalidStanding")) (Value.str (Str.ofString "InvalidStanding") (nat_lit 331)) (Value.ref (nat_lit 122)))::((DictEntry.mk (PyData.keyHash P (Str.ofString "InvalidPair")) (Value.str (Str.ofString "InvalidPair") (nat_lit 356)) (Value.ref (nat_lit 141)))::((DictEntry.mk (PyData.keyHash P (Str.ofString "InvalidLine")) (Value.str (Str.ofString "InvalidLine") (nat_lit 381)) (Value.ref (nat_lit 160)))::((DictEntry.mk (PyData.keyHash P (Str.ofString "InvalidCount")) (Value.str (Str.ofString "InvalidCount") (nat_lit 406)) (Value.ref (nat_lit 179)))::((DictEntry.mk (PyData.keyHash P (Str.ofString "InvalidText")) (Value.str (Str.ofString "InvalidText") (nat_lit 433)) (Value.ref (nat_lit 198)))::((DictEntry.mk (PyData.keyHash P (Str.ofString "NoWay")) (Value.str (Str.ofString "NoWay") (nat_lit 458)) (Value.ref (nat_lit 217)))::((DictEntry.mk (PyData.keyHash P (Str.ofString "OtherLength")) (Value.str (Str.ofString "OtherLength") (nat_lit 483)) (Value.ref (nat_lit 236)))::((DictEntry.mk (PyData.keyHash P (Str.ofString "TooMany")) (Value.str (Str.ofString "TooMany") (nat_lit 508)) (Value.ref (nat_lit 255)))::((DictEntry.mk (PyData.keyHash P (Str.ofString "is_integer")) (Value.str (Str.ofString "is_integer") (nat_lit 517)) (Value.ref (nat_lit 264)))::((DictEntry.mk (PyData.keyHash P (Str.ofString "is_number_from")) (Value.str (Str.ofString "is_number_from") (nat_lit 526)) (Value.ref (nat_lit 271)))::((DictEntry.mk (PyData.keyHash P (Str.ofString "is_pair_of_stations")) (Value.str (Str.ofString "is_pair_of_stations") (nat_lit 536)) (Value.ref (nat_lit 278)))::((DictEntry.mk (PyData.keyHash P (Str.ofString "is_station")) (Value.str (Str.ofString "is_station") (nat_lit 544)) (Value.ref (nat_lit 285)))::((DictEntry.mk (PyData.keyHash P (Str.ofString "check_station")) (Value.str (Str.ofString "check_station") (nat_lit 552)) (Value.ref (nat_lit 292)))::((DictEntry.mk (PyData.keyHash P (Str.ofString "check_length")) (Value.str (Str.ofString "check_length") (nat_lit 559)) (Value.ref (nat_lit 299)))::((DictEntry.mk (PyData.keyHash P (Str.ofString "layers")) (Value.str (Str.ofString "layers") (nat_lit 567)) (Value.ref (nat_lit 304)))::((DictEntry.mk (PyData.keyHash P (Str.ofString "depth_behind")) (Value.str (Str.ofString "depth_behind") (nat_lit 578)) (Value.ref (nat_lit 311)))::((DictEntry.mk (PyData.keyHash P (Str.ofString "branch_depths")) (Value.str (Str.ofString "branch_depths") (nat_lit 584)) (Value.ref (nat_lit 316)))::((DictEntry.mk (PyData.keyHash P (Str.ofString "longest_path")) (Value.str (Str.ofString "longest_path") (nat_lit 592)) (Value.ref (nat_lit 323)))::((DictEntry.mk (PyData.keyHash P (Str.ofString "_layers_behind")) (Value.str (Str.ofString "_layers_behind") (nat_lit 601)) (Value.ref (nat_lit 330)))::((DictEntry.mk (PyData.keyHash P (Str.ofString "is_standing")) (Value.str (Str.ofString "is_standing") (nat_lit 611)) (Value.ref (nat_lit 337)))::((DictEntry.mk (PyData.keyHash P (Str.ofString "check_standing")) (Value.str (Str.ofString "check_standing") (nat_lit 619)) (Value.ref (nat_lit 344)))::((DictEntry.mk (PyData.keyHash P (Str.ofString "length_of")) (Value.str (Str.ofString "length_of") (nat_lit 627)) (Value.ref (nat_lit 351)))::((DictEntry.mk (PyData.keyHash P (Str.ofString "body_of")) (Value.str (Str.ofString "body_of") (nat_lit 637)) (Value.ref (nat_lit 358)))::((DictEntry.mk (PyData.keyHash P (Str.ofString "steps_from")) (Value.str (Str.ofString "steps_from") (nat_lit 643)) (Value.ref (nat_lit 363)))::((DictEntry.mk (PyData.keyHash P (Str.ofString "_body_after")) (Value.str (Str.ofString "_body_after") (nat_lit 652)) (Value.ref (nat_lit 370)))::((DictEntry.mk (PyData.keyHash P (Str.ofString "is_pocket")) (Value.str (Str.ofString "is_pocket") (nat_lit 666)) (Value.ref (nat_lit 377)))::((DictEntry.mk (PyData.keyHash P (Str.ofString "has_clamp")) (Value.str (Str.ofString "has_clamp") (nat_lit 678)) (Value.ref (nat_lit 384)))::((DictEntry.mk (PyData.keyHash P (Str.ofString "climb")) (Value.str (Str.ofString "climb") (nat_lit 688)) (Value.ref (nat_lit 391)))::((DictEntry.mk (PyData.keyHash P (Str.ofString "pocket")) (Value.str (Str.ofString "pocket") (nat_lit 697)) (Value.ref (nat_lit 398)))::((DictEntry.mk (PyData.keyHash P (Str.ofString "_slack_and_depths")) (Value.str (Str.ofString "_slack_and_depths") (nat_lit 709)) (Value.ref (nat_lit 405)))::((DictEntry.mk (PyData.keyHash P (Str.ofString "_next_part")) (Value.str (Str.ofString "_next_part") (nat_lit 721)) (Value.ref (nat_lit 412)))::((DictEntry.mk (PyData.keyHash P (Str.ofString "is_line")) (Value.str (Str.ofString "is_line") (nat_lit 729)) (Value.ref (nat_lit 417)))::((DictEntry.mk (PyData.keyHash P (Str.ofString "is_divide")) (Value.str (Str.ofString "is_divide") (nat_lit 741)) (Value.ref (nat_lit 424)))::((DictEntry.mk (PyData.keyHash P (Str.ofString "mark")) (Value.str (Str.ofString "mark") (nat_lit 747)) (Value.ref (nat_lit 429)))::((DictEntry.mk (PyData.keyHash P (Str.ofString "find_divide")) (Value.str (Str.ofString "find_divide") (nat_lit 756)) (Value.ref (nat_lit 436)))::((DictEntry.mk (PyData.keyHash P (Str.ofString "least_way")) (Value.str (Str.ofString "least_way") (nat_lit 764)) (Value.ref (nat_lit 441)))::((DictEntry.mk (PyData.keyHash P (Str.ofString "_counts_to")) (Value.str (Str.ofString "_counts_to") (nat_lit 779)) (Value.ref (nat_lit 448)))::((DictEntry.mk (PyData.keyHash P (Str.ofString "common_length")) (Value.str (Str.ofString "common_length") (nat_lit 791)) (Value.ref (nat_lit 455)))::((DictEntry.mk (PyData.keyHash P (Str.ofString "reason_against")) (Value.str (Str.ofString "reason_against") (nat_lit 805)) (Value.ref (nat_lit 462)))::((DictEntry.mk (PyData.keyHash P (Str.ofString "_are_opposed")) (Value.str (Str.ofString "_are_opposed") (nat_lit 815)) (Value.ref (nat_lit 469)))::((DictEntry.mk (PyData.keyHash P (Str.ofString "_rise")) (Value.str (Str.ofString "_rise") (nat_lit 826)) (Value.ref (nat_lit 476)))::((DictEntry.mk (PyData.keyHash P (Str.ofString "MOST_SEARCHED")) (Value.str (Str.ofString "MOST_SEARCHED") (nat_lit 830)) (Value.int (@OfNat.ofNat.{0} @Int (nat_lit 40) (@instOfNat (nat_lit 40))) (nat_lit 829)))::((DictEntry.mk (PyData.keyHash P (Str.ofString "fewest_moves")) (Value.str (Str.ofString "fewest_moves") (nat_lit 839)) (Value.ref (nat_lit 483)))::((DictEntry.mk (PyData.keyHash P (Str.ofString "shortest_way")) (Value.str (Str.ofString "shortest_way") (nat_lit 848)) (Value.ref (nat_lit 490)))::((DictEntry.mk (PyData.keyHash P (Str.ofString "_check_way")) (Value.str (Str.ofString "_check_way") (nat_lit 858)) (Value.ref (nat_lit 497)))::((DictEntry.mk (PyData.keyHash P (Str.ofString "MOST_DIGITS")) (Value.str (Str.ofString "MOST_DIGITS") (nat_lit 862)) (Value.int (@OfNat.ofNat.{0} @Int (nat_lit 4) (@instOfNat (nat_lit 4))) (nat_lit 861)))::((DictEntry.mk (PyData.keyHash P (Str.ofString "lines_of")) (Value.str (Str.ofString "lines_of") (nat_lit 868)) (Value.ref (nat_lit 502)))::((DictEntry.mk (PyData.keyHash P (Str.ofString "is_numeral")) (Value.str (Str.ofString "is_numeral") (nat_lit 875)) (Value.ref (nat_lit 509)))::((DictEntry.mk (PyData.keyHash P (Str.ofString "word_at")) (Value.str (Str.ofString "word_at") (nat_lit 884)) (Value.ref (nat_lit 516)))::((DictEntry.mk (PyData.keyHash P (Str.ofString "check_word")) (Value.str (Str.ofString "check_word") (nat_lit 894)) (Value.ref (nat_lit 523)))::((DictEntry.mk (PyData.keyHash P (Str.ofString "number_at")) (Value.str (Str.ofString "number_at") (nat_lit 906)) (Value.ref (nat_lit 530)))::((DictEntry.mk (PyData.keyHash P (Str.ofString "check_line_ends")) (Value.str (Str.ofString "check_line_ends") (nat_lit 915)) (Value.ref (nat_lit 537)))::((DictEntry.mk (PyData.keyHash P (Str.ofString "check_text_ends")) (Value.str (Str.ofString "check_text_ends") (nat_lit 923)) (Value.ref (nat_lit 544)))::((DictEntry.mk (PyData.keyHash P (Str.ofString "joined")) (Value.str (Str.ofString "joined") (nat_lit 931)) (Value.ref (nat_lit 549)))::((DictEntry.mk (PyData.keyHash P (Str.ofString "first_wrong_track")) (Value.str (Str.ofString "first_wrong_track") (nat_lit 944)) (Value.ref (nat_lit 556)))::((DictEntry.mk (PyData.keyHash P (Str.ofString "read_tracks")) (Value.str (Str.ofString "read_tracks") (nat_lit 959)) (Value.ref (nat_lit 563)))::((DictEntry.mk (PyData.keyHash P (Str.ofString "track_at")) (Value.str (Str.ofString "track_at") (nat_lit 971)) (Value.ref (nat_lit 570)))::((DictEntry.mk (PyData.keyHash P (Str.ofString "Railway")) (Value.str (Str.ofString "Railway") (nat_lit 1156)) (Value.ref (nat_lit 677)))::((DictEntry.mk (PyData.keyHash P (Str.ofString "_check_count")) (Value.str (Str.ofString "_check_count") (nat_lit 1163)) (Value.ref (nat_lit 688)))::((DictEntry.mk (PyData.keyHash P (Str.ofString "_neighbours_of")) (Value.str (Str.ofString "_neighbours_of") (nat_lit 1169)) (Value.ref (nat_lit 693)))::((DictEntry.mk (PyData.keyHash P (Str.ofString "_places_below_first")) (Value.str (Str.ofString "_places_below_first") (nat_lit 1175)) (Value.ref (nat_lit 698)))::((DictEntry.mk (PyData.keyHash P (Str.ofString "_law_begin")) (Value.str (Str.ofString "_law_begin") (nat_lit 1184)) (Value.ref (nat_lit 705)))::((DictEntry.mk (PyData.keyHash P (Str.ofString "_law_mixed")) (Value.str (Str.ofString "_law_mixed") (nat_lit 1193)) (Value.ref (nat_lit 712)))::((DictEntry.mk (PyData.keyHash P (Str.ofString "_law_next")) (Value.str (Str.ofString "_law_next") (nat_lit 1204)) (Value.ref (nat_lit 719)))::((DictEntry.mk (PyData.keyHash P (Str.ofString "_law_tracks")) (Value.str (Str.ofString "_law_tracks") (nat_lit 1219)) (Value.ref (nat_lit 726)))::((DictEntry.mk (PyData.keyHash P (Str.ofString "_law_links")) (Value.str (Str.ofString "_law_links") (nat_lit 1225)) (Value.ref (nat_lit 731)))::((DictEntry.mk (PyData.keyHash P (Str.ofString "_law_body")) (Value.str (Str.ofString "_law_body") (nat_lit 1239)) (Value.ref (nat_lit 738)))::((DictEntry.mk (PyData.keyHash P (Str.ofString "_law_steps")) (Value.str (Str.ofString "_law_steps") (nat_lit 1250)) (Value.ref (nat_lit 745)))::((DictEntry.mk (PyData.keyHash P (Str.ofString "_law_search")) (Value.str (Str.ofString "_law_search") (nat_lit 1264)) (Value.ref (nat_lit 752)))::((DictEntry.mk (PyData.keyHash P (Str.ofString "_law_walked")) (Value.str (Str.ofString "_law_walked") (nat_lit 1270)) (Value.ref (nat_lit 757)))::((DictEntry.mk (PyData.keyHash P (Str.ofString "_law_pair")) (Value.str (Str.ofString "_law_pair") (nat_lit 1280)) (Value.ref (nat_lit 764)))::((DictEntry.mk (PyData.keyHash P (Str.ofString "_law_least")) (Value.str (Str.ofString "_law_least") (nat_lit 1286)) (Value.ref (nat_lit 769)))::((DictEntry.mk (PyData.keyHash P (Str.ofString "_law_right")) (Value.str (Str.ofString "_law_right") (nat_lit 1298)) (Value.ref (nat_lit 776)))::((DictEntry.mk (PyData.keyHash P (Str.ofString "law")) (Value.str (Str.ofString "law") (nat_lit 1314)) (Value.ref (nat_lit 783)))::[])))))))))))))))))))))))))))))))))))))))))))))))))))))))))))))))))))))))))))))))))))))))))) (nat_lit 89)) (@List.toArray.{0} (@Option.{0} Value) []))) <|
  List.cons (Prod.mk (nat_lit 263) (Obj.mk (Value.type "code") (none) (Data.fields (@List.toArray.{0} Value ((Value.str (Str.ofString "is_integer") (nat_lit 511))::((Value.str (Str.ofString "is_integer") (nat_lit 512))::((Value.str (Str.ofString "/claim/cut.py") (nat_lit 513))::((Value.int (@OfNat.ofNat.{0} @Int (nat_lit 55) (@instOfNat (nat_lit 55))) (nat_lit 0))::((Value.int (@OfNat.ofNat.{0} @Int (nat_lit 1) (@instOfNat (nat_lit 1))) (nat_lit 0))::((Value.int (@OfNat.ofNat.{0} @Int (nat_lit 0) (@instOfNat (nat_lit 0))) (nat_lit 0))::((Value.int (@OfNat.ofNat.{0} @Int (nat_lit 0) (@instOfNat (nat_lit 0))) (nat_lit 0))::((Value.int (@OfNat.ofNat.{0} @Int (nat_lit 3) (@instOfNat (nat_lit 3))) (nat_lit 0))::((Value.ref (nat_lit 258))::((Value.bool @Bool.true)::((Value.int (@OfNat.ofNat.{0} @Int (nat_lit 181) (@instOfNat (nat_lit 181))) (nat_lit 0))::((Value.ref (nat_lit 259))::(Value.none::((Value.ref (nat_lit 260))::((Value.ref (nat_lit 261))::((Value.ref (nat_lit 262))::((Value.int (@OfNat.ofNat.{0} @Int (nat_lit 515) (@instOfNat (nat_lit 515))) (nat_lit 0))::((Value.int (@OfNat.ofNat.{0} @Int (nat_lit 55) (@instOfNat (nat_lit 55))) (nat_lit 0))::((Value.str (Str.ofString "/claim/cut.py") (nat_lit 516))::[]))))))))))))))))))))) (@List.toArray.{0} (@Option.{0} Value) []))) <|
  List.cons (Prod.mk (nat_lit 264) (Obj.mk (Value.type "function") (none) (Data.func (PySem.W.fnOf (Str.ofString "is_integer") (Str.ofString "is_integer") (defArgs TR.s_is_integer) (defBody TR.s_is_integer) (defScope TR.s_is_integer) Value.none Value.none Value.none (Value.str (Str.ofString "treetrain.checks") (nat_lit 509)) (none) (Value.ref (nat_lit 263)) Value.none)) (@List.toArray.{0} (@Option.{0} Value) []))) <|
  List.cons (Prod.mk (nat_lit 270) (Obj.mk (Value.type "code") (none) (Data.fields (@List.toArray.{0} Value ((Value.str (Str.ofString "is_number_from") (nat_lit 518))::((Value.str (Str.ofString "is_number_from") (nat_lit 519))::((Value.str (Str.ofString "/claim/cut.py") (nat_lit 520))::((Value.int (@OfNat.ofNat.{0} @Int (nat_lit 57) (@instOfNat (nat_lit 57))) (nat_lit 0))::((Value.int (@OfNat.ofNat.{0} @Int (nat_lit 3) (@instOfNat (nat_lit 3))) (nat_lit 0))::((Value.int (@OfNat.ofNat.{0} @Int (nat_lit 0) (@instOfNat (nat_lit 0))) (nat_lit 0))::((Value.int (@OfNat.ofNat.{0} @Int (nat_lit 0) (@instOfNat (nat_lit 0))) (nat_lit 0))::((Value.int (@OfNat.ofNat.{0} @Int (nat_lit 3) (@instOfNat (nat_lit 3))) (nat_lit 0))::((Value.ref (nat_lit 265))::((Value.bool @Bool.true)::((Value.int (@OfNat.ofNat.{0} @Int (nat_lit 181) (@instOfNat (nat_lit 181))) (nat_lit 0))::((Value.ref (nat_lit 266))::(Value.none::((Value.ref (nat_lit 267))::((Value.ref (nat_lit 268))::((Value.ref (nat_lit 269))::((Value.int (@OfNat.ofNat.{0} @Int (nat_lit 524) (@instOfNat (nat_lit 524))) (nat_lit 0))::((Value.int (@OfNat.ofNat.{0} @Int (nat_lit 57) (@instOfNat (nat_lit 57))) (nat_lit 0))::((Value.str (Str.ofString "/claim/cut.py") (nat_lit 525))::[]))))))))))))))))))))) (@List.toArray.{0} (@Option.{0} Value) []))) <|
  List.cons (Prod.mk (nat_lit 271) (Obj.mk (Value.type "function") (none) (Data.func (PySem.W.fnOf (Str.ofString "is_number_from") (Str.ofString "is_number_from") (defArgs TR.s_is_number_from) (defBody TR.s_is_number_from) (defScope TR.s_is_number_from) Value.none Value.none Value.none (Value.str (Str.ofString "treetrain.checks") (nat_lit 509)) (none) (Value.ref (nat_lit 270)) Value.none)) (@List.toArray.{0} (@Option.{0} Value) []))) <|
  List.cons (Prod.mk (nat_lit 277) (Obj.mk (Value.type "code") (none) (Data.fields (@List.toArray.{0} Value ((Value.str (Str.ofString "is_pair_of_stations") (nat_lit 527))::((Value.str (Str.ofString "is_pair_of_stations") (nat_lit 528))::((Value.str (Str.ofString "/claim/cut.py") (nat_lit 529))::((Value.int (@OfNat.ofNat.{0} @Int (nat_lit 59) (@instOfNat (nat_lit 59))) (nat_lit 0))::((Value.int (@OfNat.ofNat.{0} @Int (nat_lit 2) (@instOfNat (nat_lit 2))) (nat_lit 0))::((Value.int (@OfNat.ofNat.{0} @Int (nat_lit 0) (@instOfNat (nat_lit 0))) (nat_lit 0))::((Value.int (@OfNat.ofNat.{0} @Int (nat_lit 0) (@instOfNat (nat_lit 0))) (nat_lit 0))::((Value.int (@OfNat.ofNat.{0} @Int (nat_lit 3) (@instOfNat (nat_lit 3))) (nat_lit 0))::((Value.ref (nat_lit 272))::((Value.bool @Bool.true)::((Value.int (@OfNat.ofNat.{0} @Int (nat_lit 181) (@instOfNat (nat_lit 181))) (nat_lit 0))::((Value.ref (nat_lit 273))::(Value.none::((Value.ref (nat_lit 274))::((Value.ref (nat_lit 275))::((Value.ref (nat_lit 276))::((Value.int (@OfNat.ofNat.{0} @Int (nat_lit 534) (@instOfNat (nat_lit 534))) (nat_lit 0))::((Value.int (@OfNat.ofNat.{0} @Int (nat_lit 59) (@instOfNat (nat_lit 59))) (nat_lit 0))::((Value.str (Str.ofString "/claim/cut.py") (nat_lit 535))::[]))))))))))))))))))))) (@List.toArray.{0} (@Option.{0} Value) []))) <|
  List.cons (Prod.mk (nat_lit 278) (Obj.mk (Value.type "function") (none) (Data.func (PySem.W.fnOf (Str.ofString "is_pair_of_stations") (Str.ofString "is_pair_of_stations") (defArgs TR.s_is_pair_of_stations) (defBody TR.s_is_pair_of_stations) (defScope TR.s_is_pair_of_stations) Value.none Value.none Value.none (Value.str (Str.ofString "treetrain.checks") (nat_lit 509)) (none) (Value.ref (nat_lit 277)) Value.none)) (@List.toArray.{0} (@Option.{0} Value) []))) <|
  List.cons (Prod.mk (nat_lit 284) (Obj.mk (Value.type "code") (none) (Data.fields (@List.toArray.{0} Value ((Value.str (Str.ofString "is_station") (nat_lit 537))::((Value.str (Str.ofString "is_station") (nat_lit 538))::((Value.str (Str.ofString "/claim/cut.py") (nat_lit 539))::((Value.int (@OfNat.ofNat.{0} @Int (nat_lit 66) (@instOfNat (nat_lit 66))) (nat_lit 0))::((Value.int (@OfNat.ofNat.{0} @Int (nat_lit 2) (@instOfNat (nat_lit 2))) (nat_lit 0))::((Value.int (@OfNat.ofNat.{0} @Int (nat_lit 0) (@instOfNat (nat_lit 0))) (nat_lit 0))::((Value.int (@OfNat.ofNat.{0} @Int (nat_lit 0) (@instOfNat (nat_lit 0))) (nat_lit 0))::((Value.int (@OfNat.ofNat.{0} @Int (nat_lit 3) (@instOfNat (nat_lit 3))) (nat_lit 0))::((Value.ref (nat_lit 279))::((Value.bool @Bool.true)::((Value.int (@OfNat.ofNat.{0} @Int (nat_lit 181) (@instOfNat (nat_lit 181))) (nat_lit 0))::((Value.ref (nat_lit 280))::(Value.none::((Value.ref (nat_lit 281))::((Value.ref (nat_lit 282))::((Value.ref (nat_lit 283))::((Value.int (@OfNat.ofNat.{0} @Int (nat_lit 542) (@instOfNat (nat_lit 542))) (nat_lit 0))::((Value.int (@OfNat.ofNat.{0} @Int (nat_lit 66) (@instOfNat (nat_lit 66))) (nat_lit 0))::((Value.str (Str.ofString "/claim/cut.py") (nat_lit 543))::[]))))))))))))))))))))) (@List.toArray.{0} (@Option.{0} Value) []))) <|
  List.cons (Prod.mk (nat_lit 285) (Obj.mk (Value.type "function") (none) (Data.func (PySem.W.fnOf (Str.ofString "is_station") (Str.ofString "is_station") (defArgs TR.s_is_station) (defBody TR.s_is_station) (defScope TR.s_is_station) Value.none Value.none Value.none (Value.str (Str.ofString "treetrain.checks") (nat_lit 509)) (none) (Value.ref (nat_lit 284)) Value.none)) (@List.toArray.{0} (@Option.{0} Value) []))) <|
  List.cons (Prod.mk (nat_lit 291) (Obj.mk (Value.type "code") (none) (Data.fields (@List.toArray.{0} Value ((Value.str (Str.ofString "check_station") (nat_lit 545))::((Value.str (Str.ofString "check_station") (nat_lit 546))::((Value.str (Str.ofString "/claim/cut.py") (nat_lit 547))::((Value.int (@OfNat.ofNat.{0} @Int (nat_lit 68) (@instOfNat (nat_lit 68))) (nat_lit 0))::((Value.int (@OfNat.ofNat.{0} @Int (nat_lit 2) (@instOfNat (nat_lit 2))) (nat_lit 0))::((Value.int (@OfNat.ofNat.{0} @Int (nat_lit 0) (@instOfNat (nat_lit 0))) (nat_lit 0))::((Value.int (@OfNat.ofNat.{0} @Int (nat_lit 0) (@instOfNat (nat_lit 0))) (nat_lit 0))::((Value.int (@OfNat.ofNat.{0} @Int (nat_lit 3) (@instOfNat (nat_lit 3))) (nat_lit 0))::((Value.ref (nat_lit 286))::((Value.bool @Bool.true)::((Value.int (@OfNat.ofNat.{0} @Int (nat_lit 181) (@instOfNat (nat_lit 181))) (nat_lit 0))::((Value.ref (nat_lit 287))::(Value.none::((Value.ref (nat_lit 288))::((Value.ref (nat_lit 289))::((Value.ref (nat_lit 290))::((Value.int (@OfNat.ofNat.{0} @Int (nat_lit 550) (@instOfNat (nat_lit 550))) (nat_lit 0))::((Value.int (@OfNat.ofNat.{0} @Int (nat_lit 68) (@instOfNat (nat_lit 68))) (nat_lit 0))::((Value.str (Str.ofString "/claim/cut.py") (nat_lit 551))::[]))))))))))))))))))))) (@List.toArray.{0} (@Option.{0} Value) []))) <|
  List.cons (Prod.mk (nat_lit 292) (Obj.mk (Value.type "function") (none) (Data.func (PySem.W.fnOf (Str.ofString "check_station") (Str.ofString "check_station") (defArgs TR.s_check_station) (defBody TR.s_check_station) (defScope TR.s_check_station) Value.none Value.none Value.none (Value.str (Str.ofString "treetrain.checks") (nat_lit 509)) (none) (Value.ref (nat_lit 291)) Value.none)) (@List.toArray.{0} (@Option.{0} Value) []))) <|
  List.cons (Prod.mk (nat_lit 298) (Obj.mk (Value.type "code") (none) (Data.fields (@List.toArray.{0} Value ((Value.str (Str.ofString "check_length") (nat_lit 553))::((Value.str (Str.ofString "check_length") (nat_lit 554))::((Value.str (Str.ofString "/claim/cut.py") (nat_lit 555))::((Value.int (@OfNat.ofNat.{0} @Int (nat_lit 71) (@instOfNat (nat_lit 71))) (nat_lit 0))::((Value.int (@OfNat.ofNat.{0} @Int (nat_lit 1) (@instOfNat (nat_lit 1))) (nat_lit 0))::((Value.int (@OfNat.ofNat.{0} @Int (nat_lit 0) (@instOfNat (nat_lit 0))) (nat_lit 0))::((Value.int (@OfNat.ofNat.{0} @Int (nat_lit 0) (@instOfNat (nat_lit 0))) (nat_lit 0))::((Value.int (@OfNat.ofNat.{0} @Int (nat_lit 3) (@instOfNat (nat_lit 3))) (nat_lit 0))::((Value.ref (nat_lit 293))::((Value.bool @Bool.true)::((Value.int (@OfNat.ofNat.{0} @Int (nat_lit 181) (@instOfNat (nat_lit 181))) (nat_lit 0))::((Value.ref (nat_lit 294))::(Value.none::((Value.ref (nat_lit 295))::((Value.ref (nat_lit 296))::((Value.ref (nat_lit 297))::((Value.int (@OfNat.ofNat.{0} @Int (nat_lit 557) (@instOfNat (nat_lit 557))) (nat_lit 0))::((Value.int (@OfNat.ofNat.{0} @Int (nat_lit 71) (@instOfNat (nat_lit 71))) (nat_lit 0))::((Value.str (Str.ofString "/claim/cut.py") (nat_lit 558))::[]))))))))))))))))))))) (@List.toArray.{0} (@Option.{0} Value) []))) <|
  List.cons (Prod.mk (nat_lit 299) (Obj.mk (Value.type "function") (none) (Data.func (PySem.W.fnOf (Str.ofString "check_length") (Str.ofString "check_length") (defArgs TR.s_check_length) (defBody TR.s_check_length) (defScope TR.s_check_length) Value.none Value.none Value.none (Value.str (Str.ofString "treetrain.checks") (nat_lit 509)) (none) (Value.ref (nat_lit 298)) Value.none)) (@List.toArray.{0} (@Option.{0} Value) []))) <|
  List.cons (Prod.mk (nat_lit 303) (Obj.mk (Value.type "code") (none) (Data.fields (@List.toArray.{0} Value ((Value.str (Str.ofString "layers") (nat_lit 562))::((Value.str (Str.ofString "layers") (nat_lit 563))::((Value.str (Str.ofString "/claim/cut.py") (nat_lit 564))::((Value.int (@OfNat.ofNat.{0} @Int (nat_lit 75) (@instOfNat (nat_lit 75))) (nat_lit 0))::((Value.int (@OfNat.ofNat.{0} @Int (nat_lit 3) (@instOfNat (nat_lit 3))) (nat_lit 0))::((Value.int (@OfNat.ofNat.{0} @Int (nat_lit 0) (@instOfNat (nat_lit 0))) (nat_lit 0))::((Value.int (@OfNat.ofNat.{0} @Int (nat_lit 0) (@instOfNat (nat_lit 0))) (nat_lit 0))::((Value.int (@OfNat.ofNat.{0} @Int (nat_lit 3) (@instOfNat (nat_lit 3))) (nat_lit 0))::((Value.ref (nat_lit 300))::((Value.bool @Bool.true)::((Value.int (@OfNat.ofNat.{0} @Int (nat_lit 181) (@instOfNat (nat_lit 181))) (nat_lit 0))::((Value.ref (nat_lit 301))::(Value.none::(Value.none::(Value.none::((Value.ref (nat_lit 302))::((Value.int (@OfNat.ofNat.{0} @Int (nat_lit 565) (@instOfNat (nat_lit 565))) (nat_lit 0))::((Value.int (@OfNat.ofNat.{0} @Int (nat_lit 75) (@instOfNat (nat_lit 75))) (nat_lit 0))::((Value.str (Str.ofString "/claim/cut.py") (nat_lit 566))::[]))))))))))))))))))))) (@List.toArray.{0} (@Option.{0} Value) []))) <|
  List.cons (Prod.mk (nat_lit 304) (Obj.mk (Value.type "function") (none) (Data.func (PySem.W.fnOf (Str.ofString "layers") (Str.ofString "layers") (defArgs TR.s_layers) (defBody TR.s_layers) (defScope TR.s_layers) Value.none Value.none Value.none (Value.str (Str.ofString "treetrain.layers") (nat_lit 560)) (none) (Value.ref (nat_lit 303)) Value.none)) (@List.toArray.{0} (@Option.{0} Value) []))) <|
  List.cons (Prod.mk (nat_lit 310) (Obj.mk (Value.type "code") (none) (Data.fields (@List.toArray.{0} Value ((Value.str (Str.ofString "depth_behind") (nat_lit 570))::((Value.str (Str.ofString "depth_behind") (nat_lit 571))::((Value.str (Str.ofString "/claim/cut.py") (nat_lit 572))::((Value.int (@OfNat.ofNat.{0} @Int (nat_lit 83) (@instOfNat (nat_lit 83))) (nat_lit 0))::((Value.int (@OfNat.ofNat.{0} @Int (nat_lit 3) (@instOfNat (nat_lit 3))) (nat_lit 0))::((Value.int (@OfNat.ofNat.{0} @Int (nat_lit 0) (@instOfNat (nat_lit 0))) (nat_lit 0))::((Value.int (@OfNat.ofNat.{0} @Int (nat_lit 0) (@instOfNat (nat_lit 0))) (nat_lit 0))::((Value.int (@OfNat.ofNat.{0} @Int (nat_lit 3) (@instOfNat (nat_lit 3))) (nat_lit 0))::((Value.ref (nat_lit 305))::((Value.bool @Bool.true)::((Value.int (@OfNat.ofNat.{0} @Int (nat_lit 181) (@instOfNat (nat_lit 181))) (nat_lit 0))::((Value.ref (nat_lit 306))::(Value.none::((Value.ref (nat_lit 307))::((Value.ref (nat_lit 308))::((Value.ref (nat_lit 309))::((Value.int (@OfNat.ofNat.{0} @Int (nat_lit 576) (@instOfNat (nat_lit 576))) (nat_lit 0))::((Value.int (@OfNat.ofNat.{0} @Int (nat_lit 83) (@instOfNat (nat_lit 83))) (nat_lit 0))::((Value.str (Str.ofString "/claim/cut.py") (nat_lit 577))::[]))))))))))))))))))))) (@List.toArray.{0} (@Option.{0} Value) []))) <|
  List.cons (Prod.mk (nat_lit 311) (Obj.mk (Value.type "function") (none) (Data.func (PySem.W.fnOf (Str.ofString "depth_behind") (Str.ofString "depth_behind") (defArgs TR.s_depth_behind) (defBody TR.s_depth_behind) (defScope TR.s_depth_behind) Value.none Value.none Value.none (Value.str (Str.ofString "treetrain.depths") (nat_lit 568)) (none) (Value.ref (nat_lit 310)) Value.none)) (@List.toArray.{0} (@Option.{0} Value) []))) <|
  List.cons (Prod.mk (nat_lit 315) (Obj.mk (Value.type "code") (none) (Data.fields (@List.toArray.{0} Value ((Value.str (Str.ofString "branch_depths") (nat_lit 579))::((Value.str (Str.ofString "branch_depths") (nat_lit 580))::((Value.str (Str.ofString "/claim/cut.py") (nat_lit 581))::((Value.int (@OfNat.ofNat.{0} @Int (nat_lit 85) (@instOfNat (nat_lit 85))) (nat_lit 0))::((Value.int (@OfNat.ofNat.{0} @Int (nat_lit 2) (@instOfNat (nat_lit 2))) (nat_lit 0))::((Value.int (@OfNat.ofNat.{0} @Int (nat_lit 0) (@instOfNat (nat_lit 0))) (nat_lit 0))::((Value.int (@OfNat.ofNat.{0} @Int (nat_lit 0) (@instOfNat (nat_lit 0))) (nat_lit 0))::((Value.int (@OfNat.ofNat.{0} @Int (nat_lit 3) (@instOfNat (nat_lit 3))) (nat_lit 0))::((Value.ref (nat_lit 312))::((Value.bool @Bool.true)::((Value.int (@OfNat.ofNat.{0} @Int (nat_lit 181) (@instOfNat (nat_lit 181))) (nat_lit 0))::((Value.ref (nat_lit 313))::(Value.none::(Value.none::(Value.none::((Value.ref (nat_lit 314))::((Value.int (@OfNat.ofNat.{0} @Int (nat_lit 582) (@instOfNat (nat_lit 582))) (nat_lit 0))::((Value.int (@OfNat.ofNat.{0} @Int (nat_lit 85) (@instOfNat (nat_lit 85))) (nat_lit 0))::((Value.str (Str.ofString "/claim/cut.py") (nat_lit 583))::[]))))))))))))))))))))) (@List.toArray.{0} (@Option.{0} Value) []))) <|
  List.cons (Prod.mk (nat_lit 316) (Obj.mk (Value.type "function") (none) (Data.func (PySem.W.fnOf (Str.ofString "branch_depths") (Str.ofString "branch_depths") (defArgs TR.s_branch_depths) (defBody TR.s_branch_depths) (defScope TR.s_branch_depths) Value.none Value.none Value.none (Value.str (Str.ofString "treetrain.depths") (nat_lit 568)) (none) (Value.ref (nat_lit 315)) Value.none)) (@List.toArray.{0} (@Option.{0} Value) []))) <|
  List.cons (Prod.mk (nat_lit 322) (Obj.mk (Value.type "code") (none) (Data.fields (@List.toArray.{0} Value ((Value.str (Str.ofString "longest_path") (nat_lit 585))::((Value.str (Str.ofString "longest_path") (nat_lit 586))::((Value.str (Str.ofString "/claim/cut.py") (nat_lit 587))::((Value.int (@OfNat.ofNat.{0} @Int (nat_lit 88) (@instOfNat (nat_lit 88))) (nat_lit 0))::((Value.int (@OfNat.ofNat.{0} @Int (nat_lit 1) (@instOfNat (nat_lit 1))) (nat_lit 0))::((Value.int (@OfNat.ofNat.{0} @Int (nat_lit 0) (@instOfNat (nat_lit 0))) (nat_lit 0))::((Value.int (@OfNat.ofNat.{0} @Int (nat_lit 0) (@instOfNat (nat_lit 0))) (nat_lit 0))::((Value.int (@OfNat.ofNat.{0} @Int (nat_lit 3) (@instOfNat (nat_lit 3))) (nat_lit 0))::((Value.ref (nat_lit 317))::((Value.bool @Bool.true)::((Value.int (@OfNat.ofNat.{0} @Int (nat_lit 181) (@instOfNat (nat_lit 181))) (nat_lit 0))::((Value.ref (nat_lit 318))::(Value.none::((Value.ref (nat_lit 319))::((Value.ref (nat_lit 320))::((Value.ref (nat_lit 321))::((Value.int (@OfNat.ofNat.{0} @Int (nat_lit 590) (@instOfNat (nat_lit 590))) (nat_lit 0))::((Value.int (@OfNat.ofNat.{0} @Int (nat_lit 88) (@instOfNat (nat_lit 88))) (nat_lit 0))::((Value.str (Str.ofString "/claim/cut.py") (nat_lit 591))::[]))))))))))))))))))))) (@List.toArray.{0} (@Option.{0} Value) []))) <|
  List.cons (Prod.mk (nat_lit 323) (Obj.mk (Value.type "function") (none) (Data.func (PySem.W.fnOf (Str.ofString "longest_path") (Str.ofString "longest_path") (defArgs TR.s_longest_path) (defBody TR.s_longest_path) (defScope TR.s_longest_path) Value.none Value.none Value.none (Value.str (Str.ofString "treetrain.depths") (nat_lit 568)) (none) (Value.ref (nat_lit 322)) Value.none)) (@List.toArray.{0} (@Option.{0} Value) []))) <|
  List.cons (Prod.mk (nat_lit 329) (Obj.mk (Value.type "code") (none) (Data.fields (@List.toArray.{0} Value ((Value.str (Str.ofString "_layers_behind") (nat_lit 593))::((Value.str (Str.ofString "_layers_behind") (nat_lit 594))::((Value.str (Str.ofString "/claim/cut.py") (nat_lit 595))::((Value.int (@OfNat.ofNat.{0} @Int (nat_lit 91) (@instOfNat (nat_lit 91))) (nat_lit 0))::((Value.int (@OfNat.ofNat.{0} @Int (nat_lit 3) (@instOfNat (nat_lit 3))) (nat_lit 0))::((Value.int (@OfNat.ofNat.{0} @Int (nat_lit 0) (@instOfNat (nat_lit 0))) (nat_lit 0))::((Value.int (@OfNat.ofNat.{0} @Int (nat_lit 0) (@instOfNat (nat_lit 0))) (nat_lit 0))::((Value.int (@OfNat.ofNat.{0} @Int (nat_lit 3) (@instOfNat (nat_lit 3))) (nat_lit 0))::((Value.ref (nat_lit 324))::((Value.bool @Bool.true)::((Value.int (@OfNat.ofNat.{0} @Int (nat_lit 181) (@instOfNat (nat_lit 181))) (nat_lit 0))::((Value.ref (nat_lit 325))::(Value.none::((Value.ref (nat_lit 326))::((Value.ref (nat_lit 327))::((Value.ref (nat_lit 328))::((Value.int (@OfNat.ofNat.{0} @Int (nat_lit 599) (@instOfNat (nat_lit 599))) (nat_lit 0))::((Value.int (@OfNat.ofNat.{0} @Int (nat_lit 91) (@instOfNat (nat_lit 91))) (nat_lit 0))::((Value.str (Str.ofString "/claim/cut.py") (nat_lit 600))::[]))))))))))))))))))))) (@List.toArray.{0} (@Option.{0} Value) []))) <|
  List.cons (Prod.mk (nat_lit 330) (Obj.mk (Value.type "function") (none) (Data.func (PySem.W.fnOf (Str.ofString "_layers_behind") (Str.ofString "_layers_behind") (defArgs TR.s_layers_behind) (defBody TR.s_layers_behind) (defScope TR.s_layers_behind) Value.none Value.none Value.none (Value.str (Str.ofString "treetrain.depths") (nat_lit 568)) (none) (Value.ref (nat_lit 329)) Value.none)) (@List.toArray.{0} (@Option.{0} Value) []))) <|
  List.cons (Prod.mk (nat_lit 336) (Obj.mk (Value.type "code") (none) (Data.fields (@List.toArray.{0} Value ((Value.str (Str.ofString "is_standing") (nat_lit 604))::((Value.str (Str.ofString "is_standing") (nat_lit 605))::((Value.str (Str.ofString "/claim/cut.py") (nat_lit 606))::((Value.int (@OfNat.ofNat.{0} @Int (nat_lit 98) (@instOfNat (nat_lit 98))) (nat_lit 0))::((Value.int (@OfNat.ofNat.{0} @Int (nat_lit 2) (@instOfNat (nat_lit 2))) (nat_lit 0))::((Value.int (@OfNat.ofNat.{0} @Int (nat_lit 0) (@instOfNat (nat_lit 0))) (nat_lit 0))::((Value.int (@OfNat.ofNat.{0} @Int (nat_lit 0) (@instOfNat (nat_lit 0))) (nat_lit 0))::((Value.int (@OfNat.ofNat.{0} @Int (nat_lit 3) (@instOfNat (nat_lit 3))) (nat_lit 0))::((Value.ref (nat_lit 331))::((Value.bool @Bool.true)::((Value.int (@OfNat.ofNat.{0} @Int (nat_lit 181) (@instOfNat (nat_lit 181))) (nat_lit 0))::((Value.ref (nat_lit 332))::(Value.none::((Value.ref (nat_lit 333))::((Value.ref (nat_lit 334))::((Value.ref (nat_lit 335))::((Value.int (@OfNat.ofNat.{0} @Int (nat_lit 609) (@instOfNat (nat_lit 609))) (nat_lit 0))::((Value.int (@OfNat.ofNat.{0} @Int (nat_lit 98) (@instOfNat (nat_lit 98))) (nat_lit 0))::((Value.str (Str.ofString "/claim/cut.py") (nat_lit 610))::[]))))))))))))))))))))) (@List.toArray.{0} (@Option.{0} Value) []))) <|
  List.cons (Prod.mk (nat_lit 337) (Obj.mk (Value.type "function") (none) (Data.func (PySem.W.fnOf (Str.ofString "is_standing") (Str.ofString "is_standing") (defArgs TR.s_is_standing) (defBody TR.s_is_standing) (defScope TR.s_is_standing) Value.none Value.none Value.none (Value.str (Str.ofString "treetrain.standings") (nat_lit 602)) (none) (Value.ref (nat_lit 336)) Value.none)) (@List.toArray.{0} (@Option.{0} Value) []))) <|
  List.cons (Prod.mk (nat_lit 343) (Obj.mk (Value.type "code") (none) (Data.fields (@List.toArray.{0} Value ((Value.str (Str.ofString "check_standing") (nat_lit 612))::((Value.str (Str.ofString "check_standing") (nat_lit 613))::((Value.str (Str.ofString "/claim/cut.py") (nat_lit 614))::((Value.int (@OfNat.ofNat.{0} @Int (nat_lit 100) (@instOfNat (nat_lit 100))) (nat_lit 0))::((Value.int (@OfNat.ofNat.{0} @Int (nat_lit 2) (@instOfNat (nat_lit 2))) (nat_lit 0))::((Value.int (@OfNat.ofNat.{0} @Int (nat_lit 0) (@instOfNat (nat_lit 0))) (nat_lit 0))::((Value.int (@OfNat.ofNat.{0} @Int (nat_lit 0) (@instOfNat (nat_lit 0))) (nat_lit 0))::((Value.int (@OfNat.ofNat.{0} @Int (nat_lit 3) (@instOfNat (nat_lit 3))) (nat_lit 0))::((Value.ref (nat_lit 338))::((Value.bool @Bool.true)::((Value.int (@OfNat.ofNat.{0} @Int (nat_lit 181) (@instOfNat (nat_lit 181))) (nat_lit 0))::((Value.ref (nat_lit 339))::(Value.none::((Value.ref (nat_lit 340))::((Value.ref (nat_lit 341))::((Value.ref (nat_lit 342))::((Value.int (@OfNat.ofNat.{0} @Int (nat_lit 617) (@instOfNat (nat_lit 617))) (nat_lit 0))::((Value.int (@OfNat.ofNat.{0} @Int (nat_lit 100) (@instOfNat (nat_lit 100))) (nat_lit 0))::((Value.str (Str.ofString "/claim/cut.py") (nat_lit 618))::[]))))))))))))))))))))) (@List.toArray.{0} (@Option.{0} Value) []))) <|
  List.cons (Prod.mk (nat_lit 344) (Obj.mk (Value.type "function") (none) (Data.func (PySem.W.fnOf (Str.ofString "check_standing") (Str.ofString "check_standing") (defArgs TR.s_check_standing) (defBody TR.s_check_standing) (defScope TR.s_check_standing) Value.none Value.none Value.none (Value.str (Str.ofString "treetrain.standings") (nat_lit 602)) (none) (Value.ref (nat_lit 343)) Value.none)) (@List.toArray.{0} (@Option.{0} Value) []))) <|
  List.cons (Prod.mk (nat_lit 350) (Obj.mk (Value.type "code") (none) (Data.fields (@List.toArray.{0} Value ((Value.str (Str.ofString "length_of") (nat_lit 620))::((Value.str (Str.ofString "length_of") (nat_lit 621))::((Value.str (Str.ofString "/claim/cut.py") (nat_lit 622))::((Value.int (@OfNat.ofNat.{0} @Int (nat_lit 103) (@instOfNat (nat_lit 103))) (nat_lit 0))::((Value.int (@OfNat.ofNat.{0} @Int (nat_lit 2) (@instOfNat (nat_lit 2))) (nat_lit 0))::((Value.int (@OfNat.ofNat.{0} @Int (nat_lit 0) (@instOfNat (nat_lit 0))) (nat_lit 0))::((Value.int (@OfNat.ofNat.{0} @Int (nat_lit 0) (@instOfNat (nat_lit 0))) (nat_lit 0))::((Value.int (@OfNat.ofNat.{0} @Int (nat_lit 3) (@instOfNat (nat_lit 3))) (nat_lit 0))::((Value.ref (nat_lit 345))::((Value.bool @Bool.true)::((Value.int (@OfNat.ofNat.{0} @Int (nat_lit 181) (@instOfNat (nat_lit 181))) (nat_lit 0))::((Value.ref (nat_lit 346))::(Value.none::((Value.ref (nat_lit 347))::((Value.ref (nat_lit 348))::((Value.ref (nat_lit 349))::((Value.int (@OfNat.ofNat.{0} @Int (nat_lit 625) (@instOfNat (nat_lit 625))) (nat_lit 0))::((Value.int (@OfNat.ofNat.{0} @Int (nat_lit 103) (@instOfNat (nat_lit 103))) (nat_lit 0))::((Value.str (Str.ofString "/claim/cut.py") (nat_lit 626))::[]))))))))))))))))))))) (@List.toArray.{0} (@Option.{0} Value) []))) <|
  List.cons (Prod.mk (nat_lit 351) (Obj.mk (Value.type "function") (none) (Data.func (PySem.W.fnOf (Str.ofString "length_of") (Str.ofString "length_of") (defArgs TR.s_length_of) (defBody TR.s_length_of) (defScope TR.s_length_of) Value.none Value.none Value.none (Value.str (Str.ofString "treetrain.standings") (nat_lit 602)) (none) (Value.ref (nat_lit 350)) Value.none)) (@List.toArray.{0} (@Option.{0} Value) []))) <|
  List.cons (Prod.mk (nat_lit 357) (Obj.mk (Value.type "code") (none) (Data.fields (@List.toArray.{0} Value ((Value.str (Str.ofString "body_of") (nat_lit 628))::((Value.str (Str.ofString "body_of") (nat_lit 629))::((Value.str (Str.ofString "/claim/cut.py") (nat_lit 630))::((Value.int (@OfNat.ofNat.{0} @Int (nat_lit 105) (@instOfNat (nat_lit 105))) (nat_lit 0))::((Value.int (@OfNat.ofNat.{0} @Int (nat_lit 2) (@instOfNat (nat_lit 2))) (nat_lit 0))::((Value.int (@OfNat.ofNat.{0} @Int (nat_lit 0) (@instOfNat (nat_lit 0))) (nat_lit 0))::((Value.int (@OfNat.ofNat.{0} @Int (nat_lit 0) (@instOfNat (nat_lit 0))) (nat_lit 0))::((Value.int (@OfNat.ofNat.{0} @Int (nat_lit 3) (@instOfNat (nat_lit 3))) (nat_lit 0))::((Value.ref (nat_lit 352))::((Value.bool @Bool.true)::((Value.int (@OfNat.ofNat.{0} @Int (nat_lit 181) (@instOfNat (nat_lit 181))) (nat_lit 0))::((Value.ref (nat_lit 353))::(Value.none::((Value.ref (nat_lit 354))::((Value.ref (nat_lit 355))::((Value.ref (nat_lit 356))::((Value.int (@OfNat.ofNat.{0} @Int (nat_lit 635) (@instOfNat (nat_lit 635))) (nat_lit 0))::((Value.int (@OfNat.ofNat.{0} @Int (nat_lit 105) (@instOfNat (nat_lit 105))) (nat_lit 0))::((Value.str (Str.ofString "/claim/cut.py") (nat_lit 636))::[]))))))))))))))))))))) (@List.toArray.{0} (@Option.{0} Value) []))) <|
  List.cons (Prod.mk (nat_lit 358) (Obj.mk (Value.type "function") (none) (Data.func (PySem.W.fnOf (Str.ofString "body_of") (Str.ofString "body_of") (defArgs TR.s_body_of) (defBody TR.s_body_of) (defScope TR.s_body_of) Value.none Value.none Value.none (Value.str (Str.ofString "treetrain.standings") (nat_lit 602)) (none) (Value.ref (nat_lit 357)) Value.none)) (@List.toArray.{0} (@Option.{0} Value) []))) <|
  List.cons (Prod.mk (nat_lit 362) (Obj.mk (Value.type "code") (none) (Data.fields (@List.toArray.{0} Value ((Value.str (Str.ofString "steps_from") (nat_lit 638))::((Value.str (Str.ofString "steps_from") (nat_lit 639))::((Value.str (Str.ofString "/claim/cut.py") (nat_lit 640))::((Value.int (@OfNat.ofNat.{0} @Int (nat_lit 109) (@instOfNat (nat_lit 109))) (nat_lit 0))::((Value.int (@OfNat.ofNat.{0} @Int (nat_lit 2) (@instOfNat (nat_lit 2))) (nat_lit 0))::((Value.int (@OfNat.ofNat.{0} @Int (nat_lit 0) (@instOfNat (nat_lit 0))) (nat_lit 0))::((Value.int (@OfNat.ofNat.{0} @Int (nat_lit 0) (@instOfNat (nat_lit 0))) (nat_lit 0))::((Value.int (@OfNat.ofNat.{0} @Int (nat_lit 3) (@instOfNat (nat_lit 3))) (nat_lit 0))::((Value.ref (nat_lit 359))::((Value.bool @Bool.true)::((Value.int (@OfNat.ofNat.{0} @Int (nat_lit 181) (@instOfNat (nat_lit 181))) (nat_lit 0))::((Value.ref (nat_lit 360))::(Value.none::(Value.none::(Value.none::((Value.ref (nat_lit 361))::((Value.int (@OfNat.ofNat.{0} @Int (nat_lit 641) (@instOfNat (nat_lit 641))) (nat_lit 0))::((Value.int (@OfNat.ofNat.{0} @Int (nat_lit 109) (@instOfNat (nat_lit 109))) (nat_lit 0))::((Value.str (Str.ofString "/claim/cut.py") (nat_lit 642))::[]))))))))))))))))))))) (@List.toArray.{0} (@Option.{0} Value) []))) <|
  List.cons (Prod.mk (nat_lit 363) (Obj.mk (Value.type "function") (none) (Data.func (PySem.W.fnOf (Str.ofString "steps_from") (Str.ofString "steps_from") (defArgs TR.s_steps_from) (defBody TR.s_steps_from) (defScope TR.s_steps_from) Value.none Value.none Value.none (Value.str (Str.ofString "treetrain.standings") (nat_lit 602)) (none) (Value.ref (nat_lit 362)) Value.none)) (@List.toArray.{0} (@Option.{0} Value) []))) <|
  List.cons (Prod.mk (nat_lit 369) (Obj.mk (Value.type "code") (none) (Data.fields (@List.toArray.{0} Value ((Value.str (Str.ofString "_body_after") (nat_lit 644))::((Value.str (Str.ofString "_body_after") (nat_lit 645))::((Value.str (Str.ofString "/claim/cut.py") (nat_lit 646))::((Value.int (@OfNat.ofNat.{0} @Int (nat_lit 113) (@instOfNat (nat_lit 113))) (nat_lit 0))::((Value.int (@OfNat.ofNat.{0} @Int (nat_lit 3) (@instOfNat (nat_lit 3))) (nat_lit 0))::((Value.int (@OfNat.ofNat.{0} @Int (nat_lit 0) (@instOfNat (nat_lit 0))) (nat_lit 0))::((Value.int (@OfNat.ofNat.{0} @Int (nat_lit 0) (@instOfNat (nat_lit 0))) (nat_lit 0))::((Value.int (@OfNat.ofNat.{0} @Int (nat_lit 3) (@instOfNat (nat_lit 3))) (nat_lit 0))::((Value.ref (nat_lit 364))::((Value.bool @Bool.true)::((Value.int (@OfNat.ofNat.{0} @Int (nat_lit 181) (@instOfNat (nat_lit 181))) (nat_lit 0))::((Value.ref (nat_lit 365))::(Value.none::((Value.ref (nat_lit 366))::((Value.ref (nat_lit 367))::((Value.ref (nat_lit 368))::((Value.int (@OfNat.ofNat.{0} @Int (nat_lit 650) (@instOfNat (nat_lit 650))) (nat_lit 0))::((Value.int (@OfNat.ofNat.{0} @Int (nat_lit 113) (@instOfNat (nat_lit 113))) (nat_lit 0))::((Value.str (Str.ofString "/claim/cut.py") (nat_lit 651))::[]))))))))))))))))))))) (@List.toArray.{0} (@Option.{0} Value) []))) <|
  List.cons (Prod.mk (nat_lit 370) (Obj.mk (Value.type "function") (none) (Data.func (PySem.W.fnOf (Str.ofString "_body_after") (Str.ofString "_body_after") (defArgs TR.s_body_after) (defBody TR.s_body_after) (defScope TR.s_body_after) Value.none Value.none Value.none (Value.str (Str.ofString "treetrain.standings") (nat_lit 602)) (none) (Value.ref (nat_lit 369)) Value.none)) (@List.toArray.{0} (@Option.{0} Value) []))) <|
  List.cons (Prod.mk (nat_lit 376) (Obj.mk (Value.type "code") (none) (Data.fields (@List.toArray.{0} Value ((Value.str (Str.ofString "is_pocket") (nat_lit 655))::((Value.str (Str.ofString "is_pocket") (nat_lit 656))::((Value.str (Str.ofString "/claim/cut.py") (nat_lit 657))::((Value.int (@OfNat.ofNat.{0} @Int (nat_lit 118) (@instOfNat (nat_lit 118))) (nat_lit 0))::((Value.int (@OfNat.ofNat.{0} @Int (nat_lit 3) (@instOfNat (nat_lit 3))) (nat_lit 0))::((Value.int (@OfNat.ofNat.{0} @Int (nat_lit 0) (@instOfNat (nat_lit 0))) (nat_lit 0))::((Value.int (@OfNat.ofNat.{0} @Int (nat_lit 0) (@instOfNat (nat_lit 0))) (nat_lit 0))::((Value.int (@OfNat.ofNat.{0} @Int (nat_lit 3) (@instOfNat (nat_lit 3))) (nat_lit 0))::((Value.ref (nat_lit 371))::((Value.bool @Bool.true)::((Value.int (@OfNat.ofNat.{0} @Int (nat_lit 181) (@instOfNat (nat_lit 181))) (nat_lit 0))::((Value.ref (nat_lit 372))::(Value.none::((Value.ref (nat_lit 373))::((Value.ref (nat_lit 374))::((Value.ref (nat_lit 375))::((Value.int (@OfNat.ofNat.{0} @Int (nat_lit 664) (@instOfNat (nat_lit 664))) (nat_lit 0))::((Value.int (@OfNat.ofNat.{0} @Int (nat_lit 118) (@instOfNat (nat_lit 118))) (nat_lit 0))::((Value.str (Str.ofString "/claim/cut.py") (nat_lit 665))::[]))))))))))))))))))))) (@List.toArray.{0} (@Option.{0} Value) []))) <|
  List.cons (Prod.mk (nat_lit 377) (Obj.mk (Value.type "function") (none) (Data.func (PySem.W.fnOf (Str.ofString "is_pocket") (Str.ofString "is_pocket") (defArgs TR.s_is_pocket) (defBody TR.s_is_pocket) (defScope TR.s_is_pocket) Value.none Value.none Value.none (Value.str (Str.ofString "treetrain.climbing") (nat_lit 653)) (none) (Value.ref (nat_lit 376)) Value.none)) (@List.toArray.{0} (@Option.{0} Value) []))) <|
  List.cons (Prod.mk (nat_lit 383) (Obj.mk (Value.type "code") (none) (Data.fields (@List.toArray.{0} Value ((Value.str (Str.ofString "has_clamp") (nat_lit 667))::((Value.str (Str.ofString "has_clamp") (nat_lit 668))::((Value.str (Str.ofString "/claim/cut.py") (nat_lit 669))::((Value.int (@OfNat.ofNat.{0} @Int (nat_lit 124) (@instOfNat (nat_lit 124))) (nat_lit 0))::((Value.int (@OfNat.ofNat.{0} @Int (nat_lit 3) (@instOfNat (nat_lit 3))) (nat_lit 0))::((Value.int (@OfNat.ofNat.{0} @Int (nat_lit 0) (@instOfNat (nat_lit 0))) (nat_lit 0))::((Value.int (@OfNat.ofNat.{0} @Int (nat_lit 0) (@instOfNat (nat_lit 0))) (nat_lit 0))::((Value.int (@OfNat.ofNat.{0} @Int (nat_lit 3) (@instOfNat (nat_lit 3))) (nat_lit 0))::((Value.ref (nat_lit 378))::((Value.bool @Bool.true)::((Value.int (@OfNat.ofNat.{0} @Int (nat_lit 181) (@instOfNat (nat_lit 181))) (nat_lit 0))::((Value.ref (nat_lit 379))::(Value.none::((Value.ref (nat_lit 380))::((Value.ref (nat_lit 381))::((Value.ref (nat_lit 382))::((Value.int (@OfNat.ofNat.{0} @Int (nat_lit 676) (@instOfNat (nat_lit 676))) (nat_lit 0))::((Value.int (@OfNat.ofNat.{0} @Int (nat_lit 124) (@instOfNat (nat_lit 124))) (nat_lit 0))::((Value.str (Str.ofString "/claim/cut.py") (nat_lit 677))::[]))))))))))))))))))))) (@List.toArray.{0} (@Option.{0} Value) []))) <|
  List.cons (Prod.mk (nat_lit 384) (Obj.mk (Value.type "function") (none) (Data.func (PySem.W.fnOf (Str.ofString "has_clamp") (Str.ofString "has_clamp") (defArgs TR.s_has_clamp) (defBody TR.s_has_clamp) (defScope TR.s_has_clamp) Value.none Value.none Value.none (Value.str (Str.ofString "treetrain.climbing") (nat_lit 653)) (none) (Value.ref (nat_lit 383)) Value.none)) (@List.toArray.{0} (@Option.{0} Value) []))) <|
  List.cons (Prod.mk (nat_lit 390) (Obj.mk (Value.type "code") (none) (Data.fields (@List.toArray.{0} Value ((Value.str (Str.ofString "climb") (nat_lit 679))::((Value.str (Str.ofString "climb") (nat_lit 680))::((Value.str (Str.ofString "/claim/cut.py") (nat_lit 681))::((Value.int (@OfNat.ofNat.{0} @Int (nat_lit 128) (@instOfNat (nat_lit 128))) (nat_lit 0))::((Value.int (@OfNat.ofNat.{0} @Int (nat_lit 2) (@instOfNat (nat_lit 2))) (nat_lit 0))::((Value.int (@OfNat.ofNat.{0} @Int (nat_lit 0) (@instOfNat (nat_lit 0))) (nat_lit 0))::((Value.int (@OfNat.ofNat.{0} @Int (nat_lit 0) (@instOfNat (nat_lit 0))) (nat_lit 0))::((Value.int (@OfNat.ofNat.{0} @Int (nat_lit 35) (@instOfNat (nat_lit 35))) (nat_lit 0))::((Value.ref (nat_lit 385))::((Value.bool @Bool.true)::((Value.int (@OfNat.ofNat.{0} @Int (nat_lit 181) (@instOfNat (nat_lit 181))) (nat_lit 0))::((Value.ref (nat_lit 386))::(Value.none::((Value.ref (nat_lit 387))::((Value.ref (nat_lit 388))::((Value.ref (nat_lit 389))::((Value.int (@OfNat.ofNat.{0} @Int (nat_lit 686) (@instOfNat (nat_lit 686))) (nat_lit 0))::((Value.int (@OfNat.ofNat.{0} @Int (nat_lit 128) (@instOfNat (nat_lit 128))) (nat_lit 0))::((Value.str (Str.ofString "/claim/cut.py") (nat_lit 687))::[]))))))))))))))))))))) (@List.toArray.{0} (@Option.{0} Value) []))) <|
  List.cons (Prod.mk (nat_lit 391) (Obj.mk (Value.type "function") (none) (Data.func (PySem.W.fnOf (Str.ofString "climb") (Str.ofString "climb") (defArgs TR.s_climb) (defBody TR.s_climb) (defScope TR.s_climb) Value.none Value.none Value.none (Value.str (Str.ofString "treetrain.climbing") (nat_lit 653)) (none) (Value.ref (nat_lit 390)) Value.none)) (@List.toArray.{0} (@Option.{0} Value) []))) <|
  List.cons (Prod.mk (nat_lit 397) (Obj.mk (Value.type "code") (none) (Data.fields (@List.toArray.{0} Value ((Value.str (Str.ofString "pocket") (nat_lit 689))::((Value.str (Str.ofString "pocket") (nat_lit 690))::((Value.str (Str.ofString "/claim/cut.py") (nat_lit 691))::((Value.int (@OfNat.ofNat.{0} @Int (nat_lit 134) (@instOfNat (nat_lit 134))) (nat_lit 0))::((Value.int (@OfNat.ofNat.{0} @Int (nat_lit 2) (@instOfNat (nat_lit 2))) (nat_lit 0))::((Value.int (@OfNat.ofNat.{0} @Int (nat_lit 0) (@instOfNat (nat_lit 0))) (nat_lit 0))::((Value.int (@OfNat.ofNat.{0} @Int (nat_lit 0) (@instOfNat (nat_lit 0))) (nat_lit 0))::((Value.int (@OfNat.ofNat.{0} @Int (nat_lit 3) (@instOfNat (nat_lit 3))) (nat_lit 0))::((Value.ref (nat_lit 392))::((Value.bool @Bool.true)::((Value.int (@OfNat.ofNat.{0} @Int (nat_lit 181) (@instOfNat (nat_lit 181))) (nat_lit 0))::((Value.ref (nat_lit 393))::(Value.none::((Value.ref (nat_lit 394))::((Value.ref (nat_lit 395))::((Value.ref (nat_lit 396))::((Value.int (@OfNat.ofNat.{0} @Int (nat_lit 695) (@instOfNat (nat_lit 695))) (nat_lit 0))::((Value.int (@OfNat.ofNat.{0} @Int (nat_lit 134) (@instOfNat (nat_lit 134))) (nat_lit 0))::((Value.str (Str.ofString "/claim/cut.py") (nat_lit 696))::[]))))))))))))))))))))) (@List.toArray.{0} (@Option.{0} Value) []))) <|
  List.cons (Prod.mk (nat_lit 398) (Obj.mk (Value.type "function") (none) (Data.func (PySem.W.fnOf (Str.ofString "pocket") (Str.ofString "pocket") (defArgs TR.s_pocket) (defBody TR.s_pocket) (defScope TR.s_pocket) Value.none Value.none Value.none (Value.str (Str.ofString "treetrain.climbing") (nat_lit 653)) (none) (Value.ref (nat_lit 397)) Value.none)) (@List.toArray.{0} (@Option.{0} Value) []))) <|
  List.cons (Prod.mk (nat_lit 404) (Obj.mk (Value.type "code") (none) (Data.fields (@List.toArray.{0} Value ((Value.str (Str.ofString "_slack_and_depths") (nat_lit 698))::((Value.str (Str.ofString "_slack_and_depths") (nat_lit 699))::((Value.str (Str.ofString "/claim/cut.py") (nat_lit 700))::((Value.int (@OfNat.ofNat.{0} @Int (nat_lit 137) (@instOfNat (nat_lit 137))) (nat_lit 0))::((Value.int (@OfNat.ofNat.{0} @Int (nat_lit 3) (@instOfNat (nat_lit 3))) (nat_lit 0))::((Value.int (@OfNat.ofNat.{0} @Int (nat_lit 0) (@instOfNat (nat_lit 0))) (nat_lit 0))::((Value.int (@OfNat.ofNat.{0} @Int (nat_lit 0) (@instOfNat (nat_lit 0))) (nat_lit 0))::((Value.int (@OfNat.ofNat.{0} @Int (nat_lit 3) (@instOfNat (nat_lit 3))) (nat_lit 0))::((Value.ref (nat_lit 399))::((Value.bool @Bool.true)::((Value.int (@OfNat.ofNat.{0} @Int (nat_lit 181) (@instOfNat (nat_lit 181))) (nat_lit 0))::((Value.ref (nat_lit 400))::(Value.none::((Value.ref (nat_lit 401))::((Value.ref (nat_lit 402))::((Value.ref (nat_lit 403))::((Value.int (@OfNat.ofNat.{0} @Int (nat_lit 707) (@instOfNat (nat_lit 707))) (nat_lit 0))::((Value.int (@OfNat.ofNat.{0} @Int (nat_lit 137) (@instOfNat (nat_lit 137))) (nat_lit 0))::((Value.str (Str.ofString "/claim/cut.py") (nat_lit 708))::[]))))))))))))))))))))) (@List.toArray.{0} (@Option.{0} Value) []))) <|
  List.cons (Prod.mk (nat_lit 405) (Obj.mk (Value.type "function") (none) (Data.func (PySem.W.fnOf (Str.ofString "_slack_and_depths") (Str.ofString "_slack_and_depths") (defArgs TR.s_slack_and_depths) (defBody TR.s_slack_and_depths) (defScope TR.s_slack_and_depths) Value.none Value.none Value.none (Value.str (Str.ofString "treetrain.climbing") (nat_lit 653)) (none) (Value.ref (nat_lit 404)) Value.none)) (@List.toArray.{0} (@Option.{0} Value) []))) <|
  List.cons (Prod.mk (nat_lit 411) (Obj.mk (Value.type "code") (none) (Data.fields (@List.toArray.{0} Value ((Value.str (Str.ofString "_next_part") (nat_lit 710))::((Value.str (Str.ofString "_next_part") (nat_lit 711))::((Value.str (Str.ofString "/claim/cut.py") (nat_lit 712))::((Value.int (@OfNat.ofNat.{0} @Int (nat_lit 141) (@instOfNat (nat_lit 141))) (nat_lit 0))::((Value.int (@OfNat.ofNat.{0} @Int (nat_lit 3) (@instOfNat (nat_lit 3))) (nat_lit 0))::((Value.int (@OfNat.ofNat.{0} @Int (nat_lit 0) (@instOfNat (nat_lit 0))) (nat_lit 0))::((Value.int (@OfNat.ofNat.{0} @Int (nat_lit 0) (@instOfNat (nat_lit 0))) (nat_lit 0))::((Value.int (@OfNat.ofNat.{0} @Int (nat_lit 3) (@instOfNat (nat_lit 3))) (nat_lit 0))::((Value.ref (nat_lit 406))::((Value.bool @Bool.true)::((Value.int (@OfNat.ofNat.{0} @Int (nat_lit 181) (@instOfNat (nat_lit 181))) (nat_lit 0))::((Value.ref (nat_lit 407))::(Value.none::((Value.ref (nat_lit 408))::((Value.ref (nat_lit 409))::((Value.ref (nat_lit 410))::((Value.int (@OfNat.ofNat.{0} @Int (nat_lit 719) (@instOfNat (nat_lit 719))) (nat_lit 0))::((Value.int (@OfNat.ofNat.{0} @Int (nat_lit 141) (@instOfNat (nat_lit 141))) (nat_lit 0))::((Value.str (Str.ofString "/claim/cut.py") (nat_lit 720))::[]))))))))))))))))))))) (@List.toArray.{0} (@Option.{0} Value) []))) <|
  List.cons (Prod.mk (nat_lit 412) (Obj.mk (Value.type "function") (none) (Data.func (PySem.W.fnOf (Str.ofString "_next_part") (Str.ofString "_next_part") (defArgs TR.s_next_part) (defBody TR.s_next_part) (defScope TR.s_next_part) Value.none Value.none Value.none (Value.str (Str.ofString "treetrain.climbing") (nat_lit 653)) (none) (Value.ref (nat_lit 411)) Value.none)) (@List.toArray.{0} (@Option.{0} Value) []))) <|
  List.cons (Prod.mk (nat_lit 416) (Obj.mk (Value.type "code") (none) (Data.fields (@List.toArray.{0} Value ((Value.str (Str.ofString "is_line") (nat_lit 724))::((Value.str (Str.ofString "is_line") (nat_lit 725))::((Value.str (Str.ofString "/claim/cut.py") (nat_lit 726))::((Value.int (@OfNat.ofNat.{0} @Int (nat_lit 151) (@instOfNat (nat_lit 151))) (nat_lit 0))::((Value.int (@OfNat.ofNat.{0} @Int (nat_lit 2) (@instOfNat (nat_lit 2))) (nat_lit 0))::((Value.int (@OfNat.ofNat.{0} @Int (nat_lit 0) (@instOfNat (nat_lit 0))) (nat_lit 0))::((Value.int (@OfNat.ofNat.{0} @Int (nat_lit 0) (@instOfNat (nat_lit 0))) (nat_lit 0))::((Value.int (@OfNat.ofNat.{0} @Int (nat_lit 3) (@instOfNat (nat_lit 3))) (nat_lit 0))::((Value.ref (nat_lit 413))::((Value.bool @Bool.true)::((Value.int (@OfNat.ofNat.{0} @Int (nat_lit 181) (@instOfNat (nat_lit 181))) (nat_lit 0))::((Value.ref (nat_lit 414))::(Value.none::(Value.none::(Value.none::((Value.ref (nat_lit 415))::((Value.int (@OfNat.ofNat.{0} @Int (nat_lit 727) (@instOfNat (nat_lit 727))) (nat_lit 0))::((Value.int (@OfNat.ofNat.{0} @Int (nat_lit 151) (@instOfNat (nat_lit 151))) (nat_lit 0))::((Value.str (Str.ofString "/claim/cut.py") (nat_lit 728))::[]))))))))))))))))))))) (@List.toArray.{0} (@Option.{0} Value) []))) <|
  List.cons (Prod.mk (nat_lit 417) (Obj.mk (Value.type "function") (none) (Data.func (PySem.W.fnOf (Str.ofString "is_line") (Str.ofString "is_line") (defArgs TR.s_is_line) (defBody TR.s_is_line) (defScope TR.s_is_line) Value.none Value.none Value.none (Value.str (Str.ofString "treetrain.divides") (nat_lit 722)) (none) (Value.ref (nat_lit 416)) Value.none)) (@List.toArray.{0} (@Option.{0} Value) []))) <|
  List.cons (Prod.mk (nat_lit 423) (Obj.mk (Value.type "code") (none) (Data.fields (@List.toArray.{0} Value ((Value.str (Str.ofString "is_divide") (nat_lit 730))::((Value.str (Str.ofString "is_divide") (nat_lit 731))::((Value.str (Str.ofString "/claim/cut.py") (nat_lit 732))::((Value.int (@OfNat.ofNat.{0} @Int (nat_lit 157) (@instOfNat (nat_lit 157))) (nat_lit 0))::((Value.int (@OfNat.ofNat.{0} @Int (nat_lit 3) (@instOfNat (nat_lit 3))) (nat_lit 0))::((Value.int (@OfNat.ofNat.{0} @Int (nat_lit 0) (@instOfNat (nat_lit 0))) (nat_lit 0))::((Value.int (@OfNat.ofNat.{0} @Int (nat_lit 0) (@instOfNat (nat_lit 0))) (nat_lit 0))::((Value.int (@OfNat.ofNat.{0} @Int (nat_lit 3) (@instOfNat (nat_lit 3))) (nat_lit 0))::((Value.ref (nat_lit 418))::((Value.bool @Bool.true)::((Value.int (@OfNat.ofNat.{0} @Int (nat_lit 181) (@instOfNat (nat_lit 181))) (nat_lit 0))::((Value.ref (nat_lit 419))::(Value.none::((Value.ref (nat_lit 420))::((Value.ref (nat_lit 421))::((Value.ref (nat_lit 422))::((Value.int (@OfNat.ofNat.{0} @Int (nat_lit 739) (@instOfNat (nat_lit 739))) (nat_lit 0))::((Value.int (@OfNat.ofNat.{0} @Int (nat_lit 157) (@instOfNat (nat_lit 157))) (nat_lit 0))::((Value.str (Str.ofString "/claim/cut.py") (nat_lit 740))::[]))))))))))))))))))))) (@List.toArray.{0} (@Option.{0} Value) []))) <|
  List.cons (Prod.mk (nat_lit 424) (Obj.mk (Value.type "function") (none) (Data.func (PySem.W.fnOf (Str.ofString "is_divide") (Str.ofString "is_divide") (defArgs TR.s_is_divide) (defBody TR.s_is_divide) (defScope TR.s_is_divide) Value.none Value.none Value.none (Value.str (Str.ofString "treetrain.divides") (nat_lit 722)) (none) (Value.ref (nat_lit 423)) Value.none)) (@List.toArray.{0} (@Option.{0} Value) []))) <|
  List.cons (Prod.mk (nat_lit 428) (Obj.mk (Value.type "code") (none) (Data.fields (@List.toArray.{0} Value ((Value.str (Str.ofString "mark") (nat_lit 742))::((Value.str (Str.ofString "mark") (nat_lit 743))::((Value.str (Str.ofString "/claim/cut.py") (nat_lit 744))::((Value.int (@OfNat.ofNat.{0} @Int (nat_lit 166) (@instOfNat (nat_lit 166))) (nat_lit 0))::((Value.int (@OfNat.ofNat.{0} @Int (nat_lit 3) (@instOfNat (nat_lit 3))) (nat_lit 0))::((Value.int (@OfNat.ofNat.{0} @Int (nat_lit 0) (@instOfNat (nat_lit 0))) (nat_lit 0))::((Value.int (@OfNat.ofNat.{0} @Int (nat_lit 0) (@instOfNat (nat_lit 0))) (nat_lit 0))::((Value.int (@OfNat.ofNat.{0} @Int (nat_lit 3) (@instOfNat (nat_lit 3))) (nat_lit 0))::((Value.ref (nat_lit 425))::((Value.bool @Bool.true)::((Value.int (@OfNat.ofNat.{0} @Int (nat_lit 181) (@instOfNat (nat_lit 181))) (nat_lit 0))::((Value.ref (nat_lit 426))::(Value.none::(Value.none::(Value.none::((Value.ref (nat_lit 427))::((Value.int (@OfNat.ofNat.{0} @Int (nat_lit 745) (@instOfNat (nat_lit 745))) (nat_lit 0))::((Value.int (@OfNat.ofNat.{0} @Int (nat_lit 166) (@instOfNat (nat_lit 166))) (nat_lit 0))::((Value.str (Str.ofString "/claim/cut.py") (nat_lit 746))::[]))))))))))))))))))))) (@List.toArray.{0} (@Option.{0} Value) []))) <|
  List.cons (Prod.mk (nat_lit 429) (Obj.mk (Value.type "function") (none) (Data.func (PySem.W.fnOf (Str.ofString "mark") (Str.ofString "mark") (defArgs TR.s_mark) (defBody TR.s_mark) (defScope TR.s_mark) Value.none Value.none Value.none (Value.str (Str.ofString "treetrain.divides") (nat_lit 722)) (none) (Value.ref (nat_lit 428)) Value.none)) (@List.toArray.{0} (@Option.{0} Value) []))) <|
  List.cons (Prod.mk (nat_lit 435) (Obj.mk (Value.type "code") (none) (Data.fields (@List.toArray.{0} Value ((Value.str (Str.ofString "find_divide") (nat_lit 748))::((Value.str (Str.ofString "find_divide") (nat_lit 749))::((Value.str (Str.ofString "/claim/cut.py") (nat_lit 750))::((Value.int (@OfNat.ofNat.{0} @Int (nat_lit 171) (@instOfNat (nat_lit 171))) (nat_lit 0))::((Value.int (@OfNat.ofNat.{0} @Int (nat_lit 2) (@instOfNat (nat_lit 2))) (nat_lit 0))::((Value.int (@OfNat.ofNat.{0} @Int (nat_lit 0) (@instOfNat (nat_lit 0))) (nat_lit 0))::((Value.int (@OfNat.ofNat.{0} @Int (nat_lit 0) (@instOfNat (nat_lit 0))) (nat_lit 0))::((Value.int (@OfNat.ofNat.{0} @Int (nat_lit 3) (@instOfNat (nat_lit 3))) (nat_lit 0))::((Value.ref (nat_lit 430))::((Value.bool @Bool.true)::((Value.int (@OfNat.ofNat.{0} @Int (nat_lit 181) (@instOfNat (nat_lit 181))) (nat_lit 0))::((Value.ref (nat_lit 431))::(Value.none::((Value.ref (nat_lit 432))::((Value.ref (nat_lit 433))::((Value.ref (nat_lit 434))::((Value.int (@OfNat.ofNat.{0} @Int (nat_lit 754) (@instOfNat (nat_lit 754))) (nat_lit 0))::((Value.int (@OfNat.ofNat.{0} @Int (nat_lit 171) (@instOfNat (nat_lit 171))) (nat_lit 0))::((Value.str (Str.ofString "/claim/cut.py") (nat_lit 755))::[]))))))))))))))))))))) (@List.toArray.{0} (@Option.{0} Value) []))) <|
  List.cons (Prod.mk (nat_lit 436) (Obj.mk (Value.type "function") (none) (Data.func (PySem.W.fnOf (Str.ofString "find_divide") (Str.ofString "find_divide") (defArgs TR.s_find_divide) (defBody TR.s_find_divide) (defScope TR.s_find_divide) Value.none Value.none Value.none (Value.str (Str.ofString "treetrain.divides") (nat_lit 722)) (none) (Value.ref (nat_lit 435)) Value.none)) (@List.toArray.{0} (@Option.{0} Value) []))) <|
  List.cons (Prod.mk (nat_lit 440) (Obj.mk (Value.type "code") (none) (Data.fields (@List.toArray.{0} Value ((Value.str (Str.ofString "least_way") (nat_lit 759))::((Value.str (Str.ofString "least_way") (nat_lit 760))::((Value.str (Str.ofString "/claim/cut.py") (nat_lit 761))::((Value.int (@OfNat.ofNat.{0} @Int (nat_lit 178) (@instOfNat (nat_lit 178))) (nat_lit 0))::((Value.int (@OfNat.ofNat.{0} @Int (nat_lit 3) (@instOfNat (nat_lit 3))) (nat_lit 0))::((Value.int (@OfNat.ofNat.{0} @Int (nat_lit 0) (@instOfNat (nat_lit 0))) (nat_lit 0))::((Value.int (@OfNat.ofNat.{0} @Int (nat_lit 0) (@instOfNat (nat_lit 0))) (nat_lit 0))::((Value.int (@OfNat.ofNat.{0} @Int (nat_lit 3) (@instOfNat (nat_lit 3))) (nat_lit 0))::((Value.ref (nat_lit 437))::((Value.bool @Bool.true)::((Value.int (@OfNat.ofNat.{0} @Int (nat_lit 181) (@instOfNat (nat_lit 181))) (nat_lit 0))::((Value.ref (nat_lit 438))::(Value.none::(Value.none::(Value.none::((Value.ref (nat_lit 439))::((Value.int (@OfNat.ofNat.{0} @Int (nat_lit 762) (@instOfNat (nat_lit 762))) (nat_lit 0))::((Value.int (@OfNat.ofNat.{0} @Int (nat_lit 178) (@instOfNat (nat_lit 178))) (nat_lit 0))::((Value.str (Str.ofString "/claim/cut.py") (nat_lit 763))::[]))))))))))))))))))))) (@List.toArray.{0} (@Option.{0} Value) []))) <|
  List.cons (Prod.mk (nat_lit 441) (Obj.mk (Value.type "function") (none) (Data.func (PySem.W.fnOf (Str.ofString "least_way") (Str.ofString "least_way") (defArgs TR.s_least_way) (defBody TR.s_least_way) (defScope TR.s_least_way) Value.none Value.none Value.none (Value.str (Str.ofString "treetrain.search") (nat_lit 757)) (none) (Value.ref (nat_lit 440)) Value.none)) (@List.toArray.{0} (@Option.{0} Value) []))) <|
  List.cons (Prod.mk (nat_lit 447) (Obj.mk (Value.type "code") (none) (Data.fields (@List.toArray.{0} Value ((Value.str (Str.ofString "_counts_to") (nat_lit 765))::((Value.str (Str.ofString "_counts_to") (nat_lit 766))::((Value.str (Str.ofString "/claim/cut.py") (nat_lit 767))::((Value.int (@OfNat.ofNat.{0} @Int (nat_lit 188) (@instOfNat (nat_lit 188))) (nat_lit 0))::((Value.int (@OfNat.ofNat.{0} @Int (nat_lit 3) (@instOfNat (nat_lit 3))) (nat_lit 0))::((Value.int (@OfNat.ofNat.{0} @Int (nat_lit 0) (@instOfNat (nat_lit 0))) (nat_lit 0))::((Value.int (@OfNat.ofNat.{0} @Int (nat_lit 0) (@instOfNat (nat_lit 0))) (nat_lit 0))::((Value.int (@OfNat.ofNat.{0} @Int (nat_lit 3) (@instOfNat (nat_lit 3))) (nat_lit 0))::((Value.ref (nat_lit 442))::((Value.bool @Bool.true)::((Value.int (@OfNat.ofNat.{0} @Int (nat_lit 181) (@instOfNat (nat_lit 181))) (nat_lit 0))::((Value.ref (nat_lit 443))::(Value.none::((Value.ref (nat_lit 444))::((Value.ref (nat_lit 445))::((Value.ref (nat_lit 446))::((Value.int (@OfNat.ofNat.{0} @Int (nat_lit 777) (@instOfNat (nat_lit 777))) (nat_lit 0))::((Value.int (@OfNat.ofNat.{0} @Int (nat_lit 188) (@instOfNat (nat_lit 188))) (nat_lit 0))::((Value.str (Str.ofString "/claim/cut.py") (nat_lit 778))::[]))))))))))))))))))))) (@List.toArray.{0} (@Option.{0} Value) []))) <|
  List.cons (Prod.mk (nat_lit 448) (Obj.mk (Value.type "function") (none) (Data.func (PySem.W.fnOf (Str.ofString "_counts_to") (Str.ofString "_counts_to") (defArgs TR.s_counts_to) (defBody TR.s_counts_to) (defScope TR.s_counts_to) Value.none Value.none Value.none (Value.str (Str.ofString "treetrain.search") (nat_lit 757)) (none) (Value.ref (nat_lit 447)) Value.none)) (@List.toArray.{0} (@Option.{0} Value) []))) <|
  List.cons (Prod.mk (nat_lit 454) (Obj.mk (Value.type "code") (none) (Data.fields (@List.toArray.{0} Value ((Value.str (Str.ofString "common_length") (nat_lit 782))::((Value.str (Str.ofString "common_length") (nat_lit 783))::((Value.str (Str.ofString "/claim/cut.py") (nat_lit 784))::((Value.int (@OfNat.ofNat.{0} @Int (nat_lit 201) (@instOfNat (nat_lit 201))) (nat_lit 0))::((Value.int (@OfNat.ofNat.{0} @Int (nat_lit 3) (@instOfNat (nat_lit 3))) (nat_lit 0))::((Value.int (@OfNat.ofNat.{0} @Int (nat_lit 0) (@instOfNat (nat_lit 0))) (nat_lit 0))::((Value.int (@OfNat.ofNat.{0} @Int (nat_lit 0) (@instOfNat (nat_lit 0))) (nat_lit 0))::((Value.int (@OfNat.ofNat.{0} @Int (nat_lit 3) (@instOfNat (nat_lit 3))) (nat_lit 0))::((Value.ref (nat_lit 449))::((Value.bool @Bool.true)::((Value.int (@OfNat.ofNat.{0} @Int (nat_lit 181) (@instOfNat (nat_lit 181))) (nat_lit 0))::((Value.ref (nat_lit 450))::(Value.none::((Value.ref (nat_lit 451))::((Value.ref (nat_lit 452))::((Value.ref (nat_lit 453))::((Value.int (@OfNat.ofNat.{0} @Int (nat_lit 789) (@instOfNat (nat_lit 789))) (nat_lit 0))::((Value.int (@OfNat.ofNat.{0} @Int (nat_lit 201) (@instOfNat (nat_lit 201))) (nat_lit 0))::((Value.str (Str.ofString "/claim/cut.py") (nat_lit 790))::[]))))))))))))))))))))) (@List.toArray.{0} (@Option.{0} Value) []))) <|
  List.cons (Prod.mk (nat_lit 455) (Obj.mk (Value.type "function") (none) (Data.func (PySem.W.fnOf (Str.ofString "common_length") (Str.ofString "common_length") (defArgs TR.s_common_length) (defBody TR.s_common_length) (defScope TR.s_common_length) Value.none Value.none Value.none (Value.str (Str.ofString "treetrain.deciding") (nat_lit 780)) (none) (Value.ref (nat_lit 454)) Value.none)) (@List.toArray.{0} (@Option.{0} Value) []))) <|
  List.cons (Prod.mk (nat_lit 461) (Obj.mk (Value.type "code") (none) (Data.fields (@List.toArray.{0} Value ((Value.str (Str.ofString "reason_against") (nat_lit 792))::((Value.str (Str.ofString "reason_against") (nat_lit 793))::((Value.str (Str.ofString "/claim/cut.py") (nat_lit 794))::((Value.int (@OfNat.ofNat.{0} @Int (nat_lit 206) (@instOfNat (nat_lit 206))) (nat_lit 0))::((Value.int (@OfNat.ofNat.{0} @Int (nat_lit 3) (@instOfNat (nat_lit 3))) (nat_lit 0))::((Value.int (@OfNat.ofNat.{0} @Int (nat_lit 0) (@instOfNat (nat_lit 0))) (nat_lit 0))::((Value.int (@OfNat.ofNat.{0} @Int (nat_lit 0) (@instOfNat (nat_lit 0))) (nat_lit 0))::((Value.int (@OfNat.ofNat.{0} @Int (nat_lit 3) (@instOfNat (nat_lit 3))) (nat_lit 0))::((Value.ref (nat_lit 456))::((Value.bool @Bool.true)::((Value.int (@OfNat.ofNat.{0} @Int (nat_lit 181) (@instOfNat (nat_lit 181))) (nat_lit 0))::((Value.ref (nat_lit 457))::(Value.none::((Value.ref (nat_lit 458))::((Value.ref (nat_lit 459))::((Value.ref (nat_lit 460))::((Value.int (@OfNat.ofNat.{0} @Int (nat_lit 803) (@instOfNat (nat_lit 803))) (nat_lit 0))::((Value.int (@OfNat.ofNat.{0} @Int (nat_lit 206) (@instOfNat (nat_lit 206))) (nat_lit 0))::((Value.str (Str.ofString "/claim/cut.py") (nat_lit 804))::[]))))))))))))))))))))) (@List.toArray.{0} (@Option.{0} Value) []))) <|
  List.cons (Prod.mk (nat_lit 462) (Obj.mk (Value.type "function") (none) (Data.func (PySem.W.fnOf (Str.ofString "reason_against") (Str.ofString "reason_against") (defArgs TR.s_reason_against) (defBody TR.s_reason_against) (defScope TR.s_reason_against) Value.none Value.none Value.none (Value.str (Str.ofString "treetrain.deciding") (nat_lit 780)) (none) (Value.ref (nat_lit 461)) Value.none)) (@List.toArray.{0} (@Option.{0} Value) []))) <|
  List.cons (Prod.mk (nat_lit 468) (Obj.mk (Value.type "code") (none) (Data.fields (@List.toArray.{0} Value ((Value.str (Str.ofString "_are_opposed") (nat_lit 806))::((Value.str (Str.ofString "_are_opposed") (nat_lit 807))::((Value.str (Str.ofString "/claim/cut.py") (nat_lit 808))::((Value.int (@OfNat.ofNat.{0} @Int (nat_lit 219) (@instOfNat (nat_lit 219))) (nat_lit 0))::((Value.int (@OfNat.ofNat.{0} @Int (nat_lit 4) (@instOfNat (nat_lit 4))) (nat_lit 0))::((Value.int (@OfNat.ofNat.{0} @Int (nat_lit 0) (@instOfNat (nat_lit 0))) (nat_lit 0))::((Value.int (@OfNat.ofNat.{0} @Int (nat_lit 0) (@instOfNat (nat_lit 0))) (nat_lit 0))::((Value.int (@OfNat.ofNat.{0} @Int (nat_lit 3) (@instOfNat (nat_lit 3))) (nat_lit 0))::((Value.ref (nat_lit 463))::((Value.bool @Bool.true)::((Value.int (@OfNat.ofNat.{0} @Int (nat_lit 181) (@instOfNat (nat_lit 181))) (nat_lit 0))::((Value.ref (nat_lit 464))::(Value.none::((Value.ref (nat_lit 465))::((Value.ref (nat_lit 466))::((Value.ref (nat_lit 467))::((Value.int (@OfNat.ofNat.{0} @Int (nat_lit 813) (@instOfNat (nat_lit 813))) (nat_lit 0))::((Value.int (@OfNat.ofNat.{0} @Int (nat_lit 219) (@instOfNat (nat_lit 219))) (nat_lit 0))::((Value.str (Str.ofString "/claim/cut.py") (nat_lit 814))::[]))))))))))))))))))))) (@List.toArray.{0} (@Option.{0} Value) []))) <|
  List.cons (Prod.mk (nat_lit 469) (Obj.mk (Value.type "function") (none) (Data.func (PySem.W.fnOf (Str.ofString "_are_opposed") (Str.ofString "_are_opposed") (defArgs TR.s_are_opposed) (defBody TR.s_are_opposed) (defScope TR.s_are_opposed) Value.none Value.none Value.none (Value.str (Str.ofString "treetrain.deciding") (nat_lit 780)) (none) (Value.ref (nat_lit 468)) Value.none)) (@List.toArray.{0} (@Option.{0} Value) []))) <|
  List.cons (Prod.mk (nat_lit 475) (Obj.mk (Value.type "code") (none) (Data.fields (@List.toArray.{0} Value ((Value.str (Str.ofString "_rise") (nat_lit 816))::((Value.str (Str.ofString "_rise") (nat_lit 817))::((Value.str (Str.ofString "/claim/cut.py") (nat_lit 818))::((Value.int (@OfNat.ofNat.{0} @Int (nat_lit 221) (@instOfNat (nat_lit 221))) (nat_lit 0))::((Value.int (@OfNat.ofNat.{0} @Int (nat_lit 3) (@instOfNat (nat_lit 3))) (nat_lit 0))::((Value.int (@OfNat.ofNat.{0} @Int (nat_lit 0) (@instOfNat (nat_lit 0))) (nat_lit 0))::((Value.int (@OfNat.ofNat.{0} @Int (nat_lit 0) (@instOfNat (nat_lit 0))) (nat_lit 0))::((Value.int (@OfNat.ofNat.{0} @Int (nat_lit 3) (@instOfNat (nat_lit 3))) (nat_lit 0))::((Value.ref (nat_lit 470))::((Value.bool @Bool.true)::((Value.int (@OfNat.ofNat.{0} @Int (nat_lit 181) (@instOfNat (nat_lit 181))) (nat_lit 0))::((Value.ref (nat_lit 471))::(Value.none::((Value.ref (nat_lit 472))::((Value.ref (nat_lit 473))::((Value.ref (nat_lit 474))::((Value.int (@OfNat.ofNat.{0} @Int (nat_lit 824) (@instOfNat (nat_lit 824))) (nat_lit 0))::((Value.int (@OfNat.ofNat.{0} @Int (nat_lit 221) (@instOfNat (nat_lit 221))) (nat_lit 0))::((Value.str (Str.ofString "/claim/cut.py") (nat_lit 825))::[]))))))))))))))))))))) (@List.toArray.{0} (@Option.{0} Value) []))) <|
  List.cons (Prod.mk (nat_lit 476) (Obj.mk (Value.type "function") (none) (Data.func (PySem.W.fnOf (Str.ofString "_rise") (Str.ofString "_rise") (defArgs TR.s_rise) (defBody TR.s_rise) (defScope TR.s_rise) Value.none Value.none Value.none (Value.str (Str.ofString "treetrain.deciding") (nat_lit 780)) (none) (Value.ref (nat_lit 475)) Value.none)) (@List.toArray.{0} (@Option.{0} Value) []))) <|
  List.cons (Prod.mk (nat_lit 482) (Obj.mk (Value.type "code") (none) (Data.fields (@List.toArray.{0} Value ((Value.str (Str.ofString "fewest_moves") (nat_lit 831))::((Value.str (Str.ofString "fewest_moves") (nat_lit 832))::((Value.str (Str.ofString "/claim/cut.py") (nat_lit 833))::((Value.int (@OfNat.ofNat.{0} @Int (nat_lit 226) (@instOfNat (nat_lit 226))) (nat_lit 0))::((Value.int (@OfNat.ofNat.{0} @Int (nat_lit 3) (@instOfNat (nat_lit 3))) (nat_lit 0))::((Value.int (@OfNat.ofNat.{0} @Int (nat_lit 0) (@instOfNat (nat_lit 0))) (nat_lit 0))::((Value.int (@OfNat.ofNat.{0} @Int (nat_lit 0) (@instOfNat (nat_lit 0))) (nat_lit 0))::((Value.int (@OfNat.ofNat.{0} @Int (nat_lit 3) (@instOfNat (nat_lit 3))) (nat_lit 0))::((Value.ref (nat_lit 477))::((Value.bool @Bool.true)::((Value.int (@OfNat.ofNat.{0} @Int (nat_lit 181) (@instOfNat (nat_lit 181))) (nat_lit 0))::((Value.ref (nat_lit 478))::(Value.none::((Value.ref (nat_lit 479))::((Value.ref (nat_lit 480))::((Value.ref (nat_lit 481))::((Value.int (@OfNat.ofNat.{0} @Int (nat_lit 837) (@instOfNat (nat_lit 837))) (nat_lit 0))::((Value.int (@OfNat.ofNat.{0} @Int (nat_lit 226) (@instOfNat (nat_lit 226))) (nat_lit 0))::((Value.str (Str.ofString "/claim/cut.py") (nat_lit 838))::[]))))))))))))))))))))) (@List.toArray.{0} (@Option.{0} Value) []))) <|
  List.cons (Prod.mk (nat_lit 483) (Obj.mk (Value.type "function") (none) (Data.func (PySem.W.fnOf (Str.ofString "fewest_moves") (Str.ofString "fewest_moves") (defArgs TR.s_fewest_moves) (defBody TR.s_fewest_moves) (defScope TR.s_fewest_moves) Value.none Value.none Value.none (Value.str (Str.ofString "treetrain.ways") (nat_lit 827)) (none) (Value.ref (nat_lit 482)) Value.none)) (@List.toArray.{0} (@Option.{0} Value) []))) <|
  List.cons (Prod.mk (nat_lit 489) (Obj.mk (Value.type "code") (none) (Data.fields (@List.toArray.{0} Value ((Value.str (Str.ofString "shortest_way") (nat_lit 840))::((Value.str (Str.ofString "shortest_way") (nat_lit 841))::((Value.str (Str.ofString "/claim/cut.py") (nat_lit 842))::((Value.int (@OfNat.ofNat.{0} @Int (nat_lit 228) (@instOfNat (nat_lit 228))) (nat_lit 0))::((Value.int (@OfNat.ofNat.{0} @Int (nat_lit 3) (@instOfNat (nat_lit 3))) (nat_lit 0))::((Value.int (@OfNat.ofNat.{0} @Int (nat_lit 0) (@instOfNat (nat_lit 0))) (nat_lit 0))::((Value.int (@OfNat.ofNat.{0} @Int (nat_lit 0) (@instOfNat (nat_lit 0))) (nat_lit 0))::((Value.int (@OfNat.ofNat.{0} @Int (nat_lit 3) (@instOfNat (nat_lit 3))) (nat_lit 0))::((Value.ref (nat_lit 484))::((Value.bool @Bool.true)::((Value.int (@OfNat.ofNat.{0} @Int (nat_lit 181) (@instOfNat (nat_lit 181))) (nat_lit 0))::((Value.ref (nat_lit 485))::(Value.none::((Value.ref (nat_lit 486))::((Value.ref (nat_lit 487))::((Value.ref (nat_lit 488))::((Value.int (@OfNat.ofNat.{0} @Int (nat_lit 846) (@instOfNat (nat_lit 846))) (nat_lit 0))::((Value.int (@OfNat.ofNat.{0} @Int (nat_lit 228) (@instOfNat (nat_lit 228))) (nat_lit 0))::((Value.str (Str.ofString "/claim/cut.py") (nat_lit 847))::[]))))))))))))))))))))) (@List.toArray.{0} (@Option.{0} Value) []))) <|
  List.cons (Prod.mk (nat_lit 490) (Obj.mk (Value.type "function") (none) (Data.func (PySem.W.fnOf (Str.ofString "shortest_way") (Str.ofString "shortest_way") (defArgs TR.s_shortest_way) (defBody TR.s_shortest_way) (defScope TR.s_shortest_way) Value.none Value.none Value.none (Value.str (Str.ofString "treetrain.ways") (nat_lit 827)) (none) (Value.ref (nat_lit 489)) Value.none)) (@List.toArray.{0} (@Option.{0} Value) []))) <|
  List.cons (Prod.mk (nat_lit 496) (Obj.mk (Value.type "code") (none) (Data.fields (@List.toArray.{0} Value ((Value.str (Str.ofString "_check_way") (nat_lit 849))::((Value.str (Str.ofString "_check_way") (nat_lit 850))::((Value.str (Str.ofString "/claim/cut.py") (nat_lit 851))::((Value.int (@OfNat.ofNat.{0} @Int (nat_lit 234) (@instOfNat (nat_lit 234))) (nat_lit 0))::((Value.int (@OfNat.ofNat.{0} @Int (nat_lit 3) (@instOfNat (nat_lit 3))) (nat_lit 0))::((Value.int (@OfNat.ofNat.{0} @Int (nat_lit 0) (@instOfNat (nat_lit 0))) (nat_lit 0))::((Value.int (@OfNat.ofNat.{0} @Int (nat_lit 0) (@instOfNat (nat_lit 0))) (nat_lit 0))::((Value.int (@OfNat.ofNat.{0} @Int (nat_lit 3) (@instOfNat (nat_lit 3))) (nat_lit 0))::((Value.ref (nat_lit 491))::((Value.bool @Bool.true)::((Value.int (@OfNat.ofNat.{0} @Int (nat_lit 181) (@instOfNat (nat_lit 181))) (nat_lit 0))::((Value.ref (nat_lit 492))::(Value.none::((Value.ref (nat_lit 493))::((Value.ref (nat_lit 494))::((Value.ref (nat_lit 495))::((Value.int (@OfNat.ofNat.{0} @Int (nat_lit 856) (@instOfNat (nat_lit 856))) (nat_lit 0))::((Value.int (@OfNat.ofNat.{0} @Int (nat_lit 234) (@instOfNat (nat_lit 234))) (nat_lit 0))::((Value.str (Str.ofString "/claim/cut.py") (nat_lit 857))::[]))))))))))))))))))))) (@List.toArray.{0} (@Option.{0} Value) []))) <|
  List.cons (Prod.mk (nat_lit 497) (Obj.mk (Value.type "function") (none) (Data.func (PySem.W.fnOf (Str.ofString "_check_way") (Str.ofString "_check_way") (defArgs TR.s_check_way) (defBody TR.s_check_way) (defScope TR.s_check_way) Value.none Value.none Value.none (Value.str (Str.ofString "treetrain.ways") (nat_lit 827)) (none) (Value.ref (nat_lit 496)) Value.none)) (@List.toArray.{0} (@Option.{0} Value) []))) <|
  List.cons (Prod.mk (nat_lit 548) (Obj.mk (Value.type "code") (none) (Data.fields (@List.toArray.{0} Value ((Value.str (Str.ofString "joined") (nat_lit 926))::((Value.str (Str.ofString "joined") (nat_lit 927))::((Value.str (Str.ofString "/claim/cut.py") (nat_lit 928))::((Value.int (@OfNat.ofNat.{0} @Int (nat_lit 267) (@instOfNat (nat_lit 267))) (nat_lit 0))::((Value.int (@OfNat.ofNat.{0} @Int (nat_lit 3) (@instOfNat (nat_lit 3))) (nat_lit 0))::((Value.int (@OfNat.ofNat.{0} @Int (nat_lit 0) (@instOfNat (nat_lit 0))) (nat_lit 0))::((Value.int (@OfNat.ofNat.{0} @Int (nat_lit 0) (@instOfNat (nat_lit 0))) (nat_lit 0))::((Value.int (@OfNat.ofNat.{0} @Int (nat_lit 3) (@instOfNat (nat_lit 3))) (nat_lit 0))::((Value.ref (nat_lit 545))::((Value.bool @Bool.true)::((Value.int (@OfNat.ofNat.{0} @Int (nat_lit 181) (@instOfNat (nat_lit 181))) (nat_lit 0))::((Value.ref (nat_lit 546))::(Value.none::(Value.none::(Value.none::((Value.ref (nat_lit 547))::((Value.int (@OfNat.ofNat.{0} @Int (nat_lit 929) (@instOfNat (nat_lit 929))) (nat_lit 0))::((Value.int (@OfNat.ofNat.{0} @Int (nat_lit 267) (@instOfNat (nat_lit 267))) (nat_lit 0))::((Value.str (Str.ofString "/claim/cut.py") (nat_lit 930))::[]))))))))))))))))))))) (@List.toArray.{0} (@Option.{0} Value) []))) <|
  List.cons (Prod.mk (nat_lit 549) (Obj.mk (Value.type "function") (none) (Data.func (PySem.W.fnOf (Str.ofString "joined") (Str.ofString "joined") (defArgs TR.s_joined) (defBody TR.s_joined) (defScope TR.s_joined) Value.none Value.none Value.none (Value.str (Str.ofString "treetrain.tracks") (nat_lit 924)) (none) (Value.ref (nat_lit 548)) Value.none)) (@List.toArray.{0} (@Option.{0} Value) []))) <|
  List.cons (Prod.mk (nat_lit 555) (Obj.mk (Value.type "code") (none) (Data.fields (@List.toArray.{0} Value ((Value.str (Str.ofString "first_wrong_track") (nat_lit 932))::((Value.str (Str.ofString "first_wrong_track") (nat_lit 933))::((Value.str (Str.ofString "/claim/cut.py") (nat_lit 934))::((Value.int (@OfNat.ofNat.{0} @Int (nat_lit 269) (@instOfNat (nat_lit 269))) (nat_lit 0))::((Value.int (@OfNat.ofNat.{0} @Int (nat_lit 1) (@instOfNat (nat_lit 1))) (nat_lit 0))::((Value.int (@OfNat.ofNat.{0} @Int (nat_lit 0) (@instOfNat (nat_lit 0))) (nat_lit 0))::((Value.int (@OfNat.ofNat.{0} @Int (nat_lit 0) (@instOfNat (nat_lit 0))) (nat_lit 0))::((Value.int (@OfNat.ofNat.{0} @Int (nat_lit 3) (@instOfNat (nat_lit 3))) (nat_lit 0))::((Value.ref (nat_lit 550))::((Value.bool @Bool.true)::((Value.int (@OfNat.ofNat.{0} @Int (nat_lit 181) (@instOfNat (nat_lit 181))) (nat_lit 0))::((Value.ref (nat_lit 551))::(Value.none::((Value.ref (nat_lit 552))::((Value.ref (nat_lit 553))::((Value.ref (nat_lit 554))::((Value.int (@OfNat.ofNat.{0} @Int (nat_lit 942) (@instOfNat (nat_lit 942))) (nat_lit 0))::((Value.int (@OfNat.ofNat.{0} @Int (nat_lit 269) (@instOfNat (nat_lit 269))) (nat_lit 0))::((Value.str (Str.ofString "/claim/cut.py") (nat_lit 943))::[]))))))))))))))))))))) (@List.toArray.{0} (@Option.{0} Value) []))) <|
  List.cons (Prod.mk (nat_lit 556) (Obj.mk (Value.type "function") (none) (Data.func (PySem.W.fnOf (Str.ofString "first_wrong_track") (Str.ofString "first_wrong_track") (defArgs TR.s_first_wrong_track) (defBody TR.s_first_wrong_track) (defScope TR.s_first_wrong_track) Value.none Value.none Value.none (Value.str (Str.ofString "treetrain.tracks") (nat_lit 924)) (none) (Value.ref (nat_lit 555)) Value.none)) (@List.toArray.{0} (@Option.{0} Value) []))) <|
  List.cons (Prod.mk (nat_lit 581) (Obj.mk (Value.type "code") (none) (Data.fields (@List.toArray.{0} Value ((Value.str (Str.ofString "__init__") (nat_lit 988))::((Value.str (Str.ofString "Railway.__init__") (nat_lit 989))::((Value.str (Str.ofString "/claim/cut.py") (nat_lit 990))::((Value.int (@OfNat.ofNat.{0} @Int (nat_lit 305) (@instOfNat (nat_lit 305))) (nat_lit 0))::((Value.int (@OfNat.ofNat.{0} @Int (nat_lit 1) (@instOfNat (nat_lit 1))) (nat_lit 0))::((Value.int (@OfNat.ofNat.{0} @Int (nat_lit 0) (@instOfNat (nat_lit 0))) (nat_lit 0))::((Value.int (@OfNat.ofNat.{0} @Int (nat_lit 0) (@instOfNat (nat_lit 0))) (nat_lit 0))::((Value.int (@OfNat.ofNat.{0} @Int (nat_lit 7) (@instOfNat (nat_lit 7))) (nat_lit 0))::((Value.ref (nat_lit 578))::((Value.bool @Bool.true)::((Value.int (@OfNat.ofNat.{0} @Int (nat_lit 181) (@instOfNat (nat_lit 181))) (nat_lit 0))::((Value.ref (nat_lit 579))::(Value.none::(Value.none::(Value.none::((Value.ref (nat_lit 580))::((Value.int (@OfNat.ofNat.{0} @Int (nat_lit 991) (@instOfNat (nat_lit 991))) (nat_lit 0))::((Value.int (@OfNat.ofNat.{0} @Int (nat_lit 305) (@instOfNat (nat_lit 305))) (nat_lit 0))::((Value.str (Str.ofString "/claim/cut.py") (nat_lit 992))::[]))))))))))))))))))))) (@List.toArray.{0} (@Option.{0} Value) []))) <|
  List.cons (Prod.mk (nat_lit 582) (Obj.mk (Value.type "function") (none) (Data.func (PySem.W.fnOf (Str.ofString "__init__") (Str.ofString "Railway.__init__") (defArgs TR.s_Railway_init) (defBody TR.s_Railway_init) (defScope TR.s_Railway_init) Value.none Value.none Value.none (Value.str (Str.ofString "treetrain.railways") (nat_lit 972)) (none) (Value.ref (nat_lit 581)) Value.none)) (@List.toArray.{0} (@Option.{0} Value) []))) <|
  List.cons (Prod.mk (nat_lit 588) (Obj.mk (Value.type "code") (none) (Data.fields (@List.toArray.{0} Value ((Value.str (Str.ofString "of") (nat_lit 994))::((Value.str (Str.ofString "Railway.of") (nat_lit 995))::((Value.str (Str.ofString "/claim/cut.py") (nat_lit 996))::((Value.int (@OfNat.ofNat.{0} @Int (nat_lit 315) (@instOfNat (nat_lit 315))) (nat_lit 0))::((Value.int (@OfNat.ofNat.{0} @Int (nat_lit 2) (@instOfNat (nat_lit 2))) (nat_lit 0))::((Value.int (@OfNat.ofNat.{0} @Int (nat_lit 0) (@instOfNat (nat_lit 0))) (nat_lit 0))::((Value.int (@OfNat.ofNat.{0} @Int (nat_lit 0) (@instOfNat (nat_lit 0))) (nat_lit 0))::((Value.int (@OfNat.ofNat.{0} @Int (nat_lit 3) (@instOfNat (nat_lit 3))) (nat_lit 0))::((Value.ref (nat_lit 583))::((Value.bool @Bool.true)::((Value.int (@OfNat.ofNat.{0} @Int (nat_lit 181) (@instOfNat (nat_lit 181))) (nat_lit 0))::((Value.ref (nat_lit 584))::(Value.none::((Value.ref (nat_lit 585))::((Value.ref (nat_lit 586))::((Value.ref (nat_lit 587))::((Value.int (@OfNat.ofNat.{0} @Int (nat_lit 999) (@instOfNat (nat_lit 999))) (nat_lit 0))::((Value.int (@OfNat.ofNat.{0} @Int (nat_lit 315) (@instOfNat (nat_lit 315))) (nat_lit 0))::((Value.str (Str.ofString "/claim/cut.py") (nat_lit 1000))::[]))))))))))))))))))))) (@List.toArray.{0} (@Option.{0} Value) []))) <|
  List.cons (Prod.mk (nat_lit 589) (Obj.mk (Value.type "function") (none) (Data.func (PySem.W.fnOf (Str.ofString "of") (Str.ofString "Railway.of") (defArgs TR.s_Railway_of) (defBody TR.s_Railway_of) (defScope TR.s_Railway_of) Value.none Value.none Value.none (Value.str (Str.ofString "treetrain.railways") (nat_lit 972)) (@Option.some.{0} @Nat (nat_lit 592)) (Value.ref (nat_lit 588)) Value.none)) (@List.toArray.{0} (@Option.{0} Value) []))) <|
  List.cons (Prod.mk (nat_lit 591) (Obj.mk (Value.type "classmethod") (@Option.some.{0} @Nat (nat_lit 590)) (Data.fields (@List.toArray.{0} Value ((Value.ref (nat_lit 589))::((Value.bool @Bool.false)::[])))) (@List.toArray.{0} (@Option.{0} Value) []))) <|
  List.cons (Prod.mk (nat_lit 636) (Obj.mk (Value.type "code") (none) (Data.fields (@List.toArray.{0} Value ((Value.str (Str.ofString "size") (nat_lit 1093))::((Value.str (Str.ofString "Railway.size") (nat_lit 1094))::((Value.str (Str.ofString "/claim/cut.py") (nat_lit 1095))::((Value.int (@OfNat.ofNat.{0} @Int (nat_lit 342) (@instOfNat (nat_lit 342))) (nat_lit 0))::((Value.int (@OfNat.ofNat.{0} @Int (nat_lit 1) (@instOfNat (nat_lit 1))) (nat_lit 0))::((Value.int (@OfNat.ofNat.{0} @Int (nat_lit 0) (@instOfNat (nat_lit 0))) (nat_lit 0))::((Value.int (@OfNat.ofNat.{0} @Int (nat_lit 0) (@instOfNat (nat_lit 0))) (nat_lit 0))::((Value.int (@OfNat.ofNat.{0} @Int (nat_lit 3) (@instOfNat (nat_lit 3))) (nat_lit 0))::((Value.ref (nat_lit 631))::((Value.bool @Bool.true)::((Value.int (@OfNat.ofNat.{0} @Int (nat_lit 181) (@instOfNat (nat_lit 181))) (nat_lit 0))::((Value.ref (nat_lit 632))::(Value.none::((Value.ref (nat_lit 633))::((Value.ref (nat_lit 634))::((Value.ref (nat_lit 635))::((Value.int (@OfNat.ofNat.{0} @Int (nat_lit 1097) (@instOfNat (nat_lit 1097))) (nat_lit 0))::((Value.int (@OfNat.ofNat.{0} @Int (nat_lit 342) (@instOfNat (nat_lit 342))) (nat_lit 0))::((Value.str (Str.ofString "/claim/cut.py") (nat_lit 1098))::[]))))))))))))))))))))) (@List.toArray.{0} (@Option.{0} Value) []))) <|
  List.cons (Prod.mk (nat_lit 637) (Obj.mk (Value.type "function") (none) (Data.func (PySem.W.fnOf (Str.ofString "size") (Str.ofString "Railway.size") (defArgs TR.s_Railway_size) (defBody TR.s_Railway_size) (defScope TR.s_Railway_size) Value.none Value.none Value.none (Value.str (Str.ofString "treetrain.railways") (nat_lit 972)) (none) (Value.ref (nat_lit 636)) Value.none)) (@List.toArray.{0} (@Option.{0} Value) []))) <|
  List.cons (Prod.mk (nat_lit 638) (Obj.mk (Value.type "property") (none) (Data.fields (@List.toArray.{0} Value ((Value.ref (nat_lit 637))::(Value.none::(Value.none::(Value.none::((Value.str (Str.ofString "size") (nat_lit 1100))::((Value.bool @Bool.false)::[])))))))) (@List.toArray.{0} (@Option.{0} Value) []))) <|
  List.cons (Prod.mk (nat_lit 652) (Obj.mk (Value.type "code") (none) (Data.fields (@List.toArray.{0} Value ((Value.str (Str.ofString "neighbours") (nat_lit 1109))::((Value.str (Str.ofString "Railway.neighbours") (nat_lit 1110))::((Value.str (Str.ofString "/claim/cut.py") (nat_lit 1111))::((Value.int (@OfNat.ofNat.{0} @Int (nat_lit 350) (@instOfNat (nat_lit 350))) (nat_lit 0))::((Value.int (@OfNat.ofNat.{0} @Int (nat_lit 2) (@instOfNat (nat_lit 2))) (nat_lit 0))::((Value.int (@OfNat.ofNat.{0} @Int (nat_lit 0) (@instOfNat (nat_lit 0))) (nat_lit 0))::((Value.int (@OfNat.ofNat.{0} @Int (nat_lit 0) (@instOfNat (nat_lit 0))) (nat_lit 0))::((Value.int (@OfNat.ofNat.{0} @Int (nat_lit 3) (@instOfNat (nat_lit 3))) (nat_lit 0))::((Value.ref (nat_lit 647))::((Value.bool @Bool.true)::((Value.int (@OfNat.ofNat.{0} @Int (nat_lit 181) (@instOfNat (nat_lit 181))) (nat_lit 0))::((Value.ref (nat_lit 648))::(Value.none::((Value.ref (nat_lit 649))::((Value.ref (nat_lit 650))::((Value.ref (nat_lit 651))::((Value.int (@OfNat.ofNat.{0} @Int (nat_lit 1114) (@instOfNat (nat_lit 1114))) (nat_lit 0))::((Value.int (@OfNat.ofNat.{0} @Int (nat_lit 350) (@instOfNat (nat_lit 350))) (nat_lit 0))::((Value.str (Str.ofString "/claim/cut.py") (nat_lit 1115))::[]))))))))))))))))))))) (@List.toArray.{0} (@Option.{0} Value) []))) <|
  List.cons (Prod.mk (nat_lit 653) (Obj.mk (Value.type "function") (none) (Data.func (PySem.W.fnOf (Str.ofString "neighbours") (Str.ofString "Railway.neighbours") (defArgs TR.s_Railway_neighbours) (defBody TR.s_Railway_neighbours) (defScope TR.s_Railway_neighbours) Value.none Value.none Value.none (Value.str (Str.ofString "treetrain.railways") (nat_lit 972)) (none) (Value.ref (nat_lit 652)) Value.none)) (@List.toArray.{0} (@Option.{0} Value) []))) <|
  List.cons (Prod.mk (nat_lit 659) (Obj.mk (Value.type "code") (none) (Data.fields (@List.toArray.{0} Value ((Value.str (Str.ofString "distance") (nat_lit 1117))::((Value.str (Str.ofString "Railway.distance") (nat_lit 1118))::((Value.str (Str.ofString "/claim/cut.py") (nat_lit 1119))::((Value.int (@OfNat.ofNat.{0} @Int (nat_lit 354) (@instOfNat (nat_lit 354))) (nat_lit 0))::((Value.int (@OfNat.ofNat.{0} @Int (nat_lit 3) (@instOfNat (nat_lit 3))) (nat_lit 0))::((Value.int (@OfNat.ofNat.{0} @Int (nat_lit 0) (@instOfNat (nat_lit 0))) (nat_lit 0))::((Value.int (@OfNat.ofNat.{0} @Int (nat_lit 0) (@instOfNat (nat_lit 0))) (nat_lit 0))::((Value.int (@OfNat.ofNat.{0} @Int (nat_lit 3) (@instOfNat (nat_lit 3))) (nat_lit 0))::((Value.ref (nat_lit 654))::((Value.bool @Bool.true)::((Value.int (@OfNat.ofNat.{0} @Int (nat_lit 181) (@instOfNat (nat_lit 181))) (nat_lit 0))::((Value.ref (nat_lit 655))::(Value.none::((Value.ref (nat_lit 656))::((Value.ref (nat_lit 657))::((Value.ref (nat_lit 658))::((Value.int (@OfNat.ofNat.{0} @Int (nat_lit 1123) (@instOfNat (nat_lit 1123))) (nat_lit 0))::((Value.int (@OfNat.ofNat.{0} @Int (nat_lit 354) (@instOfNat (nat_lit 354))) (nat_lit 0))::((Value.str (Str.ofString "/claim/cut.py") (nat_lit 1124))::[]))))))))))))))))))))) (@List.toArray.{0} (@Option.{0} Value) []))) <|
  List.cons (Prod.mk (nat_lit 660) (Obj.mk (Value.type "function") (none) (Data.func (PySem.W.fnOf (Str.ofString "distance") (Str.ofString "Railway.distance") (defArgs TR.s_Railway_distance) (defBody TR.s_Railway_distance) (defScope TR.s_Railway_distance) Value.none Value.none Value.none (Value.str (Str.ofString "treetrain.railways") (nat_lit 972)) (none) (Value.ref (nat_lit 659)) Value.none)) (@List.toArray.{0} (@Option.{0} Value) []))) <|
  List.cons (Prod.mk (nat_lit 666) (Obj.mk (Value.type "code") (none) (Data.fields (@List.toArray.{0} Value ((Value.str (Str.ofString "path") (nat_lit 1126))::((Value.str (Str.ofString "Railway.path") (nat_lit 1127))::((Value.str (Str.ofString "/claim/cut.py") (nat_lit 1128))::((Value.int (@OfNat.ofNat.{0} @Int (nat_lit 357) (@instOfNat (nat_lit 357))) (nat_lit 0))::((Value.int (@OfNat.ofNat.{0} @Int (nat_lit 3) (@instOfNat (nat_lit 3))) (nat_lit 0))::((Value.int (@OfNat.ofNat.{0} @Int (nat_lit 0) (@instOfNat (nat_lit 0))) (nat_lit 0))::((Value.int (@OfNat.ofNat.{0} @Int (nat_lit 0) (@instOfNat (nat_lit 0))) (nat_lit 0))::((Value.int (@OfNat.ofNat.{0} @Int (nat_lit 3) (@instOfNat (nat_lit 3))) (nat_lit 0))::((Value.ref (nat_lit 661))::((Value.bool @Bool.true)::((Value.int (@OfNat.ofNat.{0} @Int (nat_lit 181) (@instOfNat (nat_lit 181))) (nat_lit 0))::((Value.ref (nat_lit 662))::(Value.none::((Value.ref (nat_lit 663))::((Value.ref (nat_lit 664))::((Value.ref (nat_lit 665))::((Value.int (@OfNat.ofNat.{0} @Int (nat_lit 1134) (@instOfNat (nat_lit 1134))) (nat_lit 0))::((Value.int (@OfNat.ofNat.{0} @Int (nat_lit 357) (@instOfNat (nat_lit 357))) (nat_lit 0))::((Value.str (Str.ofString "/claim/cut.py") (nat_lit 1135))::[]))))))))))))))))))))) (@List.toArray.{0} (@Option.{0} Value) []))) <|
  List.cons (Prod.mk (nat_lit 667) (Obj.mk (Value.type "function") (none) (Data.func (PySem.W.fnOf (Str.ofString "path") (Str.ofString "Railway.path") (defArgs TR.s_Railway_path) (defBody TR.s_Railway_path) (defScope TR.s_Railway_path) Value.none Value.none Value.none (Value.str (Str.ofString "treetrain.railways") (nat_lit 972)) (none) (Value.ref (nat_lit 666)) Value.none)) (@List.toArray.{0} (@Option.{0} Value) []))) <|
  List.cons (Prod.mk (nat_lit 676) (Obj.mk (Value.type "dict") (none) (Data.dict (@List.toArray.{0} DictEntry ((DictEntry.mk (PyData.keyHash P (Str.ofString "__module__")) (Value.str (Str.ofString "__module__") (nat_lit 981)) (Value.str (Str.ofString "treetrain.railways") (nat_lit 972)))::((DictEntry.mk (PyData.keyHash P (Str.ofString "__firstlineno__")) (Value.str (Str.ofString "__firstlineno__") (nat_lit 985)) (Value.int (@OfNat.ofNat.{0} @Int (nat_lit 302) (@instOfNat (nat_lit 302))) (nat_lit 984)))::((DictEntry.mk (PyData.keyHash P (Str.ofString "MOST_STATIONS")) (Value.str (Str.ofString "MOST_STATIONS") (nat_lit 987)) (Value.int (@OfNat.ofNat.{0} @Int (nat_lit 100) (@instOfNat (nat_lit 100))) (nat_lit 986)))::((DictEntry.mk (PyData.keyHash P (Str.ofString "__init__")) (Value.str (Str.ofString "__init__") (nat_lit 993)) (Value.ref (nat_lit 582)))::((DictEntry.mk (PyData.keyHash P (Str.ofString "of")) (Value.str (Str.ofString "of") (nat_lit 1013)) (Value.ref (nat_lit 591)))::((DictEntry.mk (PyData.keyHash P (Str.ofString "is_tracks")) (Value.str (Str.ofString "is_tracks") (nat_lit 1032)) (Value.ref (nat_lit 601)))::((DictEntry.mk (PyData.keyHash P (Str.ofString "line")) (Value.str (Str.ofString "line") (nat_lit 1050)) (Value.ref (nat_lit 609)))::((DictEntry.mk (PyData.keyHash P (Str.ofString "star")) (Value.str (Str.ofString "star") (nat_lit 1070)) (Value.ref (nat_lit 619)))::((DictEntry.mk (PyData.keyHash P (Str.ofString "read")) (Value.str (Str.ofString "read") (nat_lit 1092)) (Value.ref (nat_lit 629)))::((DictEntry.mk (PyData.keyHash P (Str.ofString "size")) (Value.str (Str.ofString "size") (nat_lit 1100)) (Value.ref (nat_lit 638)))::((DictEntry.mk (PyData.keyHash P (Str.ofString "tracks")) (Value.str (Str.ofString "tracks") (nat_lit 1108)) (Value.ref (nat_lit 646)))::((DictEntry.mk (PyData.keyHash P (Str.ofString "neighbours")) (Value.str (Str.ofString "neighbours") (nat_lit 1116)) (Value.ref (nat_lit 653)))::((DictEntry.mk (PyData.keyHash P (Str.ofString "distance")) (Value.str (Str.ofString "distance") (nat_lit 1125)) (Value.ref (nat_lit 660)))::((DictEntry.mk (PyData.keyHash P (Str.ofString "path")) (Value.str (Str.ofString "path") (nat_lit 1136)) (Value.ref (nat_lit 667)))::((DictEntry.mk (PyData.keyHash P (Str.ofString "is_same")) (Value.str (Str.ofString "is_same") (nat_lit 1144)) (Value.ref (nat_lit 674)))::((DictEntry.mk (PyData.keyHash P (Str.ofString "__static_attributes__")) (Value.str (Str.ofString "__static_attributes__") (nat_lit 1149)) (Value.ref (nat_lit 675)))::((DictEntry.mk (PyData.keyHash P (Str.ofString "__dict__")) (Value.str (Str.ofString "__dict__") (nat_lit 1151)) (Value.ref (nat_lit 678)))::((DictEntry.mk (PyData.keyHash P (Str.ofString "__weakref__")) (Value.str (Str.ofString "__weakref__") (nat_lit 1153)) (Value.ref (nat_lit 679)))::((DictEntry.mk (PyData.keyHash P (Str.ofString "__doc__")) (Value.str (Str.ofString "__doc__") (nat_lit 1154)) Value.none)::[])))))))))))))))))))) (nat_lit 4)) (@List.toArray.{0} (@Option.{0} Value) []))) <|
  List.cons (Prod.mk (nat_lit 677) (Obj.mk (Value.type "type") (none) (Data.cls (ClassData.mk (Str.ofString "Railway") ((Value.type "object")::[]) ((Value.ref (nat_lit 677))::((Value.type "object")::[])) (nat_lit 676) (Str.ofString "Railway") @Bool.true [] [] @Bool.false (@Option.none.{0} @Bool) @Bool.false)) (@List.toArray.{0} (@Option.{0} Value) ((@Option.none.{0} Value)::((@Option.none.{0} Value)::((@Option.some.{0} Value (Value.str (Str.ofString "Railway") (nat_lit 974)))::((@Option.some.{0} Value (Value.str (Str.ofString "Railway") (nat_lit 982)))::((@Option.some.{0} Value (Value.builtin "object.__new__"))::((@Option.some.{0} Value (Value.bool @Bool.true))::[]))))))))) <|
  List.cons (Prod.mk (nat_lit 692) (Obj.mk (Value.type "code") (none) (Data.fields (@List.toArray.{0} Value ((Value.str (Str.ofString "_neighbours_of") (nat_lit 1164))::((Value.str (Str.ofString "_neighbours_of") (nat_lit 1165))::((Value.str (Str.ofString "/claim/cut.py") (nat_lit 1166))::((Value.int (@OfNat.ofNat.{0} @Int (nat_lit 375) (@instOfNat (nat_lit 375))) (nat_lit 0))::((Value.int (@OfNat.ofNat.{0} @Int (nat_lit 1) (@instOfNat (nat_lit 1))) (nat_lit 0))::((Value.int (@OfNat.ofNat.{0} @Int (nat_lit 0) (@instOfNat (nat_lit 0))) (nat_lit 0))::((Value.int (@OfNat.ofNat.{0} @Int (nat_lit 0) (@instOfNat (nat_lit 0))) (nat_lit 0))::((Value.int (@OfNat.ofNat.{0} @Int (nat_lit 3) (@instOfNat (nat_lit 3))) (nat_lit 0))::((Value.ref (nat_lit 689))::((Value.bool @Bool.true)::((Value.int (@OfNat.ofNat.{0} @Int (nat_lit 181) (@instOfNat (nat_lit 181))) (nat_lit 0))::((Value.ref (nat_lit 690))::(Value.none::(Value.none::(Value.none::((Value.ref (nat_lit 691))::((Value.int (@OfNat.ofNat.{0} @Int (nat_lit 1167) (@instOfNat (nat_lit 1167))) (nat_lit 0))::((Value.int (@OfNat.ofNat.{0} @Int (nat_lit 375) (@instOfNat (nat_lit 375))) (nat_lit 0))::((Value.str (Str.ofString "/claim/cut.py") (nat_lit 1168))::[]))))))))))))))))))))) (@List.toArray.{0} (@Option.{0} Value) []))) <|
  List.cons (Prod.mk (nat_lit 693) (Obj.mk (Value.type "function") (none) (Data.func (PySem.W.fnOf (Str.ofString "_neighbours_of") (Str.ofString "_neighbours_of") (defArgs TR.s_neighbours_of) (defBody TR.s_neighbours_of) (defScope TR.s_neighbours_of) Value.none Value.none Value.none (Value.str (Str.ofString "treetrain.railways") (nat_lit 972)) (none) (Value.ref (nat_lit 692)) Value.none)) (@List.toArray.{0} (@Option.{0} Value) []))) <|
  List.cons (Prod.mk (nat_lit 697) (Obj.mk (Value.type "code") (none) (Data.fields (@List.toArray.{0} Value ((Value.str (Str.ofString "_places_below_first") (nat_lit 1170))::((Value.str (Str.ofString "_places_below_first") (nat_lit 1171))::((Value.str (Str.ofString "/claim/cut.py") (nat_lit 1172))::((Value.int (@OfNat.ofNat.{0} @Int (nat_lit 381) (@instOfNat (nat_lit 381))) (nat_lit 0))::((Value.int (@OfNat.ofNat.{0} @Int (nat_lit 1) (@instOfNat (nat_lit 1))) (nat_lit 0))::((Value.int (@OfNat.ofNat.{0} @Int (nat_lit 0) (@instOfNat (nat_lit 0))) (nat_lit 0))::((Value.int (@OfNat.ofNat.{0} @Int (nat_lit 0) (@instOfNat (nat_lit 0))) (nat_lit 0))::((Value.int (@OfNat.ofNat.{0} @Int (nat_lit 3) (@instOfNat (nat_lit 3))) (nat_lit 0))::((Value.ref (nat_lit 694))::((Value.bool @Bool.true)::((Value.int (@OfNat.ofNat.{0} @Int (nat_lit 181) (@instOfNat (nat_lit 181))) (nat_lit 0))::((Value.ref (nat_lit 695))::(Value.none::(Value.none::(Value.none::((Value.ref (nat_lit 696))::((Value.int (@OfNat.ofNat.{0} @Int (nat_lit 1173) (@instOfNat (nat_lit 1173))) (nat_lit 0))::((Value.int (@OfNat.ofNat.{0} @Int (nat_lit 381) (@instOfNat (nat_lit 381))) (nat_lit 0))::((Value.str (Str.ofString "/claim/cut.py") (nat_lit 1174))::[]))))))))))))))))))))) (@List.toArray.{0} (@Option.{0} Value) []))) <|
  List.cons (Prod.mk (nat_lit 698) (Obj.mk (Value.type "function") (none) (Data.func (PySem.W.fnOf (Str.ofString "_places_below_first") (Str.ofString "_places_below_first") (defArgs TR.s_places_below_first) (defBody TR.s_places_below_first) (defScope TR.s_places_below_first) Value.none Value.none Value.none (Value.str (Str.ofString "treetrain.railways") (nat_lit 972)) (none) (Value.ref (nat_lit 697)) Value.none)) (@List.toArray.{0} (@Option.{0} Value) []))) <|
  List.cons (Prod.mk (nat_lit 704) (Obj.mk (Value.type "code") (none) (Data.fields (@List.toArray.{0} Value ((Value.str (Str.ofString "_law_begin") (nat_lit 1178))::((Value.str (Str.ofString "_law_begin") (nat_lit 1179))::((Value.str (Str.ofString "/claim/cut.py") (nat_lit 1180))::((Value.int (@OfNat.ofNat.{0} @Int (nat_lit 396) (@instOfNat (nat_lit 396))) (nat_lit 0))::((Value.int (@OfNat.ofNat.{0} @Int (nat_lit 1) (@instOfNat (nat_lit 1))) (nat_lit 0))::((Value.int (@OfNat.ofNat.{0} @Int (nat_lit 0) (@instOfNat (nat_lit 0))) (nat_lit 0))::((Value.int (@OfNat.ofNat.{0} @Int (nat_lit 0) (@instOfNat (nat_lit 0))) (nat_lit 0))::((Value.int (@OfNat.ofNat.{0} @Int (nat_lit 3) (@instOfNat (nat_lit 3))) (nat_lit 0))::((Value.ref (nat_lit 699))::((Value.bool @Bool.true)::((Value.int (@OfNat.ofNat.{0} @Int (nat_lit 181) (@instOfNat (nat_lit 181))) (nat_lit 0))::((Value.ref (nat_lit 700))::(Value.none::((Value.ref (nat_lit 701))::((Value.ref (nat_lit 702))::((Value.ref (nat_lit 703))::((Value.int (@OfNat.ofNat.{0} @Int (nat_lit 1182) (@instOfNat (nat_lit 1182))) (nat_lit 0))::((Value.int (@OfNat.ofNat.{0} @Int (nat_lit 396) (@instOfNat (nat_lit 396))) (nat_lit 0))::((Value.str (Str.ofString "/claim/cut.py") (nat_lit 1183))::[]))))))))))))))))))))) (@List.toArray.{0} (@Option.{0} Value) []))) <|
  List.cons (Prod.mk (nat_lit 705) (Obj.mk (Value.type "function") (none) (Data.func (PySem.W.fnOf (Str.ofString "_law_begin") (Str.ofString "_law_begin") (defArgs TR.s_law_begin) (defBody TR.s_law_begin) (defScope TR.s_law_begin) Value.none Value.none Value.none (Value.str (Str.ofString "law_treetrain_k34_fewest_moves") (nat_lit 1176)) (none) (Value.ref (nat_lit 704)) Value.none)) (@List.toArray.{0} (@Option.{0} Value) []))) <|
  List.cons (Prod.mk (nat_lit 711) (Obj.mk (Value.type "code") (none) (Data.fields (@List.toArray.{0} Value ((Value.str (Str.ofString "_law_mixed") (nat_lit 1185))::((Value.str (Str.ofString "_law_mixed") (nat_lit 1186))::((Value.str (Str.ofString "/claim/cut.py") (nat_lit 1187))::((Value.int (@OfNat.ofNat.{0} @Int (nat_lit 398) (@instOfNat (nat_lit 398))) (nat_lit 0))::((Value.int (@OfNat.ofNat.{0} @Int (nat_lit 2) (@instOfNat (nat_lit 2))) (nat_lit 0))::((Value.int (@OfNat.ofNat.{0} @Int (nat_lit 0) (@instOfNat (nat_lit 0))) (nat_lit 0))::((Value.int (@OfNat.ofNat.{0} @Int (nat_lit 0) (@instOfNat (nat_lit 0))) (nat_lit 0))::((Value.int (@OfNat.ofNat.{0} @Int (nat_lit 3) (@instOfNat (nat_lit 3))) (nat_lit 0))::((Value.ref (nat_lit 706))::((Value.bool @Bool.true)::((Value.int (@OfNat.ofNat.{0} @Int (nat_lit 181) (@instOfNat (nat_lit 181))) (nat_lit 0))::((Value.ref (nat_lit 707))::(Value.none::((Value.ref (nat_lit 708))::((Value.ref (nat_lit 709))::((Value.ref (nat_lit 710))::((Value.int (@OfNat.ofNat.{0} @Int (nat_lit 1191) (@instOfNat (nat_lit 1191))) (nat_lit 0))::((Value.int (@OfNat.ofNat.{0} @Int (nat_lit 398) (@instOfNat (nat_lit 398))) (nat_lit 0))::((Value.str (Str.ofString "/claim/cut.py") (nat_lit 1192))::[]))))))))))))))))))))) (@List.toArray.{0} (@Option.{0} Value) []))) <|
  List.cons (Prod.mk (nat_lit 712) (Obj.mk (Value.type "function") (none) (Data.func (PySem.W.fnOf (Str.ofString "_law_mixed") (Str.ofString "_law_mixed") (defArgs TR.s_law_mixed) (defBody TR.s_law_mixed) (defScope TR.s_law_mixed) Value.none Value.none Value.none (Value.str (Str.ofString "law_treetrain_k34_fewest_moves") (nat_lit 1176)) (none) (Value.ref (nat_lit 711)) Value.none)) (@List.toArray.{0} (@Option.{0} Value) []))) <|
  List.cons (Prod.mk (nat_lit 718) (Obj.mk (Value.type "code") (none) (Data.fields (@List.toArray.{0} Value ((Value.str (Str.ofString "_law_next") (nat_lit 1194))::((Value.str (Str.ofString "_law_next") (nat_lit 1195))::((Value.str (Str.ofString "/claim/cut.py") (nat_lit 1196))::((Value.int (@OfNat.ofNat.{0} @Int (nat_lit 402) (@instOfNat (nat_lit 402))) (nat_lit 0))::((Value.int (@OfNat.ofNat.{0} @Int (nat_lit 2) (@instOfNat (nat_lit 2))) (nat_lit 0))::((Value.int (@OfNat.ofNat.{0} @Int (nat_lit 0) (@instOfNat (nat_lit 0))) (nat_lit 0))::((Value.int (@OfNat.ofNat.{0} @Int (nat_lit 0) (@instOfNat (nat_lit 0))) (nat_lit 0))::((Value.int (@OfNat.ofNat.{0} @Int (nat_lit 3) (@instOfNat (nat_lit 3))) (nat_lit 0))::((Value.ref (nat_lit 713))::((Value.bool @Bool.true)::((Value.int (@OfNat.ofNat.{0} @Int (nat_lit 181) (@instOfNat (nat_lit 181))) (nat_lit 0))::((Value.ref (nat_lit 714))::(Value.none::((Value.ref (nat_lit 715))::((Value.ref (nat_lit 716))::((Value.ref (nat_lit 717))::((Value.int (@OfNat.ofNat.{0} @Int (nat_lit 1202) (@instOfNat (nat_lit 1202))) (nat_lit 0))::((Value.int (@OfNat.ofNat.{0} @Int (nat_lit 402) (@instOfNat (nat_lit 402))) (nat_lit 0))::((Value.str (Str.ofString "/claim/cut.py") (nat_lit 1203))::[]))))))))))))))))))))) (@List.toArray.{0} (@Option.{0} Value) []))) <|
  List.cons (Prod.mk (nat_lit 719) (Obj.mk (Value.type "function") (none) (Data.func (PySem.W.fnOf (Str.ofString "_law_next") (Str.ofString "_law_next") (defArgs TR.s_law_next) (defBody TR.s_law_next) (defScope TR.s_law_next) Value.none Value.none Value.none (Value.str (Str.ofString "law_treetrain_k34_fewest_moves") (nat_lit 1176)) (none) (Value.ref (nat_lit 718)) Value.none)) (@List.toArray.{0} (@Option.{0} Value) []))) <|
  List.cons (Prod.mk (nat_lit 725) (Obj.mk (Value.type "code") (none) (Data.fields (@List.toArray.{0} Value ((Value.str (Str.ofString "_law_tracks") (nat_lit 1205))::((Value.str (Str.ofString "_law_tracks") (nat_lit 1206))::((Value.str (Str.ofString "/claim/cut.py") (nat_lit 1207))::((Value.int (@OfNat.ofNat.{0} @Int (nat_lit 415) (@instOfNat (nat_lit 415))) (nat_lit 0))::((Value.int (@OfNat.ofNat.{0} @Int (nat_lit 2) (@instOfNat (nat_lit 2))) (nat_lit 0))::((Value.int (@OfNat.ofNat.{0} @Int (nat_lit 0) (@instOfNat (nat_lit 0))) (nat_lit 0))::((Value.int (@OfNat.ofNat.{0} @Int (nat_lit 0) (@instOfNat (nat_lit 0))) (nat_lit 0))::((Value.int (@OfNat.ofNat.{0} @Int (nat_lit 3) (@instOfNat (nat_lit 3))) (nat_lit 0))::((Value.ref (nat_lit 720))::((Value.bool @Bool.true)::((Value.int (@OfNat.ofNat.{0} @Int (nat_lit 181) (@instOfNat (nat_lit 181))) (nat_lit 0))::((Value.ref (nat_lit 721))::(Value.none::((Value.ref (nat_lit 722))::((Value.ref (nat_lit 723))::((Value.ref (nat_lit 724))::((Value.int (@OfNat.ofNat.{0} @Int (nat_lit 1217) (@instOfNat (nat_lit 1217))) (nat_lit 0))::((Value.int (@OfNat.ofNat.{0} @Int (nat_lit 415) (@instOfNat (nat_lit 415))) (nat_lit 0))::((Value.str (Str.ofString "/claim/cut.py") (nat_lit 1218))::[]))))))))))))))))))))) (@List.toArray.{0} (@Option.{0} Value) []))) <|
  List.cons (Prod.mk (nat_lit 726) (Obj.mk (Value.type "function") (none) (Data.func (PySem.W.fnOf (Str.ofString "_law_tracks") (Str.ofString "_law_tracks") (defArgs TR.s_law_tracks) (defBody TR.s_law_tracks) (defScope TR.s_law_tracks) Value.none Value.none Value.none (Value.str (Str.ofString "law_treetrain_k34_fewest_moves") (nat_lit 1176)) (none) (Value.ref (nat_lit 725)) Value.none)) (@List.toArray.{0} (@Option.{0} Value) []))) <|
  List.cons (Prod.mk (nat_lit 730) (Obj.mk (Value.type "code") (none) (Data.fields (@List.toArray.{0} Value ((Value.str (Str.ofString "_law_links") (nat_lit 1220))::((Value.str (Str.ofString "_law_links") (nat_lit 1221))::((Value.str (Str.ofString "/claim/cut.py") (nat_lit 1222))::((Value.int (@OfNat.ofNat.{0} @Int (nat_lit 423) (@instOfNat (nat_lit 423))) (nat_lit 0))::((Value.int (@OfNat.ofNat.{0} @Int (nat_lit 1) (@instOfNat (nat_lit 1))) (nat_lit 0))::((Value.int (@OfNat.ofNat.{0} @Int (nat_lit 0) (@instOfNat (nat_lit 0))) (nat_lit 0))::((Value.int (@OfNat.ofNat.{0} @Int (nat_lit 0) (@instOfNat (nat_lit 0))) (nat_lit 0))::((Value.int (@OfNat.ofNat.{0} @Int (nat_lit 3) (@instOfNat (nat_lit 3))) (nat_lit 0))::((Value.ref (nat_lit 727))::((Value.bool @Bool.true)::((Value.int (@OfNat.ofNat.{0} @Int (nat_lit 181) (@instOfNat (nat_lit 181))) (nat_lit 0))::((Value.ref (nat_lit 728))::(Value.none::(Value.none::(Value.none::((Value.ref (nat_lit 729))::((Value.int (@OfNat.ofNat.{0} @Int (nat_lit 1223) (@instOfNat (nat_lit 1223))) (nat_lit 0))::((Value.int (@OfNat.ofNat.{0} @Int (nat_lit 423) (@instOfNat (nat_lit 423))) (nat_lit 0))::((Value.str (Str.ofString "/claim/cut.py") (nat_lit 1224))::[]))))))))))))))))))))) (@List.toArray.{0} (@Option.{0} Value) []))) <|
  List.cons (Prod.mk (nat_lit 731) (Obj.mk (Value.type "function") (none) (Data.func (PySem.W.fnOf (Str.ofString "_law_links") (Str.ofString "_law_links") (defArgs TR.s_law_links) (defBody TR.s_law_links) (defScope TR.s_law_links) Value.none Value.none Value.none (Value.str (Str.ofString "law_treetrain_k34_fewest_moves") (nat_lit 1176)) (none) (Value.ref (nat_lit 730)) Value.none)) (@List.toArray.{0} (@Option.{0} Value) []))) <|
  List.cons (Prod.mk (nat_lit 737) (Obj.mk (Value.type "code") (none) (Data.fields (@List.toArray.{0} Value ((Value.str (Str.ofString "_law_body") (nat_lit 1226))::((Value.str (Str.ofString "_law_body") (nat_lit 1227))::((Value.str (Str.ofString "/claim/cut.py") (nat_lit 1228))::((Value.int (@OfNat.ofNat.{0} @Int (nat_lit 429) (@instOfNat (nat_lit 429))) (nat_lit 0))::((Value.int (@OfNat.ofNat.{0} @Int (nat_lit 3) (@instOfNat (nat_lit 3))) (nat_lit 0))::((Value.int (@OfNat.ofNat.{0} @Int (nat_lit 0) (@instOfNat (nat_lit 0))) (nat_lit 0))::((Value.int (@OfNat.ofNat.{0} @Int (nat_lit 0) (@instOfNat (nat_lit 0))) (nat_lit 0))::((Value.int (@OfNat.ofNat.{0} @Int (nat_lit 3) (@instOfNat (nat_lit 3))) (nat_lit 0))::((Value.ref (nat_lit 732))::((Value.bool @Bool.true)::((Value.int (@OfNat.ofNat.{0} @Int (nat_lit 181) (@instOfNat (nat_lit 181))) (nat_lit 0))::((Value.ref (nat_lit 733))::(Value.none::((Value.ref (nat_lit 734))::((Value.ref (nat_lit 735))::((Value.ref (nat_lit 736))::((Value.int (@OfNat.ofNat.{0} @Int (nat_lit 1237) (@instOfNat (nat_lit 1237))) (nat_lit 0))::((Value.int (@OfNat.ofNat.{0} @Int (nat_lit 429) (@instOfNat (nat_lit 429))) (nat_lit 0))::((Value.str (Str.ofString "/claim/cut.py") (nat_lit 1238))::[]))))))))))))))))))))) (@List.toArray.{0} (@Option.{0} Value) []))) <|
  List.cons (Prod.mk (nat_lit 738) (Obj.mk (Value.type "function") (none) (Data.func (PySem.W.fnOf (Str.ofString "_law_body") (Str.ofString "_law_body") (defArgs TR.s_law_body) (defBody TR.s_law_body) (defScope TR.s_law_body) Value.none Value.none Value.none (Value.str (Str.ofString "law_treetrain_k34_fewest_moves") (nat_lit 1176)) (none) (Value.ref (nat_lit 737)) Value.none)) (@List.toArray.{0} (@Option.{0} Value) []))) <|
  List.cons (Prod.mk (nat_lit 744) (Obj.mk (Value.type "code") (none) (Data.fields (@List.toArray.{0} Value ((Value.str (Str.ofString "_law_steps") (nat_lit 1240))::((Value.str (Str.ofString "_law_steps") (nat_lit 1241))::((Value.str (Str.ofString "/claim/cut.py") (nat_lit 1242))::((Value.int (@OfNat.ofNat.{0} @Int (nat_lit 441) (@instOfNat (nat_lit 441))) (nat_lit 0))::((Value.int (@OfNat.ofNat.{0} @Int (nat_lit 2) (@instOfNat (nat_lit 2))) (nat_lit 0))::((Value.int (@OfNat.ofNat.{0} @Int (nat_lit 0) (@instOfNat (nat_lit 0))) (nat_lit 0))::((Value.int (@OfNat.ofNat.{0} @Int (nat_lit 0) (@instOfNat (nat_lit 0))) (nat_lit 0))::((Value.int (@OfNat.ofNat.{0} @Int (nat_lit 3) (@instOfNat (nat_lit 3))) (nat_lit 0))::((Value.ref (nat_lit 739))::((Value.bool @Bool.true)::((Value.int (@OfNat.ofNat.{0} @Int (nat_lit 181) (@instOfNat (nat_lit 181))) (nat_lit 0))::((Value.ref (nat_lit 740))::(Value.none::((Value.ref (nat_lit 741))::((Value.ref (nat_lit 742))::((Value.ref (nat_lit 743))::((Value.int (@OfNat.ofNat.{0} @Int (nat_lit 1248) (@instOfNat (nat_lit 1248))) (nat_lit 0))::((Value.int (@OfNat.ofNat.{0} @Int (nat_lit 441) (@instOfNat (nat_lit 441))) (nat_lit 0))::((Value.str (Str.ofString "/claim/cut.py") (nat_lit 1249))::[]))))))))))))))))))))) (@List.toArray.{0} (@Option.{0} Value) []))) <|
  List.cons (Prod.mk (nat_lit 745) (Obj.mk (Value.type "function") (none) (Data.func (PySem.W.fnOf (Str.ofString "_law_steps") (Str.ofString "_law_steps") (defArgs TR.s_law_steps) (defBody TR.s_law_steps) (defScope TR.s_law_steps) Value.none Value.none Value.none (Value.str (Str.ofString "law_treetrain_k34_fewest_moves") (nat_lit 1176)) (none) (Value.ref (nat_lit 744)) Value.none)) (@List.toArray.{0} (@Option.{0} Value) []))) <|
  List.cons (Prod.mk (nat_lit 751) (Obj.mk (Value.type "code") (none) (Data.fields (@List.toArray.{0} Value ((Value.str (Str.ofString "_law_search") (nat_lit 1251))::((Value.str (Str.ofString "_law_search") (nat_lit 1252))::((Value.str (Str.ofString "/claim/cut.py") (nat_lit 1253))::((Value.int (@OfNat.ofNat.{0} @Int (nat_lit 450) (@instOfNat (nat_lit 450))) (nat_lit 0))::((Value.int (@OfNat.ofNat.{0} @Int (nat_lit 2) (@instOfNat (nat_lit 2))) (nat_lit 0))::((Value.int (@OfNat.ofNat.{0} @Int (nat_lit 0) (@instOfNat (nat_lit 0))) (nat_lit 0))::((Value.int (@OfNat.ofNat.{0} @Int (nat_lit 0) (@instOfNat (nat_lit 0))) (nat_lit 0))::((Value.int (@OfNat.ofNat.{0} @Int (nat_lit 3) (@instOfNat (nat_lit 3))) (nat_lit 0))::((Value.ref (nat_lit 746))::((Value.bool @Bool.true)::((Value.int (@OfNat.ofNat.{0} @Int (nat_lit 181) (@instOfNat (nat_lit 181))) (nat_lit 0))::((Value.ref (nat_lit 747))::(Value.none::((Value.ref (nat_lit 748))::((Value.ref (nat_lit 749))::((Value.ref (nat_lit 750))::((Value.int (@OfNat.ofNat.{0} @Int (nat_lit 1262) (@instOfNat (nat_lit 1262))) (nat_lit 0))::((Value.int (@OfNat.ofNat.{0} @Int (nat_lit 450) (@instOfNat (nat_lit 450))) (nat_lit 0))::((Value.str (Str.ofString "/claim/cut.py") (nat_lit 1263))::[]))))))))))))))))))))) (@List.toArray.{0} (@Option.{0} Value) []))) <|
  List.cons (Prod.mk (nat_lit 752) (Obj.mk (Value.type "function") (none) (Data.func (PySem.W.fnOf (Str.ofString "_law_search") (Str.ofString "_law_search") (defArgs TR.s_law_search) (defBody TR.s_law_search) (defScope TR.s_law_search) Value.none Value.none Value.none (Value.str (Str.ofString "law_treetrain_k34_fewest_moves") (nat_lit 1176)) (none) (Value.ref (nat_lit 751)) Value.none)) (@List.toArray.{0} (@Option.{0} Value) []))) <|
  List.cons (Prod.mk (nat_lit 756) (Obj.mk (Value.type "code") (none) (Data.fields (@List.toArray.{0} Value ((Value.str (Str.ofString "_law_walked") (nat_lit 1265))::((Value.str (Str.ofString "_law_walked") (nat_lit 1266))::((Value.str (Str.ofString "/claim/cut.py") (nat_lit 1267))::((Value.int (@OfNat.ofNat.{0} @Int (nat_lit 461) (@instOfNat (nat_lit 461))) (nat_lit 0))::((Value.int (@OfNat.ofNat.{0} @Int (nat_lit 3) (@instOfNat (nat_lit 3))) (nat_lit 0))::((Value.int (@OfNat.ofNat.{0} @Int (nat_lit 0) (@instOfNat (nat_lit 0))) (nat_lit 0))::((Value.int (@OfNat.ofNat.{0} @Int (nat_lit 0) (@instOfNat (nat_lit 0))) (nat_lit 0))::((Value.int (@OfNat.ofNat.{0} @Int (nat_lit 3) (@instOfNat (nat_lit 3))) (nat_lit 0))::((Value.ref (nat_lit 753))::((Value.bool @Bool.true)::((Value.int (@OfNat.ofNat.{0} @Int (nat_lit 181) (@instOfNat (nat_lit 181))) (nat_lit 0))::((Value.ref (nat_lit 754))::(Value.none::(Value.none::(Value.none::((Value.ref (nat_lit 755))::((Value.int (@OfNat.ofNat.{0} @Int (nat_lit 1268) (@instOfNat (nat_lit 1268))) (nat_lit 0))::((Value.int (@OfNat.ofNat.{0} @Int (nat_lit 461) (@instOfNat (nat_lit 461))) (nat_lit 0))::((Value.str (Str.ofString "/claim/cut.py") (nat_lit 1269))::[]))))))))))))))))))))) (@List.toArray.{0} (@Option.{0} Value) []))) <|
  List.cons (Prod.mk (nat_lit 757) (Obj.mk (Value.type "function") (none) (Data.func (PySem.W.fnOf (Str.ofString "_law_walked") (Str.ofString "_law_walked") (defArgs TR.s_law_walked) (defBody TR.s_law_walked) (defScope TR.s_law_walked) Value.none Value.none Value.none (Value.str (Str.ofString "law_treetrain_k34_fewest_moves") (nat_lit 1176)) (none) (Value.ref (nat_lit 756)) Value.none)) (@List.toArray.{0} (@Option.{0} Value) []))) <|
  List.cons (Prod.mk (nat_lit 763) (Obj.mk (Value.type "code") (none) (Data.fields (@List.toArray.{0} Value ((Value.str (Str.ofString "_law_pair") (nat_lit 1271))::((Value.str (Str.ofString "_law_pair") (nat_lit 1272))::((Value.str (Str.ofString "/claim/cut.py") (nat_lit 1273))::((Value.int (@OfNat.ofNat.{0} @Int (nat_lit 468) (@instOfNat (nat_lit 468))) (nat_lit 0))::((Value.int (@OfNat.ofNat.{0} @Int (nat_lit 2) (@instOfNat (nat_lit 2))) (nat_lit 0))::((Value.int (@OfNat.ofNat.{0} @Int (nat_lit 0) (@instOfNat (nat_lit 0))) (nat_lit 0))::((Value.int (@OfNat.ofNat.{0} @Int (nat_lit 0) (@instOfNat (nat_lit 0))) (nat_lit 0))::((Value.int (@OfNat.ofNat.{0} @Int (nat_lit 3) (@instOfNat (nat_lit 3))) (nat_lit 0))::((Value.ref (nat_lit 758))::((Value.bool @Bool.true)::((Value.int (@OfNat.ofNat.{0} @Int (nat_lit 181) (@instOfNat (nat_lit 181))) (nat_lit 0))::((Value.ref (nat_lit 759))::(Value.none::((Value.ref (nat_lit 760))::((Value.ref (nat_lit 761))::((Value.ref (nat_lit 762))::((Value.int (@OfNat.ofNat.{0} @Int (nat_lit 1278) (@instOfNat (nat_lit 1278))) (nat_lit 0))::((Value.int (@OfNat.ofNat.{0} @Int (nat_lit 468) (@instOfNat (nat_lit 468))) (nat_lit 0))::((Value.str (Str.ofString "/claim/cut.py") (nat_lit 1279))::[]))))))))))))))))))))) (@List.toArray.{0} (@Option.{0} Value) []))) <|
  List.cons (Prod.mk (nat_lit 764) (Obj.mk (Value.type "function") (none) (Data.func (PySem.W.fnOf (Str.ofString "_law_pair") (Str.ofString "_law_pair") (defArgs TR.s_law_pair) (defBody TR.s_law_pair) (defScope TR.s_law_pair) Value.none Value.none Value.none (Value.str (Str.ofString "law_treetrain_k34_fewest_moves") (nat_lit 1176)) (none) (Value.ref (nat_lit 763)) Value.none)) (@List.toArray.{0} (@Option.{0} Value) []))) <|
  List.cons (Prod.mk (nat_lit 768) (Obj.mk (Value.type "code") (none) (Data.fields (@List.toArray.{0} Value ((Value.str (Str.ofString "_law_least") (nat_lit 1281))::((Value.str (Str.ofString "_law_least") (nat_lit 1282))::((Value.str (Str.ofString "/claim/cut.py") (nat_lit 1283))::((Value.int (@OfNat.ofNat.{0} @Int (nat_lit 471) (@instOfNat (nat_lit 471))) (nat_lit 0))::((Value.int (@OfNat.ofNat.{0} @Int (nat_lit 3) (@instOfNat (nat_lit 3))) (nat_lit 0))::((Value.int (@OfNat.ofNat.{0} @Int (nat_lit 0) (@instOfNat (nat_lit 0))) (nat_lit 0))::((Value.int (@OfNat.ofNat.{0} @Int (nat_lit 0) (@instOfNat (nat_lit 0))) (nat_lit 0))::((Value.int (@OfNat.ofNat.{0} @Int (nat_lit 3) (@instOfNat (nat_lit 3))) (nat_lit 0))::((Value.ref (nat_lit 765))::((Value.bool @Bool.true)::((Value.int (@OfNat.ofNat.{0} @Int (nat_lit 181) (@instOfNat (nat_lit 181))) (nat_lit 0))::((Value.ref (nat_lit 766))::(Value.none::(Value.none::(Value.none::((Value.ref (nat_lit 767))::((Value.int (@OfNat.ofNat.{0} @Int (nat_lit 1284) (@instOfNat (nat_lit 1284))) (nat_lit 0))::((Value.int (@OfNat.ofNat.{0} @Int (nat_lit 471) (@instOfNat (nat_lit 471))) (nat_lit 0))::((Value.str (Str.ofString "/claim/cut.py") (nat_lit 1285))::[]))))))))))))))))))))) (@List.toArray.{0} (@Option.{0} Value) []))) <|
  List.cons (Prod.mk (nat_lit 769) (Obj.mk (Value.type "function") (none) (Data.func (PySem.W.fnOf (Str.ofString "_law_least") (Str.ofString "_law_least") (defArgs TR.s_law_least) (defBody TR.s_law_least) (defScope TR.s_law_least) Value.none Value.none Value.none (Value.str (Str.ofString "law_treetrain_k34_fewest_moves") (nat_lit 1176)) (none) (Value.ref (nat_lit 768)) Value.none)) (@List.toArray.{0} (@Option.{0} Value) []))) <|
  List.cons (Prod.mk (nat_lit 775) (Obj.mk (Value.type "code") (none) (Data.fields (@List.toArray.{0} Value ((Value.str (Str.ofString "_law_right") (nat_lit 1287))::((Value.str (Str.ofString "_law_right") (nat_lit 1288))::((Value.str (Str.ofString "/claim/cut.py") (nat_lit 1289))::((Value.int (@OfNat.ofNat.{0} @Int (nat_lit 478) (@instOfNat (nat_lit 478))) (nat_lit 0))::((Value.int (@OfNat.ofNat.{0} @Int (nat_lit 4) (@instOfNat (nat_lit 4))) (nat_lit 0))::((Value.int (@OfNat.ofNat.{0} @Int (nat_lit 0) (@instOfNat (nat_lit 0))) (nat_lit 0))::((Value.int (@OfNat.ofNat.{0} @Int (nat_lit 0) (@instOfNat (nat_lit 0))) (nat_lit 0))::((Value.int (@OfNat.ofNat.{0} @Int (nat_lit 3) (@instOfNat (nat_lit 3))) (nat_lit 0))::((Value.ref (nat_lit 770))::((Value.bool @Bool.true)::((Value.int (@OfNat.ofNat.{0} @Int (nat_lit 181) (@instOfNat (nat_lit 181))) (nat_lit 0))::((Value.ref (nat_lit 771))::(Value.none::((Value.ref (nat_lit 772))::((Value.ref (nat_lit 773))::((Value.ref (nat_lit 774))::((Value.int (@OfNat.ofNat.{0} @Int (nat_lit 1296) (@instOfNat (nat_lit 1296))) (nat_lit 0))::((Value.int (@OfNat.ofNat.{0} @Int (nat_lit 478) (@instOfNat (nat_lit 478))) (nat_lit 0))::((Value.str (Str.ofString "/claim/cut.py") (nat_lit 1297))::[]))))))))))))))))))))) (@List.toArray.{0} (@Option.{0} Value) []))) <|
  List.cons (Prod.mk (nat_lit 776) (Obj.mk (Value.type "function") (none) (Data.func (PySem.W.fnOf (Str.ofString "_law_right") (Str.ofString "_law_right") (defArgs TR.s_law_right) (defBody TR.s_law_right) (defScope TR.s_law_right) Value.none Value.none Value.none (Value.str (Str.ofString "law_treetrain_k34_fewest_moves") (nat_lit 1176)) (none) (Value.ref (nat_lit 775)) Value.none)) (@List.toArray.{0} (@Option.{0} Value) []))) <|
  List.cons (Prod.mk (nat_lit 782) (Obj.mk (Value.type "code") (none) (Data.fields (@List.toArray.{0} Value ((Value.str (Str.ofString "law") (nat_lit 1299))::((Value.str (Str.ofString "law") (nat_lit 1300))::((Value.str (Str.ofString "/claim/cut.py") (nat_lit 1301))::((Value.int (@OfNat.ofNat.{0} @Int (nat_lit 485) (@instOfNat (nat_lit 485))) (nat_lit 0))::((Value.int (@OfNat.ofNat.{0} @Int (nat_lit 1) (@instOfNat (nat_lit 1))) (nat_lit 0))::((Value.int (@OfNat.ofNat.{0} @Int (nat_lit 0) (@instOfNat (nat_lit 0))) (nat_lit 0))::((Value.int (@OfNat.ofNat.{0} @Int (nat_lit 0) (@instOfNat (nat_lit 0))) (nat_lit 0))::((Value.int (@OfNat.ofNat.{0} @Int (nat_lit 3) (@instOfNat (nat_lit 3))) (nat_lit 0))::((Value.ref (nat_lit 777))::((Value.bool @Bool.true)::((Value.int (@OfNat.ofNat.{0} @Int (nat_lit 181) (@instOfNat (nat_lit 181))) (nat_lit 0))::((Value.ref (nat_lit 778))::(Value.none::((Value.ref (nat_lit 779))::((Value.ref (nat_lit 780))::((Value.ref (nat_lit 781))::((Value.int (@OfNat.ofNat.{0} @Int (nat_lit 1312) (@instOfNat (nat_lit 1312))) (nat_lit 0))::((Value.int (@OfNat.ofNat.{0} @Int (nat_lit 485) (@instOfNat (nat_lit 485))) (nat_lit 0))::((Value.str (Str.ofString "/claim/cut.py") (nat_lit 1313))::[]))))))))))))))))))))) (@List.toArray.{0} (@Option.{0} Value) []))) <|
  List.cons (Prod.mk (nat_lit 783) (Obj.mk (Value.type "function") (none) (Data.func (PySem.W.fnOf (Str.ofString "law") (Str.ofString "law") (defArgs TR.s_law) (defBody TR.s_law) (defScope TR.s_law) Value.none Value.none Value.none (Value.str (Str.ofString "law_treetrain_k34_fewest_moves") (nat_lit 1176)) (none) (Value.ref (nat_lit 782)) Value.none)) (@List.toArray.{0} (@Option.{0} Value) []))) <|
  List.nil
def Ka : List Addr := [nat_lit 2, nat_lit 3, nat_lit 263, nat_lit 264, nat_lit 270, nat_lit 271, nat_lit 277, nat_lit 278, nat_lit 284, nat_lit 285, nat_lit 291, nat_lit 292, nat_lit 298, nat_lit 299, nat_lit 303, nat_lit 304, nat_lit 310, nat_lit 311, nat_lit 315, nat_lit 316, nat_lit 322, nat_lit 323, nat_lit 329, nat_lit 330, nat_lit 336, nat_lit 337, nat_lit 343, nat_lit 344, nat_lit 350, nat_lit 351, nat_lit 357, nat_lit 358, nat_lit 362, nat_lit 363, nat_lit 369, nat_lit 370, nat_lit 376, nat_lit 377, nat_lit 383, nat_lit 384, nat_lit 390, nat_lit 391, nat_lit 397, nat_lit 398, nat_lit 404, nat_lit 405, nat_lit 411, nat_lit 412, nat_lit 416, nat_lit 417, nat_lit 423, nat_lit 424, nat_lit 428, nat_lit 429, nat_lit 435, nat_lit 436, nat_lit 440, nat_lit 441, nat_lit 447, nat_lit 448, nat_lit 454, nat_lit 455, nat_lit 461, nat_lit 462, nat_lit 468, nat_lit 469, nat_lit 475, nat_lit 476, nat_lit 482, nat_lit 483, nat_lit 489, nat_lit 490, nat_lit 496, nat_lit 497, nat_lit 548, nat_lit 549, nat_lit 555, nat_lit 556, nat_lit 581, nat_lit 582, nat_lit 588, nat_lit 589, nat_lit 591, nat_lit 636, nat_lit 637, nat_lit 638, nat_lit 652, nat_lit 653, nat_lit 659, nat_lit 660, nat_lit 666, nat_lit 667, nat_lit 676, nat_lit 677, nat_lit 692, nat_lit 693, nat_lit 697, nat_lit 698, nat_lit 704, nat_lit 705, nat_lit 711, nat_lit 712, nat_lit 718, nat_lit 719, nat_lit 725, nat_lit 726, nat_lit 730, nat_lit 731, nat_lit 737, nat_lit 738, nat_lit 744, nat_lit 745, nat_lit 751, nat_lit 752, nat_lit 756, nat_lit 757, nat_lit 763, nat_lit 764, nat_lit 768, nat_lit 769, nat_lit 775, nat_lit 776, nat_lit 782, nat_lit 783]
theorem Ke : ∀ P, Ka = (Kk P).map (·.1) := fun _ => by kernel_rfl
end TR
open PySem PySem.W PyProof.Rows
set_option maxRecDepth 100000 in
set_option maxHeartbeats 0 in
theorem PySem.Challenge.cw_treetrain_k34_fewest_moves_holds : PySem.Challenge.rw_treetrain_k34_fewest_moves.Holds := by
  w_on; o_law; o_head (PySem.W.kHook TR.Kk TR.Ka TR.Ke); (case hw => w_witness2)
  k_fill
  refine L2.TT.walkG_of (l := PySem.Challenge.rw_treetrain_k34_fewest_moves) (n := 63) (k := 21) (x := "script") (sp := fun w => TR.spLaw _) rfl (by decide) rfl ⟨rfl, by decide, by decide⟩ (fun w h Y => PySem.W.kIn_of Y) ?F (fun w H a ns hl _ hS => ⟨a, ns, rfl, hS, hl, fun _ => rfl⟩)
  case F =>
    intro w mg fa h KX G hmg
    refine' TR.all_mk KX G hmg ?ais_integer ?lis_integer ?cis_integer ?kis_integer ?ais_number_from ?lis_number_from ?cis_number_from ?kis_number_from ?ais_pair_of_stations ?lis_pair_of_stations ?cis_pair_of_stations ?kis_pair_of_stations ?ais_station ?lis_station ?cis_station ?kis_station ?acheck_station ?lcheck_station ?ccheck_station ?kcheck_station ?ajoined ?ljoined ?cjoined ?kjoined ?afirst_wrong_track ?lfirst_wrong_track ?cfirst_wrong_track ?kfirst_wrong_track ?aneighbours_of ?lneighbours_of ?cneighbours_of ?kneighbours_of ?aplaces_below_first ?lplaces_below_first ?cplaces_below_first ?kplaces_below_first ?alaw_begin ?llaw_begin ?claw_begin ?klaw_begin ?alaw_mixed ?llaw_mixed ?claw_mixed ?klaw_mixed ?alaw_next ?llaw_next ?claw_next ?klaw_next ?alaw_tracks ?llaw_tracks ?claw_tracks ?klaw_tracks ?acheck_length ?lcheck_length ?ccheck_length ?kcheck_length ?alayers ?llayers ?clayers ?klayers ?adepth_behind ?ldepth_behind ?cdepth_behind ?kdepth_behind ?abranch_depths ?lbranch_depths ?cbranch_depths ?kbranch_depths ?alongest_path ?llongest_path ?clongest_path ?klongest_path ?alayers_behind ?llayers_behind ?clayers_behind ?klayers_behind ?ais_line ?lis_line ?cis_line ?kis_line ?ais_divide ?lis_divide ?cis_divide ?kis_divide ?amark ?lmark ?cmark ?kmark ?afind_divide ?lfind_divide ?cfind_divide ?kfind_divide ?ais_standing ?lis_standing ?cis_standing ?kis_standing ?acheck_standing ?lcheck_standing ?ccheck_standing ?kcheck_standing ?alength_of ?llength_of ?clength_of ?klength_of ?abody_of ?lbody_of ?cbody_of ?kbody_of ?asteps_from ?lsteps_from ?csteps_from ?ksteps_from ?abody_after ?lbody_after ?cbody_after ?kbody_after ?ais_pocket ?lis_pocket ?cis_pocket ?kis_pocket ?ahas_clamp ?lhas_clamp ?chas_clamp ?khas_clamp ?aclimb ?lclimb ?cclimb ?kclimb ?apocket ?lpocket ?cpocket ?kpocket ?aslack_and_depths ?lslack_and_depths ?cslack_and_depths ?kslack_and_depths ?anext_part ?lnext_part ?cnext_part ?knext_part ?acommon_length ?lcommon_length ?ccommon_length ?kcommon_length ?areason_against ?lreason_against ?creason_against ?kreason_against ?aare_opposed ?lare_opposed ?care_opposed ?kare_opposed ?arise ?lrise ?crise ?krise ?aleast_way ?lleast_way ?cleast_way ?kleast_way ?acounts_to ?lcounts_to ?ccounts_to ?kcounts_to ?acheck_way ?lcheck_way ?ccheck_way ?kcheck_way ?afewest_moves ?lfewest_moves ?cfewest_moves ?kfewest_moves ?ashortest_way ?lshortest_way ?cshortest_way ?kshortest_way ?alaw_links ?llaw_links ?claw_links ?klaw_links ?alaw_body ?llaw_body ?claw_body ?klaw_body ?alaw_steps ?llaw_steps ?claw_steps ?klaw_steps ?alaw_search ?llaw_search ?claw_search ?klaw_search ?alaw_walked ?llaw_walked ?claw_walked ?klaw_walked ?alaw_pair ?llaw_pair ?claw_pair ?klaw_pair ?alaw_least ?llaw_least ?claw_least ?klaw_least ?alaw_right ?llaw_right ?claw_right ?klaw_right ?alaw ?llaw ?claw ?klaw ?aC ?cR ?cG ?cM ?pg ?hd ?po ?sa ?mk ?kc ?n0 ?n1 ?n2 ?n3 ?kca ?kob ?sg ?st ?aMinit ?iMinit ?lMinit ?cMinit ?kMinit ?aMpath ?iMpath ?lMpath ?cMpath ?kMpath ?aMsize ?gMsize ?tMsize ?rMsizeh ?lMsize ?cMsize ?kMsize ?aMof ?rMofh ?iMof ?lMof ?cMof ?kMof ?aMneighbours ?iMneighbours ?lMneighbours ?cMneighbours ?kMneighbours ?aMdistance ?iMdistance ?lMdistance ?cMdistance ?kMdistance ?z_len ?z_isinstance ?z_int ?z_bool ?z_tuple ?z_list ?z_sorted ?z_min ?z_max ?z_range ?z_enumerate ?z_repr ?z_set ?z_all ?z_any ?z_zip ?z_str ?vMOST_SEARCHED
    (case ais_integer => first | k_is | kx_is)
    (case lis_integer => first | k_is | kx_is)
    (case cis_integer => first | k_is | kx_is)
    (case kis_integer => first | k_is | kx_is)
    (case ais_number_from => first | k_is | kx_is)
    (case lis_number_from => first | k_is | kx_is)
    (case cis_number_from => first | k_is | kx_is)
    (case kis_number_from => first | k_is | kx_is)
    (case ais_pair_of_stations => first | k_is | kx_is)
    (case lis_pair_of_stations => first | k_is | kx_is)
    (case cis_pair_of_stations => first | k_is | kx_is)
    (case kis_pair_of_stations => first | k_is | kx_is)
    (case ais_station => first | k_is | kx_is)
    (case lis_station => first | k_is | kx_is)
    (case cis_station => first | k_is | kx_is)
    (case kis_station => first | k_is | kx_is)
    (case acheck_station => first | k_is | kx_is)
    (case lcheck_station => first | k_is | kx_is)
    (case ccheck_station => first | k_is | kx_is)
    (case kcheck_station => first | k_is | kx_is)
    (case ajoined => first | k_is | kx_is)
    (case ljoined => first | k_is | kx_is)
    (case cjoined => first | k_is | kx_is)
    (case kjoined => first | k_is | kx_is)
    (case afirst_wrong_track => first | k_is | kx_is)
    (case lfirst_wrong_track => first | k_is | kx_is)
    (case cfirst_wrong_track => first | k_is | kx_is)
    (case kfirst_wrong_track => first | k_is | kx_is)
    (case aneighbours_of => first | k_is | kx_is)
    (case lneighbours_of => first | k_is | kx_is)
    (case cneighbours_of => first | k_is | kx_is)
    (case kneighbours_of => first | k_is | kx_is)
    (case aplaces_below_first => first | k_is | kx_is)
    (case lplaces_below_first => first | k_is | kx_is)
    (case cplaces_below_first => first | k_is | kx_is)
    (case kplaces_below_first => first | k_is | kx_is)
    (case alaw_begin => first | k_is | kx_is)
    (case llaw_begin => first | k_is | kx_is)
    (case claw_begin => first | k_is | kx_is)
    (case klaw_begin => first | k_is | kx_is)
    (case alaw_mixed => first | k_is | kx_is)
    (case llaw_mixed => first | k_is | kx_is)
    (case claw_mixed => first | k_is | kx_is)
    (case klaw_mixed => first | k_is | kx_is)
    (case alaw_next => first | k_is | kx_is)
    (case llaw_next => first | k_is | kx_is)
    (case claw_next => first | k_is | kx_is)
    (case klaw_next => first | k_is | kx_is)
    (case alaw_tracks => first | k_is | kx_is)
    (case llaw_tracks => first | k_is | kx_is)
    (case claw_tracks => first | k_is | kx_is)
    (case klaw_tracks => first | k_is | kx_is)
    (case acheck_length => first | k_is | kx_is)
    (case lcheck_length => first | k_is | kx_is)
    (case ccheck_length => first | k_is | kx_is)
    (case kcheck_length => first | k_is | kx_is)
    (case alayers => first | k_is | kx_is)
    (case llayers => first | k_is | kx_is)
    (case clayers => first | k_is | kx_is)
    (case klayers => first | k_is | kx_is)
    (case adepth_behind => first | k_is | kx_is)
    (case ldepth_behind => first | k_is | kx_is)
    (case cdepth_behind => first | k_is | kx_is)
    (case kdepth_behind => first | k_is | kx_is)
    (case abranch_depths => first | k_is | kx_is)
    (case lbranch_depths => first | k_is | kx_is)
    (case cbranch_depths => first | k_is | kx_is)
    (case kbranch_depths => first | k_is | kx_is)
    (case alongest_path => first | k_is | kx_is)
    (case llongest_path => first | k_is | kx_is)
    (case clongest_path => first | k_is | kx_is)
    (case klongest_path => first | k_is | kx_is)
    (case alayers_behind => first | k_is | kx_is)
    (case llayers_behind => first | k_is | kx_is)
    (case clayers_behind => first | k_is | kx_is)
    (case klayers_behind => first | k_is | kx_is)
    (case ais_line => first | k_is | kx_is)
    (case lis_line => first | k_is | kx_is)
    (case cis_line => first | k_is | kx_is)
    (case kis_line => first | k_is | kx_is)
    (case ais_divide => first | k_is | kx_is)
    (case lis_divide => first | k_is | kx_is)
    (case cis_divide => first | k_is | kx_is)
    (case kis_divide => first | k_is | kx_is)
    (case amark => first | k_is | kx_is)
    (case lmark => first | k_is | kx_is)
    (case cmark => first | k_is | kx_is)
    (case kmark => first | k_is | kx_is)
    (case afind_divide => first | k_is | kx_is)
    (case lfind_divide => first | k_is | kx_is)
    (case cfind_divide => first | k_is | kx_is)
    (case kfind_divide => first | k_is | kx_is)
    (case ais_standing => first | k_is | kx_is)
    (case lis_standing => first | k_is | kx_is)
    (case cis_standing => first | k_is | kx_is)
    (case kis_standing => first | k_is | kx_is)
    (case acheck_standing => first | k_is | kx_is)
    (case lcheck_standing => first | k_is | kx_is)
    (case ccheck_standing => first | k_is | kx_is)
    (case kcheck_standing => first | k_is | kx_is)
    (case alength_of => first | k_is | kx_is)
    (case llength_of => first | k_is | kx_is)
    (case clength_of => first | k_is | kx_is)
    (case klength_of => first | k_is | kx_is)
    (case abody_of => first | k_is | kx_is)
    (case lbody_of => first | k_is | kx_is)
    (case cbody_of => first | k_is | kx_is)
    (case kbody_of => first | k_is | kx_is)
    (case asteps_from => first | k_is | kx_is)
    (case lsteps_from => first | k_is | kx_is)
    (case csteps_from => first | k_is | kx_is)
    (case ksteps_from => first | k_is | kx_is)
    (case abody_after => first | k_is | kx_is)
    (case lbody_after => first | k_is | kx_is)
    (case cbody_after => first | k_is | kx_is)
    (case kbody_after => first | k_is | kx_is)
    (case ais_pocket => first | k_is | kx_is)
    (case lis_pocket => first | k_is | kx_is)
    (case cis_pocket => first | k_is | kx_is)
    (case kis_pocket => first | k_is | kx_is)
    (case ahas_clamp => first | k_is | kx_is)
    (case lhas_clamp => first | k_is | kx_is)
    (case chas_clamp => first | k_is | kx_is)
    (case khas_clamp => first | k_is | kx_is)
    (case aclimb => first | k_is | kx_is)
    (case lclimb => first | k_is | kx_is)
    (case cclimb => first | k_is | kx_is)
    (case kclimb => first | k_is | kx_is)
    (case apocket => first | k_is | kx_is)
    (case lpocket => first | k_is | kx_is)
    (case cpocket => first | k_is | kx_is)
    (case kpocket => first | k_is | kx_is)
    (case aslack_and_depths => first | k_is | kx_is)
    (case lslack_and_depths => first | k_is | kx_is)
    (case cslack_and_depths => first | k_is | kx_is)
    (case kslack_and_depths => first | k_is | kx_is)
    (case anext_part => first | k_is | kx_is)
    (case lnext_part => first | k_is | kx_is)
    (case cnext_part => first | k_is | kx_is)
    (case knext_part => first | k_is | kx_is)
    (case acommon_length => first | k_is | kx_is)
    (case lcommon_length => first | k_is | kx_is)
    (case ccommon_length => first | k_is | kx_is)
    (case kcommon_length => first | k_is | kx_is)
    (case areason_against => first | k_is | kx_is)
    (case lreason_against => first | k_is | kx_is)
    (case creason_against => first | k_is | kx_is)
    (case kreason_against => first | k_is | kx_is)
    (case aare_opposed => first | k_is | kx_is)
    (case lare_opposed => first | k_is | kx_is)
    (case care_opposed => first | k_is | kx_is)
    (case kare_opposed => first | k_is | kx_is)
    (case arise => first | k_is | kx_is)
    (case lrise => first | k_is | kx_is)
    (case crise => first | k_is | kx_is)
    (case krise => first | k_is | kx_is)
    (case aleast_way => first | k_is | kx_is)
    (case lleast_way => first | k_is | kx_is)
    (case cleast_way => first | k_is | kx_is)
    (case kleast_way => first | k_is | kx_is)
    (case acounts_to => first | k_is | kx_is)
    (case lcounts_to => first | k_is | kx_is)
    (case ccounts_to => first | k_is | kx_is)
    (case kcounts_to => first | k_is | kx_is)
    (case acheck_way => first | k_is | kx_is)
    (case lcheck_way => first | k_is | kx_is)
    (case ccheck_way => first | k_is | kx_is)
    (case kcheck_way => first | k_is | kx_is)
    (case afewest_moves => first | k_is | kx_is)
    (case lfewest_moves => first | k_is | kx_is)
    (case cfewest_moves => first | k_is | kx_is)
    (case kfewest_moves => first | k_is | kx_is)
    (case ashortest_way => first | k_is | kx_is)
    (case lshortest_way => first | k_is | kx_is)
    (case cshortest_way => first | k_is | kx_is)
    (case kshortest_way => first | k_is | kx_is)
    (case alaw_links => first | k_is | kx_is)
    (case llaw_links => first | k_is | kx_is)
    (case claw_links => first | k_is | kx_is)
    (case klaw_links => first | k_is | kx_is)
    (case alaw_body => first | k_is | kx_is)
    (case llaw_body => first | k_is | kx_is)
    (case claw_body => first | k_is | kx_is)
    (case klaw_body => first | k_is | kx_is)
    (case alaw_steps => first | k_is | kx_is)
    (case llaw_steps => first | k_is | kx_is)
    (case claw_steps => first | k_is | kx_is)
    (case klaw_steps => first | k_is | kx_is)
    (case alaw_search => first | k_is | kx_is)
    (case llaw_search => first | k_is | kx_is)
    (case claw_search => first | k_is | kx_is)
    (case klaw_search => first | k_is | kx_is)
    (case alaw_walked => first | k_is | kx_is)
    (case llaw_walked => first | k_is | kx_is)
    (case claw_walked => first | k_is | kx_is)
    (case klaw_walked => first | k_is | kx_is)
    (case alaw_pair => first | k_is | kx_is)
    (case llaw_pair => first | k_is | kx_is)
    (case claw_pair => first | k_is | kx_is)
    (case klaw_pair => first | k_is | kx_is)
    (case alaw_least => first | k_is | kx_is)
    (case llaw_least => first | k_is | kx_is)
    (case claw_least => first | k_is | kx_is)
    (case klaw_least => first | k_is | kx_is)
    (case alaw_right => first | k_is | kx_is)
    (case llaw_right => first | k_is | kx_is)
    (case claw_right => first | k_is | kx_is)
    (case klaw_right => first | k_is | kx_is)
    (case alaw => first | k_is | kx_is)
    (case llaw => first | k_is | kx_is)
    (case claw => first | k_is | kx_is)
    (case klaw => first | k_is | kx_is)
    (case aC => first | k_is | kx_is)
    (case cR => first | k_is | kx_is)
    (case cG => first | k_is | kx_is)
    (case cM => first | k_is | kx_is)
    (case pg => first | k_is | kx_is)
    (case hd => first | k_is | kx_is)
    (case po => first | k_is | kx_is)
    (case sa => first | k_is | kx_is)
    (case mk => first | k_is | kx_is)
    (case kc => first | k_is | kx_is)
    (case n0 => first | k_is | kx_is)
    (case n1 => first | k_is | kx_is)
    (case n2 => first | k_is | kx_is)
    (case n3 => first | k_is | kx_is)
    (case kca => first | k_is | kx_is)
    (case kob => first | k_is | kx_is)
    (case sg => first | k_is | kx_is)
    (case st => first | k_is | kx_is)
    (case aMinit => first | k_is | kx_is)
    (case iMinit => first | k_is | kx_is)
    (case lMinit => first | k_is | kx_is)
    (case cMinit => first | k_is | kx_is)
    (case kMinit => first | k_is | kx_is)
    (case aMpath => first | k_is | kx_is)
    (case iMpath => first | k_is | kx_is)
    (case lMpath => first | k_is | kx_is)
    (case cMpath => first | k_is | kx_is)
    (case kMpath => first | k_is | kx_is)
    (case aMsize => first | k_is | kx_is)
    (case gMsize => first | k_is | kx_is)
    (case tMsize => first | k_is | kx_is)
    (case rMsizeh => first | k_is | kx_is)
    (case lMsize => first | k_is | kx_is)
    (case cMsize => first | k_is | kx_is)
    (case kMsize => first | k_is | kx_is)
    (case aMof => first | k_is | kx_is)
    (case rMofh => first | k_is | kx_is)
    (case iMof => first | k_is | kx_is)
    (case lMof => first | k_is | kx_is)
    (case cMof => first | k_is | kx_is)
    (case kMof => first | k_is | kx_is)
    (case aMneighbours => first | k_is | kx_is)
    (case iMneighbours => first | k_is | kx_is)
    (case lMneighbours => first | k_is | kx_is)
    (case cMneighbours => first | k_is | kx_is)
    (case kMneighbours => first | k_is | kx_is)
    (case aMdistance => first | k_is | kx_is)
    (case iMdistance => first | k_is | kx_is)
    (case lMdistance => first | k_is | kx_is)
    (case cMdistance => first | k_is | kx_is)
    (case kMdistance => first | k_is | kx_is)
    (case z_len => first | k_is | kx_is)
    (case z_isinstance => first | k_is | kx_is)
    (case z_int => first | k_is | kx_is)
    (case z_bool => first | k_is | kx_is)
    (case z_tuple => first | k_is | kx_is)
    (case z_list => first | k_is | kx_is)
    (case z_sorted => first | k_is | kx_is)
    (case z_min => first | k_is | kx_is)
    (case z_max => first | k_is | kx_is)
    (case z_range => first | k_is | kx_is)
    (case z_enumerate => first | k_is | kx_is)
    (case z_repr => first | k_is | kx_is)
    (case z_set => first | k_is | kx_is)
    (case z_all => first | k_is | kx_is)
    (case z_any => first | k_is | kx_is)
    (case z_zip => first | k_is | kx_is)
    (case z_str => first | k_is | kx_is)
    (case vMOST_SEARCHED => first | k_is | kx_is)
