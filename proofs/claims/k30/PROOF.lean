import PyProof.Rows.All
import Wide.All
import OpenK.AllK
import Wide.FinOn
import PyProof.EqAt
import PyProof.EqKinds
import PyProof.TupleCall
import KE.KExcInit
import KE.KExcIs
import KE.KExcLine
import HandS.ForMost
import HandS.Exc
import HandS.ExcInit
import HandS.ExcValue
import HandS.Defaults
import HandS.IsInst
import KE.GoesEnum
import HandS.Iter
import HandS.Star
import HandS.ClsMeth
import HandS.CallLocal
import HandS.SetFor
import HandS.Property
import HandS.SortInts
import HandS.SortRule
import HandS.Comp
import HandS.Flow
import HandS.Conv
import HandS.Style
import PyProof.ReprLen
import PyProof.ReprRoads
import PyProof.ReprNest
import PyProof.ReprHeadsEmpty
import HandS.TupAny
import KE.KRevSl
import KE.KTryMore
import HandS.WordsExc
import HandS.Zip
import HandS.RaiseMore
import HandS.List
import HandS.SortKw
import HandS.Sort
import HandS.Dict
import HandS.SetKeys
import KE.RegKTryMore
import PySem.Challenge.RW_treetrain_k30_passing_and_turning_length
set_option Elab.async false
set_option linter.all false
set_option maxRecDepth 100000
set_option maxHeartbeats 4000000
/-! Exceptions of the program as values: made by a call, a field read, isinstance. -/
namespace L2.TT
open PySem PySem.Spec PyProof.Rows PySem.W

/-- what the written part says of an exception class of the program -/
structure XC (K : Frag) (C : Addr) (bmB : List Value) (newId : String) : Prop where
  ini : excInitIn K C bmB newId = true
  ovr : excOver K C bmB = true
  sa : findIn K (.ref C) "__setattr__" = some (some (.builtin "object.__setattr__"))
  ga : findIn K (.ref C) "__getattribute__" = some (some (.builtin "BaseException.__getattribute__"))
  gg : findIn K (.ref C) "__getattr__" = some none
  sub : subIn K (.ref C) (.type "BaseException") = some true
  hd : hasDictIn K C = true
  kp : keepIn K (.ref C) = true
  ca : findIn K (.ref C) "__class__" = some (some (.builtin "object.__class__"))
  ob : mroIn K C (.type "object") = some true
/-- a built-in base of exceptions -/
structure XB (B newId initId : String) (bmB : List Value) : Prop where
  ex : ExcBaseFacts B newId initId bmB
  st : StoreFacts B bmB "object.__setattr__" "object"
abbrev bmV : List Value := [.type "ValueError", .type "Exception", .type "BaseException", .type "object"]
abbrev bmR : List Value := [.type "RuntimeError", .type "Exception", .type "BaseException", .type "object"]
abbrev bmL : List Value := [.type "LookupError", .type "Exception", .type "BaseException", .type "object"]
theorem xbV : XB "ValueError" "ValueError.__new__" "ValueError.__init__" bmV := ⟨F.excBase_ValueError, F.store_ValueError⟩
theorem xbR : XB "RuntimeError" "RuntimeError.__new__" "RuntimeError.__init__" bmR := ⟨F.excBase_RuntimeError, F.store_RuntimeError⟩
theorem xbL : XB "LookupError" "LookupError.__new__" "LookupError.__init__" bmL := ⟨F.excBase_LookupError, F.store_LookupError⟩

section
variable {prog : Program} {w : World} {A : Around} {E : Value → Shared → Prop} {R : Result → Shared → Prop} {hp : Heap} {g : Array GenState} {d : Drawn} {t : Nat} {os : OsState}
variable {K : Frag} {C x t0 : Addr} {name : Str} {tk : Tok} {v : Value} {B newId initId : String} {bmB : List Value}
/-- the heap after the exception's dict was laid, empty -/
def dictLaid (hp : Heap) (x : Addr) : Heap := (hp.push (dictOf [] 0)).update x fun o => { o with dict := some hp.objs.size }
theorem osa_first (Y : XB B newId initId bmB) (T : XC K C bmB newId) (X : K.In hp) (hx : hp.get? x = some (excObj C t0 none .none)) (ha : findIn K (.ref C) name = some none)
    (hq : ∀ h' tk', h'.Ns1 hp.objs.size (fun y => if y = name then some v else none) → Heap.SameBut hp.objs.size (dictLaid hp x) h' → R (.ok (.ret .none)) ⟨h', g, d, tk', os⟩) :
    codeAny (model prog w) A (.call (.builtin "object.__setattr__") ⟨[.ref x, .str name tk, v], []⟩) R ⟨hp, g, d, t, os⟩ := by
  have ht : takerIn K C name = some none := by unfold takerIn; rw [ha]; rfl
  refine osa_openX (s := ⟨hp, g, d, t, os⟩) (od := none) Y.st X ⟨hx, rfl, rfl, trivial⟩ T.ovr ht fun b => ?_
  obtain ⟨cd, hc, hd'⟩ := any_some T.hd
  have hxs : x ≠ hp.objs.size := Nat.ne_of_lt (Heap.lt_size hx)
  refine wpAny_bind (wpAny_pure (wpAny_bind (instanceDict_exc (s := ⟨hp, g, d, t, os⟩) hx (looks_clsIn X hc) hd' ?_)))
  refine HandSPX.store_in_new (hp := dictLaid hp x) ?_ fun h' tk' hn hs => hq h' tk' hn hs
  exact ⟨_, #[], _, (Heap.get?_update_ne _ _ _ _ hxs.symm).trans (Heap.get?_push_at rfl rfl), rfl, fun e he => absurd he (by simp), fun _ => rfl⟩
end
end L2.TT

namespace TR
open PySem PySem.Spec PyProof.Rows L2 L2.TT
def top (i : Nat) : Stmt := PySem.Challenge.pw_treetrain_k30_passing_and_turning_length.main.body.getD i (.Pass ⟨0, 0, 0, 0⟩)
abbrev s_wall : Stmt := top 0
abbrev s_InvalidTracks_init : Stmt := inClass (top 3) 0
abbrev s_InvalidStation_init : Stmt := inClass (top 4) 0
abbrev s_InvalidLength_init : Stmt := inClass (top 5) 0
abbrev s_InvalidPair_init : Stmt := inClass (top 6) 0
abbrev s_InvalidCount_init : Stmt := inClass (top 7) 0
abbrev s_InvalidText_init : Stmt := inClass (top 8) 0
abbrev s_is_integer : Stmt := top 10
abbrev s_is_number_from : Stmt := top 11
abbrev s_is_pair_of_stations : Stmt := top 12
abbrev s_is_station : Stmt := top 13
abbrev s_check_station : Stmt := top 14
abbrev s_check_length : Stmt := top 15
abbrev s_layers : Stmt := top 17
abbrev s_depth_behind : Stmt := top 19
abbrev s_branch_depths : Stmt := top 20
abbrev s_longest_path : Stmt := top 21
abbrev s_diameter : Stmt := top 22
abbrev s_deep_branches : Stmt := top 23
abbrev s_trunk : Stmt := top 24
abbrev s_pivots : Stmt := top 25
abbrev s_layers_behind : Stmt := top 26
abbrev s_stations_with_deep_branches : Stmt := top 27
abbrev s_distances_and_depths : Stmt := top 29
abbrev s_pockets_by_length : Stmt := top 30
abbrev s_passing_length : Stmt := top 32
abbrev s_turning_length : Stmt := top 33
abbrev s_free_classes : Stmt := top 34
abbrev s_third_depth : Stmt := top 35
abbrev s_pockets : Stmt := top 37
abbrev s_count_classes : Stmt := top 38
abbrev s_count_free_classes : Stmt := top 39
abbrev s_lines_of : Stmt := top 42
abbrev s_is_numeral : Stmt := top 43
abbrev s_word_at : Stmt := top 44
abbrev s_check_word : Stmt := top 45
abbrev s_number_at : Stmt := top 46
abbrev s_check_line_ends : Stmt := top 47
abbrev s_check_text_ends : Stmt := top 48
abbrev s_joined : Stmt := top 50
abbrev s_first_wrong_track : Stmt := top 51
abbrev s_read_tracks : Stmt := top 52
abbrev s_track_at : Stmt := top 53
abbrev s_Railway_init : Stmt := inClass (top 55) 1
abbrev s_Railway_of : Stmt := inClass (top 55) 2
abbrev s_Railway_is_tracks : Stmt := inClass (top 55) 3
abbrev s_Railway_line : Stmt := inClass (top 55) 4
abbrev s_Railway_star : Stmt := inClass (top 55) 5
abbrev s_Railway_read : Stmt := inClass (top 55) 6
abbrev s_Railway_size : Stmt := inClass (top 55) 7
abbrev s_Railway_tracks : Stmt := inClass (top 55) 8
abbrev s_Railway_neighbours : Stmt := inClass (top 55) 9
abbrev s_Railway_distance : Stmt := inClass (top 55) 10
abbrev s_Railway_path : Stmt := inClass (top 55) 11
abbrev s_Railway_is_same : Stmt := inClass (top 55) 12
abbrev s_check_count : Stmt := top 56
abbrev s_neighbours_of : Stmt := top 57
abbrev s_places_below_first : Stmt := top 58
abbrev s_law_begin : Stmt := top 60
abbrev s_law_mixed : Stmt := top 61
abbrev s_law_next : Stmt := top 62
abbrev s_law_tracks : Stmt := top 63
abbrev s_law_links : Stmt := top 64
abbrev s_law_gaps : Stmt := top 65
abbrev s_law_depth : Stmt := top 66
abbrev s_law_third : Stmt := top 67
abbrev s_law : Stmt := top 68
abbrev NTr : List Str := ["draw", "most", "count", "shape", "found", "station", "back", "other", "at"]
end TR

namespace L2.TT
open PySem PySem.Spec PyProof.Rows
set_option maxHeartbeats 1000000 in
theorem meets_enum1 {v : Value} {o : Obj} {H : Heap → Prop} (B : Begins v o H) :
    Meets (Builtin.«enumerate.__new__» ⟨[.type "enumerate", v], []⟩) (fun _ R s => H s.heap ∧
      R (.ok (.ret (.ref (s.heap.push o).objs.size))) { s with heap := (s.heap.push o).push { cls := .type "enumerate", data := .fields #[.none, .bool false, .ref s.heap.objs.size, rawInt 0, .none, .none] } }) :=
  .of_wp fun prog w A R s h => by
    obtain ⟨hp, g, d, tk, os⟩ := s; obtain ⟨h1, h⟩ := h
    have hsub := sub_enumerate
    have q1 : ∀ {A' : Around} {E : Value → Shared → Prop} {Q : Value → Shared → Prop}, Q (.ref hp.objs.size) ⟨hp.push o, g, d, tk, os⟩ → wpAny (model prog w) A' (pyIter v) Q E ⟨hp, g, d, tk, os⟩ :=
      fun q => B.iter prog w _ _ ⟨hp, g, d, tk, os⟩ _ h1 q
    wp_walk using q1
    refine wpAny_stack_any fun st => wpAny_pure ?_
    split
    · rename_i c _ _ _ _ _
      cases (c == Value.type "enumerate")
      · wp_walk using q1
        exact ⟨_, rfl, h⟩
      · wp_walk using q1
        exact ⟨_, rfl, h⟩
    · wp_walk using q1
      exact ⟨_, rfl, h⟩
theorem enum_begins1 {prog : Program} {w : World} {A : Around} {E : Value → Shared → Prop} {s : Shared} {v : Value} {o : Obj} {H : Heap → Prop} {Q : Value → Shared → Prop} (B : Begins v o H) (h1 : H s.heap)
    (h : ∀ h', IsEnum h' (s.heap.objs.size + 1) s.heap.objs.size 0 .none → h'.get? s.heap.objs.size = some o → h'.objs.size = s.heap.objs.size + 2 →
      (∀ b o, s.heap.get? b = some o → h'.get? b = some o) → Q (.ref (s.heap.objs.size + 1)) { s with heap := h' }) :
    wpAny (model prog w) A (call (.type "enumerate") [v]) Q E s := by
  refine callType_new F.called_enumerate (by decide) (F.typeCall_enumerate_1 _) (F.newCall_enumerate_1 _) (fun obj => F.args_object_init_2 obj _) F.entry_enumerate_new
    (meets_enum1 B) ⟨h1, ?_⟩
  have hz : (s.heap.push o).objs.size = s.heap.objs.size + 1 := Heap.size_push ..
  show _ ∧ _
  rw [hz]
  have he : IsEnum ((s.heap.push o).push { cls := .type "enumerate", data := .fields #[.none, .bool false, .ref s.heap.objs.size, rawInt 0, .none, .none] }) (s.heap.objs.size + 1) s.heap.objs.size 0 .none := by
    have := Heap.get?_push_size (s.heap.push o) (o := { cls := .type "enumerate", data := .fields #[.none, .bool false, .ref s.heap.objs.size, rawInt 0, .none, .none] }) rfl
    rw [hz] at this; exact this
  refine ⟨⟨_, he, rfl⟩, h _ he (Heap.get?_push_of_some _ (Heap.get?_push_size _ B.free)) (by rw [Heap.size_push, hz]) fun b o x => Heap.get?_push_of_some _ (Heap.get?_push_of_some _ x)⟩
/-- enumerate over a tuple -/
def IteT (K : PySem.W.Frag) (a : Addr) : It :=
  ⟨fun i H => ∃ (xs : List V) (x : V), SqT K H a xs ∧ xs[i]? = some x, fun i H v H' => ∃ T x, v = .ref T ∧ H T = none ∧ H' = upd H T (.tup [.int (i : Nat), x]) ∧ ∀ xs, SqT K H a xs → xs[i]? = some x, fun i H => ∃ xs : List V, SqT K H a xs ∧ xs.length ≤ i⟩
theorem turn_enumT {P : Program} {w : World} {K : PySem.W.Frag} {elts : List Expr} {kk : Nat} {tpos : Pos} (a e it : Addr) (hai : a ≠ it) (hea : e ≠ a) :
    Turn P w K (.Tuple elts kk tpos) (IteT K a) [e, it] e (fun i h => (∃ old, IsEnum h e it ((i : Nat) : Int) old) ∧ h.IsTupleIter it a i ∧ e ≠ it) where
  mem := by simp
  obj := fun i h st b hb => by
    obtain ⟨⟨old, he⟩, ⟨o, ho, hc, hd⟩, _⟩ := st
    have e' : b = e ∨ b = it := by simpa using hb
    rcases e' with z | z
    · rw [z]; exact ⟨_, he, fun v q => nomatch q⟩
    · rw [z]; exact ⟨o, ho, fun v q => by rw [hd] at q; cases q⟩
  keep := fun i h h' st k => let ⟨⟨old, he⟩, hi, hne⟩ := st; ⟨⟨old, k e (by simp) _ he⟩, hi.at fun o q => k it (by simp) o q, hne⟩
  item := by
    intro X hP hw hK hc i pins s σ H E I hf st hg
    subst hP hw hK
    obtain ⟨⟨old, he⟩, hit, hne⟩ := st
    obtain ⟨xs, x, hq, hx⟩ := hg
    obtain ⟨its, rv, p, hz⟩ := I.tuple hq
    obtain ⟨u, hu, ru⟩ := rv.get hx
    have hel : e < s.heap.objs.size := Heap.lt_size he
    have hil : it < s.heap.objs.size := by obtain ⟨_, q, _⟩ := hit; exact Heap.lt_size q
    have D := Draws.tuple (prog := X.prog) (w := X.w) (A := X.A.in1) (I.ok.hd hc) it a hai its.toArray
    have hlt : i < its.toArray.size := by
      have h2 := (List.getElem?_eq_some_iff.mp hu).1
      simpa using h2
    refine wpAny_pyNext_enum_itemD D he ⟨hit, p⟩ hlt hne (by simp only [List.mem_cons, List.not_mem_nil, or_false, not_or]; exact ⟨hne, hea⟩) fun x' h' tk hx' ho hit' hT hsz hk => ?_
    have exu : x' = u := by
      have e1 : its.toArray[i]? = some x' := hx'
      have e2 : its.toArray[i]? = some u := by simpa using hu
      exact Option.some.inj (e1.symm.trans e2)
    subst exu
    refine ⟨_, rfl, wpAny_letOwnedTupleGo_enum (s := { s with heap := h', toks := tk + 1 }) ho fun h'' he' sb => ?_⟩
    have hT2 : h''.get? s.heap.objs.size = some { cls := .type "tuple", data := .seq #[.int i tk, x'] } := (sb.2 _ (Nat.ne_of_gt hel)).trans hT
    have new : ObjOk X.prog X.w (upd H s.heap.objs.size (.tup [.int (i : Nat), x])) h'' s.heap.objs.size (.tup [.int (i : Nat), x]) :=
      ⟨by show 2 ≤ sizeLine; decide, [.int i tk, x'], .cons ⟨_, rfl⟩ (.cons ru .nil), ⟨_, hT2, rfl, _, rfl⟩⟩
    have I1 : Inv X pins σ (upd H s.heap.objs.size (.tup [.int (i : Nat), x])) { s with heap := h'', toks := tk + 1 } :=
      I.turnedNew (ch := [e, it]) (fun b ob hb q => (sb.2 b (fun z => hb (by simp [z]))).trans (hk b ob (fun z => hb (by simp [z])) (fun z => hb (by simp [z])) q)) hf (Nat.le_refl _) new
    refine ⟨.ref s.heap.objs.size, _, I1, rfl, ⟨_, x, rfl, I.hok.fresh (Nat.le_refl _), rfl, fun ys hy => by rw [I.tuple_inj hy hq]; exact hx⟩, ⟨⟨x', ?_⟩, hit'.1.at fun o q => (sb.2 it (Ne.symm hne)).trans q, hne⟩, fun b hb => ?_⟩
    · have e1 : ((i + 1 : Nat) : Int) = (i : Int) + 1 := by omega
      rw [e1]; exact he'
    · have hb' : b < s.heap.objs.size := by
        have e' : b = e ∨ b = it := by simpa using hb
        rcases e' with z | z
        · rw [z]; exact hel
        · rw [z]; exact hil
      rw [upd_ne (Nat.ne_of_lt hb')]
      exact (hf b hb).1
  done := by
    intro X hP hw hK hc i pins s σ H E I hf st hg
    subst hP hw hK
    obtain ⟨⟨old, he⟩, hit, hne⟩ := st
    obtain ⟨xs, hq, hx⟩ := hg
    obtain ⟨its, rv, p, hz⟩ := I.tuple hq
    obtain ⟨f0, f1, f2, f3, f4, f5⟩ := hf it (by simp)
    have hl := rv.length
    have hi2 : its.toArray[i]? = none := by simp; omega
    have D := Draws.tuple (prog := X.prog) (w := X.w) (A := X.A.in1) (I.ok.hd hc) it a hai its.toArray
    have hT : s.TypeIs (.ref e) "enumerate" := ⟨_, he, rfl⟩
    unfold pyNext
    refine wpAny_bind (wpAny_attempt (wpAny_callSpecial?_slot (name := Str.ofString "__next__") hT F.slot_enumerate_next
      (wpAny_call_entry F.slot_enumerate_next hT F.entry_enumerate_next ?_ (F.args_enumerate_next_1 _))))
    show wpAny _ _ (field (.ref e) 2 >>= _) _ _ _
    refine wpAny_bind (wpAny_field he rfl (x := .ref it) rfl ?_)
    refine wpAny_bind (wpAny_nextOf_tuple_end (I.ok.hd hc) hit p hi2 fun h' x he' hx' => ?_)
    obtain ⟨o, ho, hc'⟩ := hx'
    refine wpAny_bind (wpAny_isInstance (T := "StopIteration") (b := true) ⟨o, ho, hc'⟩ isSubtype_stop ?_)
    exact wpAny_pure ⟨rfl, I.turned (t' := s.toks) (fun b o hb q => he' b o hb q) f0 f1 f3 f4 f5⟩
  self := fun A i s Q E st h => let ⟨⟨_, he⟩, _⟩ := st; wpAny_pyIter_enum he h
def iEnumT (K : PySem.W.Frag) (ta : TA) : TI := fun σ H R => ta σ H fun vs H1 => ∃ a xs, vs = [.ref a] ∧ SqT K H1 a xs ∧ R (IteT K a) H1
theorem pi_enumT {X : Cx} {e : Expr} {ta : TA} {p pos tpos : Pos} {elts : List Expr} {kk : Nat} (hg : Gl X "enumerate") (hm : X.mg "enumerate" = none) (ha : PA X [e] ta) (hs : starEach [e] X.env = [(false, eval e X.env)] := by rfl) :
    PI X (.Tuple elts kk tpos) (.Call (.Name "enumerate" p) [e] [] pos) (iEnumT X.K ta) := by
  refine ⟨fun pins s σ H R I h => ?_⟩
  refine Call_ (ld_blt I hg hm boot_enumerate (PyProof.Rows.callWith_type1 (thn (ha.run pos pins s σ H _ I h) fun us s1 ⟨vs, H1, I1, r1, q1⟩ => ?_) hs rfl))
  obtain ⟨a, xs, ex, hq, q⟩ := q1
  subst ex
  cases r1 with
  | cons r rr =>
    cases rr
    cases r
    obtain ⟨its, rv, p', hz⟩ := I1.tuple hq
    have hal : a < s1.heap.objs.size := by obtain ⟨_, z, _⟩ := (show s1.heap.IsTuple a its.toArray from p'); exact Heap.lt_size z
    refine enum_begins1 (begins_tuple a its.toArray) p' fun h' he hit hsz hk => wpAny_pyIter_enum he ?_
    have I2 : Inv X pins σ H1 { s1 with heap := h' } := I1.kept (t' := s1.toks) hk
    refine ⟨s1.heap.objs.size + 1, [s1.heap.objs.size + 1, s1.heap.objs.size], _, _, H1, rfl, I2, turn_enumT a (s1.heap.objs.size + 1) s1.heap.objs.size (Nat.ne_of_lt hal) (Nat.ne_of_gt (Nat.lt_succ_of_lt hal)), ⟨⟨.none, he⟩, ⟨_, hit, rfl, rfl⟩, Nat.succ_ne_self _⟩, fun b hb => ?_, q⟩
    have e' : b = s1.heap.objs.size + 1 ∨ b = s1.heap.objs.size := by simpa using hb
    have hle : s1.heap.objs.size ≤ b := by
      rcases e' with z | z
      · rw [z]; exact Nat.le_add_right _ _
      · rw [z]; exact Nat.le_refl _
    exact I1.fpOk hle (I1.hok.fresh hle)
/-- for i, x in enumerate(t), t a tuple standing still -/
theorem for_enumT {K : PySem.W.Frag} {a : Addr} {xs : List V} {g : TG} {tb : TS} {D : Ends} {σ : L2.St} {H : Hp} (Pv : Nat → L2.St → Hp → Prop) (h0 : Pv 0 σ H) (hl : ∀ i σ H, i ≤ xs.length → Pv i σ H → SqT K H a xs)
    (hs : ∀ i x T σ H, xs[i]? = some x → Pv i σ H → H T = none → g (.ref T) σ (upd H T (.tup [.int (i : Nat), x])) fun σ2 H2 => tb { D with nx := Pv (i + 1), ct := Pv (i + 1), bk := D.nx } σ2 H2) (hd : ∀ σ H, Pv xs.length σ H → D.nx σ H) :
    ∃ W : Nat → Nat → L2.St → Hp → Prop, (∃ m, W 0 m σ H) ∧ ∀ i m σ H, W i m σ H →
      ((IteT K a).stop i H ∧ D.nx σ H) ∨ ((IteT K a).go i H ∧ ∃ N : L2.St → Hp → Prop, (∀ σ' H', N σ' H' → ∃ m', m' < m ∧ W (i + 1) m' σ' H') ∧ ∀ x H', (IteT K a).yld i H x H' → g x σ H' fun σ2 H2 => tb { D with nx := N, ct := N, bk := D.nx } σ2 H2) := by
  refine ⟨fun i m σ H => m = xs.length - i ∧ i ≤ xs.length ∧ Pv i σ H, ⟨xs.length, by simp, Nat.zero_le _, h0⟩, ?_⟩
  rintro i m σ H ⟨rfl, hi, p⟩
  have q := hl i σ H hi p
  by_cases hlt : i < xs.length
  · refine .inr ⟨⟨xs, xs[i], q, by simp [hlt]⟩, Pv (i + 1), fun σ' H' p' => ⟨xs.length - (i + 1), by omega, rfl, hlt, p'⟩, fun x H' y => ?_⟩
    obtain ⟨T, z, rfl, hT, rfl, y⟩ := y
    exact hs i z T σ H (y xs q) p hT
  · have e : i = xs.length := by omega
    subst e
    exact .inl ⟨⟨xs, q, Nat.le_refl _⟩, hd σ H p⟩
end L2.TT

namespace L2.TT
open PySem PySem.Spec PyProof.Rows
section
variable {prog : Program} {w : World} {A : Around} {E : Value → Shared → Prop} {s : Shared} {l : Addr} {xs : Array (Int × Tok)}
theorem iter_intTup {Q : Value → Shared → Prop} (hl : s.heap.IsTuple l (intItems xs))
    (h : ∀ s₂ : Shared, s₂ = { s with heap := s.heap.push { cls := .type "tuple_iterator", data := .fields #[.ref l, .int 0 0] } } →
      (s₂.heap.IsTupleIter s.heap.objs.size l 0 ∧ s₂.heap.IsTuple l (intItems xs)) → (∀ b ∈ [s.heap.objs.size, l], b < s₂.heap.objs.size) → l ≠ s.heap.objs.size → Q (.ref s.heap.objs.size) s₂) :
    wpAny (model prog w) A (pyIter (.ref l)) Q E s := by
  have hlt : l < s.heap.objs.size := by obtain ⟨_, e, _⟩ := hl; exact Heap.lt_size e
  refine wpAny_pyIter_tuple hl (h _ rfl ⟨⟨_, Heap.get?_push_size _ rfl, rfl, rfl⟩, hl.at fun o e => Heap.get?_push_of_some _ e⟩ (fun b hb => ?_) (Nat.ne_of_lt hlt))
  show b < (s.heap.push _).objs.size
  rw [Heap.size_push]
  rcases List.mem_cons.mp hb with rfl | hb
  · exact Nat.lt_succ_self _
  · rcases List.mem_cons.mp hb with rfl | hb
    · exact Nat.lt_succ_of_lt hlt
    · cases hb
theorem old_kept2 {o : Obj} {h' : Heap} (hk : ∀ b u, b ∉ [s.heap.objs.size] → (s.heap.push o).get? b = some u → h'.get? b = some u) :
    ∀ b u, s.heap.get? b = some u → h'.get? b = some u := fun b u e => by
  refine hk b u (fun hm => ?_) (Heap.get?_push_of_some _ e)
  rcases List.mem_cons.mp hm with e1 | hm
  · exact absurd (e1 ▸ Heap.lt_size e) (Nat.lt_irrefl _)
  · cases hm
theorem max_intTup {Q : Value → Shared → Prop} (hh : A.handled = none) (hl : s.heap.IsTuple l (intItems xs)) (hne : 0 < xs.size)
    (h : ∀ v h' tk, (intItems xs)[argBest (fun i j => decide (numAt xs i > numAt xs j)) (xs.size - 1)]? = some v → (∀ b o, s.heap.get? b = some o → h'.get? b = some o) → Q v { s with heap := h', toks := tk }) :
    wpAny (model prog w) A (call (.builtin "max") [.ref l]) Q E s := by
  refine call_max_walk (iter_intTup hl fun s₂ e st hfp hlI => ?_)
  subst e
  refine ⟨_, _, _, _, _, _, _, rfl, Walks.tuple (A := A.in1) hh _ l hlI (intItems xs), st, hfp, by simpa [intItems] using hne, CmpOf.ints_gt (numAt xs) (fun _ _ => intItems_at), fun v h' tk hP hk => ?_⟩
  exact h v h' tk (by simpa [intItems] using hP) (old_kept2 hk)
theorem min_intTup {Q : Value → Shared → Prop} (hh : A.handled = none) (hl : s.heap.IsTuple l (intItems xs)) (hne : 0 < xs.size)
    (h : ∀ v h' tk, (intItems xs)[argBest (fun i j => decide (numAt xs i < numAt xs j)) (xs.size - 1)]? = some v → (∀ b o, s.heap.get? b = some o → h'.get? b = some o) → Q v { s with heap := h', toks := tk }) :
    wpAny (model prog w) A (call (.builtin "min") [.ref l]) Q E s := by
  refine call_min_walk (iter_intTup hl fun s₂ e st hfp hlI => ?_)
  subst e
  refine ⟨_, _, _, _, _, _, _, rfl, Walks.tuple (A := A.in1) hh _ l hlI (intItems xs), st, hfp, by simpa [intItems] using hne, CmpOf.ints_lt (numAt xs) (fun _ _ => intItems_at), fun v h' tk hP hk => ?_⟩
  exact h v h' tk (by simpa [intItems] using hP) (old_kept2 hk)
end
section
variable {X : Cx}
/-- max(t), min(t), t a pair of ints -/
def rMaxP (K : PySem.W.Frag) : List V → Hp → VK → Prop := fun vs H Q => ∃ (a : Addr) (i j : Int), vs = [V.ref a] ∧ SqT K H a [.int i, .int j] ∧ Q (.int (max i j)) H
def rMinP (K : PySem.W.Frag) : List V → Hp → VK → Prop := fun vs H Q => ∃ (a : Addr) (i j : Int), vs = [V.ref a] ∧ SqT K H a [.int i, .int j] ∧ Q (.int (min i j)) H
theorem cr_maxP (hc : X.calm = true) : CallR X (.builtin "max") (rMaxP X.K) := by
  intro pins s σ H vs us Q I r h
  obtain ⟨a, i, j, rfl, hs, q⟩ := h
  obtain ⟨its, rv, hl, _⟩ := I.tuple hs
  rw [Vals.ref1 r]
  cases rv with
  | cons r1 rr =>
    cases rr with
    | cons r2 rr =>
      cases rr
      obtain ⟨t1, rfl⟩ := r1
      obtain ⟨t2, rfl⟩ := r2
      have hl2 : s.heap.IsTuple a (intItems #[(i, t1), (j, t2)]) := by rw [show intItems #[(i, t1), (j, t2)] = #[Value.int i t1, Value.int j t2] by simp [intItems]]; exact hl
      refine max_intTup (I.ok.hd hc) hl2 (show 0 < 2 by decide) fun v h' tk hv hk => ?_
      have e0 : numAt #[(i, t1), (j, t2)] 0 = i := rfl
      have e1 : numAt #[(i, t1), (j, t2)] 1 = j := rfl
      have hv2 := hv
      obtain ⟨t, ev⟩ := intItems_at hv
      obtain ⟨h1, h2⟩ := argBest_gt (numAt #[(i, t1), (j, t2)]) 1
      have b0 := h2 0 (by omega)
      have b1 := h2 1 (by omega)
      subst ev
      refine ⟨.int _, H, I.kept hk, ⟨t, rfl⟩, ?_⟩
      have eb : argBest (fun i_1 j_1 => decide (numAt #[(i, t1), (j, t2)] i_1 > numAt #[(i, t1), (j, t2)] j_1)) (#[(i, t1), (j, t2)].size - 1) = 0 ∨ argBest (fun i_1 j_1 => decide (numAt #[(i, t1), (j, t2)] i_1 > numAt #[(i, t1), (j, t2)] j_1)) (#[(i, t1), (j, t2)].size - 1) = 1 := by
        show argBest _ 1 = 0 ∨ argBest _ 1 = 1
        omega
      rw [e0] at b0
      rw [e1] at b1
      have em : numAt #[(i, t1), (j, t2)] (argBest (fun i_1 j_1 => decide (numAt #[(i, t1), (j, t2)] i_1 > numAt #[(i, t1), (j, t2)] j_1)) (#[(i, t1), (j, t2)].size - 1)) = max i j := by
        have z : ∀ k, k = 0 ∨ k = 1 → numAt #[(i, t1), (j, t2)] k = i ∨ numAt #[(i, t1), (j, t2)] k = j := fun k hk => by
          rcases hk with rfl | rfl
          · exact .inl e0
          · exact .inr e1
        have z1 := z _ eb
        have b0' : i ≤ numAt #[(i, t1), (j, t2)] (argBest (fun i_1 j_1 => decide (numAt #[(i, t1), (j, t2)] i_1 > numAt #[(i, t1), (j, t2)] j_1)) (#[(i, t1), (j, t2)].size - 1)) := b0
        have b1' : j ≤ numAt #[(i, t1), (j, t2)] (argBest (fun i_1 j_1 => decide (numAt #[(i, t1), (j, t2)] i_1 > numAt #[(i, t1), (j, t2)] j_1)) (#[(i, t1), (j, t2)].size - 1)) := b1
        generalize numAt #[(i, t1), (j, t2)] (argBest (fun i_1 j_1 => decide (numAt #[(i, t1), (j, t2)] i_1 > numAt #[(i, t1), (j, t2)] j_1)) (#[(i, t1), (j, t2)].size - 1)) = m at z1 b0' b1'
        omega
      rw [em]
      exact q
theorem cr_minP (hc : X.calm = true) : CallR X (.builtin "min") (rMinP X.K) := by
  intro pins s σ H vs us Q I r h
  obtain ⟨a, i, j, rfl, hs, q⟩ := h
  obtain ⟨its, rv, hl, _⟩ := I.tuple hs
  rw [Vals.ref1 r]
  cases rv with
  | cons r1 rr =>
    cases rr with
    | cons r2 rr =>
      cases rr
      obtain ⟨t1, rfl⟩ := r1
      obtain ⟨t2, rfl⟩ := r2
      have hl2 : s.heap.IsTuple a (intItems #[(i, t1), (j, t2)]) := by rw [show intItems #[(i, t1), (j, t2)] = #[Value.int i t1, Value.int j t2] by simp [intItems]]; exact hl
      refine min_intTup (I.ok.hd hc) hl2 (show 0 < 2 by decide) fun v h' tk hv hk => ?_
      have e0 : numAt #[(i, t1), (j, t2)] 0 = i := rfl
      have e1 : numAt #[(i, t1), (j, t2)] 1 = j := rfl
      obtain ⟨t, ev⟩ := intItems_at hv
      obtain ⟨h1, h2⟩ := argBest_lt (numAt #[(i, t1), (j, t2)]) 1
      have b0 := h2 0 (by omega)
      have b1 := h2 1 (by omega)
      subst ev
      refine ⟨.int _, H, I.kept hk, ⟨t, rfl⟩, ?_⟩
      have eb : argBest (fun i_1 j_1 => decide (numAt #[(i, t1), (j, t2)] i_1 < numAt #[(i, t1), (j, t2)] j_1)) (#[(i, t1), (j, t2)].size - 1) = 0 ∨ argBest (fun i_1 j_1 => decide (numAt #[(i, t1), (j, t2)] i_1 < numAt #[(i, t1), (j, t2)] j_1)) (#[(i, t1), (j, t2)].size - 1) = 1 := by
        show argBest _ 1 = 0 ∨ argBest _ 1 = 1
        omega
      rw [e0] at b0
      rw [e1] at b1
      have em : numAt #[(i, t1), (j, t2)] (argBest (fun i_1 j_1 => decide (numAt #[(i, t1), (j, t2)] i_1 < numAt #[(i, t1), (j, t2)] j_1)) (#[(i, t1), (j, t2)].size - 1)) = min i j := by
        have z : ∀ k, k = 0 ∨ k = 1 → numAt #[(i, t1), (j, t2)] k = i ∨ numAt #[(i, t1), (j, t2)] k = j := fun k hk => by
          rcases hk with rfl | rfl
          · exact .inl e0
          · exact .inr e1
        have z1 := z _ eb
        have b0' : numAt #[(i, t1), (j, t2)] (argBest (fun i_1 j_1 => decide (numAt #[(i, t1), (j, t2)] i_1 < numAt #[(i, t1), (j, t2)] j_1)) (#[(i, t1), (j, t2)].size - 1)) ≤ i := b0
        have b1' : numAt #[(i, t1), (j, t2)] (argBest (fun i_1 j_1 => decide (numAt #[(i, t1), (j, t2)] i_1 < numAt #[(i, t1), (j, t2)] j_1)) (#[(i, t1), (j, t2)].size - 1)) ≤ j := b1
        generalize numAt #[(i, t1), (j, t2)] (argBest (fun i_1 j_1 => decide (numAt #[(i, t1), (j, t2)] i_1 < numAt #[(i, t1), (j, t2)] j_1)) (#[(i, t1), (j, t2)].size - 1)) = m at z1 b0' b1'
        omega
      rw [em]
      exact q
/-- a target o.f -/
def gFld (K : PySem.W.Frag) (ta : TE) (f : Str) : TG := fun y σ H Q => ta σ H fun x H2 => ∃ a C dx fs, x = .ref a ∧ H2 a = some (.ins C dx fs) ∧ Cls K C ∧ NoAttr K C f ∧ fs.length < 1000 ∧ Q σ (upd H2 a (.ins C dx (putF f y fs)))
theorem pg_fld {o : Expr} {f : Str} {pos : Pos} {ta : TE} (ho : PE X o ta) : PG X (.Attribute o f pos) (gFld X.K ta f) := by
  refine ⟨fun pins s σ H v u Q I r h => ?_⟩
  rw [arm_assign_Attribute]
  refine wpAny_bind (wpAny_holding (thn (ho.run pins s σ H _ I h) fun ov s1 ⟨x, H1, I1, r1, a, C, dx, fs, ex, ea, c, n, l, q⟩ => ?_))
  subst ex
  obtain rfl : ov = Value.ref a := r1
  refine wpAny_bind (wpAny_standAt (wpAny_bind (wpAny_holding (setattr_ok I1 ea c n l r fun s2 I2 => ?_))))
  exact wpAny_release ⟨σ, _, I2, q⟩
end
end L2.TT

namespace L2.TT
open PySem PySem.Spec PyProof.Rows L2 StX
/-- x(*y), x a local name that holds the class at C -/
def tMakeLS (i : Nat) (K : PySem.W.Frag) (C : Addr) (sp : Sp) (E : XK) (te : TE) : TE := fun σ H Q => σ[i]? = some (some (.ref C)) ∧ te σ H fun y H1 => ∃ a xs, y = V.ref a ∧ (SqT K H1 a xs ∨ SqL K H1 a xs) ∧
  ∀ o dx, H1 o = Option.none → H1 dx = Option.none → dx ≠ o → sp (V.ref o :: xs) (upd (upd H1 dx (.own o)) o (.ins C dx [])) (fun v H2 => v = .non ∧ Q (.ref o) H2) E
section
variable {X : Cx} {CX : CXT} {k i : Nat} {f C : Addr} {sp : Sp} {E : XK} {x : Str} {e : Expr} {te : TE} {p sp_ pos : Pos}
theorem pe_makeLS (M : Mk X.K C f) (F : FnR X.prog X.w X.K X.mg X.base CX k f sp) (hr : Room (k + 1) X.A) (hN : X.N[i]? = some x) (hv : Vis X.env.scope x) (hx : Passes CX X E) (he : PE X e te)
    (hdb : (x == ("__debug__" : Str)) = false := by decide) (hcd : (x == ("__classdict__" : Str)) = false := by decide)
    (hst : starEach [.Starred e sp_] X.env = [(true, eval e X.env)] := by rfl) : PE X (.Call (.Name x p) [.Starred e sp_] [] pos) (tMakeLS i X.K C sp E te) := by
  refine ⟨fun pins s σ H Q I h => ?_⟩
  obtain ⟨hs, ht⟩ := h
  refine wpAny_Call_Name_kw (thn ((pe_var (pos := p) hN hv hdb hcd).run pins s σ H (fun v H1 => v = .ref C ∧ H1 = H) I ⟨.ref C, hs, rfl, rfl⟩) fun u s1 ⟨v, H1, I1, r1, q1⟩ => ?_)
  obtain ⟨rfl, rfl⟩ := q1
  cases r1
  refine PySem.W.callWith_S (h₀ := X.base) I.ok.mod.kin M.kp (thn (he.run pins s1 σ _ _ I1 ht) fun v s2 ⟨y, H2, I2, ry, a, xs, ey, hxs, q⟩ => ?_) hst
  subst ey
  obtain rfl : v = Value.ref a := ry
  exact star_any I2 hxs fun us s3 I3 rv => ⟨I3.kIn, run_makeR M F hr hx I3 rv q⟩
end
end L2.TT

namespace L2.TT
open PySem PySem.Spec PyProof.Rows
section
variable {X : Cx} {pins : List (Addr × Obj)} {σ : St} {H : Hp} {s : Shared}
/-- xs + ys, two lists that may be known ones -/
def rCatL (K : PySem.W.Frag) : R2 := fun x y H Q => ∃ l b xs zs, x = .ref l ∧ y = .ref b ∧ SqL K H l xs ∧ SqL K H b zs ∧ xs.length + zs.length ≤ sizeLine ∧ ∀ p, H p = none → Q (.ref p) (upd H p (.lst (xs ++ zs)))
theorem op_catL : OpR X (binaryOp .Add) (rCatL X.K) := by
  intro pins s σ H x y v u Q I rx ry h
  obtain ⟨l, b, xs, zs, rfl, rfl, h1, h2, hz, q⟩ := h
  cases rx
  cases ry
  obtain ⟨its, r1, ⟨⟨c1, d1, e1, sl1⟩, n1, ho1, hc1, hd1, he1⟩, _⟩ := I.list h1
  obtain ⟨jts, r2, ⟨⟨c2, d2, e2, sl2⟩, n2, ho2, hc2, hd2, he2⟩, _⟩ := I.list h2
  simp only at hc1 he1 hc2 he2
  subst hc1 he1 hc2 he2
  have l1 := r1.length
  have l2 := r2.length
  refine concat_meets ⟨_, ho1, rfl⟩ ⟨_, ho2, rfl⟩ noFill_list_add seq_list_add PySem.F.slot_list_add PySem.F.entry_list_add (PySem.F.args_list_add_2 _ _) (list_addW l b its.toArray jts.toArray n1 n2 d1 d2 sl1 sl2 (by rw [List.size_toArray, List.size_toArray]; omega)) ⟨ho1, ho2, ?_⟩
  have ea : its.toArray ++ jts.toArray = (its ++ jts).toArray := by simp
  rw [ea]
  exact ⟨.ref _, _, I.lnew (t' := s.toks) (r1.append r2) (by rw [List.length_append]; omega), rfl, q _ I.fresh⟩
/-- the bools of a list counted -/
def eqb (k : Bool) : Value → Bool
  | .bool b => b == k
  | _ => false
theorem vals_bools : ∀ {us : List Value} {bs : List Bool}, Vals (bs.map V.bl) us → us = bs.map Value.bool
  | [], [], _ => rfl
  | _ :: _, [], h => by cases h
  | [], _ :: _, h => by cases h
  | u :: us, b :: bs, h => by
    cases h with
    | cons r t =>
      cases (show u = Value.bool b from r)
      rw [vals_bools t]
      rfl
theorem count_bools (k : Bool) : ∀ bs : List Bool, (bs.map Value.bool).countP (eqb k) = bs.count k
  | [] => rfl
  | b :: r => by
    rw [List.map_cons, List.countP_cons, List.count_cons, count_bools k r]
    rfl
def rCntB (K : PySem.W.Frag) : V → List V → Hp → VK → Prop := fun x xs H Q => ∃ (p : Addr) (bs : List Bool) (k : Bool), x = .ref p ∧ xs = [.bl k] ∧ SqL K H p (bs.map V.bl) ∧ Q (.int (bs.count k : Nat)) H
theorem mt_cntB : MtR X "list.count" (rCntB X.K) := by
  intro pins s σ H x xs v us Q I rx rxs h
  obtain ⟨p, bs, k, rfl, rfl, hs, q⟩ := h
  cases rx
  obtain ⟨u, rfl, ru⟩ := rxs.one
  cases (show u = Value.bool k from ru)
  obtain ⟨its, rv, ⟨⟨cls, dd, data, sl⟩, n, ho, hc, hdn, hd⟩, hlen⟩ := I.list hs
  simp only at hc hd
  subst hc hd
  have e := vals_bools rv
  subst e
  refine call_meets PySem.F.slot_list_count ⟨_, ho, rfl⟩ PySem.F.entry_list_count (PySem.F.args_list_count_2 _ _)
    (SeqAt.list_countAt p (bs.map Value.bool).toArray n dd sl (.bool k) (eqb k)) ⟨ho, fun y hy => ?_, ?_⟩
  · obtain ⟨b, _, rfl⟩ := List.mem_map.mp (List.mem_toArray.mp hy)
    exact SeqAt.EqAt.bool_bool b k
  · refine ⟨.int (bs.count k : Nat), H, I.tok _, ⟨s.toks, ?_⟩, q⟩
    show Value.int (((bs.map Value.bool).toArray.toList.countP (eqb k) : Nat) : Int) s.toks = Value.int ((bs.count k : Nat) : Int) s.toks
    rw [List.toList_toArray, count_bools]
end
/-- for i, x in enumerate(xs), xs standing still -/
theorem for_enumL {K : PySem.W.Frag} {a : Addr} {xs : List V} {g : TG} {tb : TS} {D : Ends} {σ : L2.St} {H : Hp} (Pv : Nat → L2.St → Hp → Prop) (h0 : Pv 0 σ H) (hl : ∀ i σ H, i ≤ xs.length → Pv i σ H → SqL K H a xs)
    (hs : ∀ i x T σ H, xs[i]? = some x → Pv i σ H → H T = none → g (.ref T) σ (upd H T (.tup [.int (i : Nat), x])) fun σ2 H2 => tb { D with nx := Pv (i + 1), ct := Pv (i + 1), bk := D.nx } σ2 H2) (hd : ∀ σ H, Pv xs.length σ H → D.nx σ H) :
    ∃ W : Nat → Nat → L2.St → Hp → Prop, (∃ m, W 0 m σ H) ∧ ∀ i m σ H, W i m σ H →
      ((Ite K a).stop i H ∧ D.nx σ H) ∨ ((Ite K a).go i H ∧ ∃ N : L2.St → Hp → Prop, (∀ σ' H', N σ' H' → ∃ m', m' < m ∧ W (i + 1) m' σ' H') ∧ ∀ x H', (Ite K a).yld i H x H' → g x σ H' fun σ2 H2 => tb { D with nx := N, ct := N, bk := D.nx } σ2 H2) := by
  refine ⟨fun i m σ H => m = xs.length - i ∧ i ≤ xs.length ∧ Pv i σ H, ⟨xs.length, by simp, Nat.zero_le _, h0⟩, ?_⟩
  rintro i m σ H ⟨rfl, hi, p⟩
  have q := hl i σ H hi p
  by_cases hlt : i < xs.length
  · refine .inr ⟨⟨xs, xs[i], q, by simp [hlt]⟩, Pv (i + 1), fun σ' H' p' => ⟨xs.length - (i + 1), by omega, rfl, hlt, p'⟩, fun x H' y => ?_⟩
    obtain ⟨T, z, rfl, hT, rfl, y⟩ := y
    exact hs i z T σ H (y xs q) p hT
  · have e : i = xs.length := by omega
    subst e
    exact .inl ⟨⟨xs, q, Nat.le_refl _⟩, hd σ H p⟩
end L2.TT

namespace TR
open PySem PySem.Spec PyProof.Rows L2 L2.TT
/-- a def of the module and its promise -/
structure Use (P : Program) (w : World) (K : PySem.W.Frag) (mg : Str → Option Value) (base : Heap) (CX : CXT) (k : Nat) (x : Str) (f : Addr) (fd : FuncData) (ps : List Str) (sp : Sp) : Prop where
  G : FnOk P w K mg base CX k f fd ps sp
  m : mg x = some (.ref f)
  kp : PySem.W.keepIn K (.ref f) = true
  b : Binds K fd ps []
section
variable {X : Cx} {k : Nat} {x : Str} {f : Addr} {fd : FuncData} {ps : List Str} {sp : Sp} {e : Expr} {es : List Expr} {t : TA} {p pos : Pos}
theorem pe_use (U : Use X.prog X.w X.K X.mg X.base CX0 k x f fd ps sp) (hr : Room k X.A) (hg : Gl X x) (ha : PA X (e :: es) t) (hd : (x == ("__debug__" : Str)) = false := by decide)
    (he : starEach (e :: es) X.env = (false, eval e X.env) :: starEach es X.env := by rfl) (hpl : (backTo pos (starEach es X.env)).any (·.1) = false := by rfl) :
    PE X (.Call (.Name x p) (e :: es) [] pos) (tCall sp [] (fun _ _ _ => False) t) :=
  pe_call (p := p) (pos := pos) U.G hr hg U.m U.kp U.b .nil pass0 ha hd he hpl
end
/-- what is never reached -/
theorem ps_never {X : Cx} {st : Stmt} : PS X st (fun _ _ _ => False) := ⟨fun _ _ _ _ _ _ h => h.elim⟩
theorem pss_never {X : Cx} {st : Stmt} : PSs X [st] (fun _ _ _ => False) := pss_one ps_never
/-- the built-in names -/
structure Nm (mg : Str → Option Value) : Prop where
  len : mg "len" = none
  isi : mg "isinstance" = none
  int : mg "int" = none
  bool : mg "bool" = none
  tuple : mg "tuple" = none
  list : mg "list" = none
  sorted : mg "sorted" = none
  min : mg "min" = none
  max : mg "max" = none
  range : mg "range" = none
  enum : mg "enumerate" = none
  repr : mg "repr" = none
  set : mg "set" = none
  all : mg "all" = none
  any : mg "any" = none
  zip : mg "zip" = none
  str : mg "str" = none
/-- no int, and not a bool either -/
def NI (K : PySem.W.Frag) (H : Hp) (v : V) : Prop := (∃ b, v = .bl b) ∨ ∃ n : String, TyX K H v (.type n) ∧ kitB n "int" = some false
theorem NI.non {K : PySem.W.Frag} {H : Hp} : NI K H .non := .inr ⟨"NoneType", .base .non, by decide +kernel⟩
theorem NI.str {K : PySem.W.Frag} {H : Hp} {z : Str} : NI K H (.str z) := .inr ⟨"str", .base (.str z), by decide +kernel⟩
theorem NI.tup {K : PySem.W.Frag} {H : Hp} {a : Addr} {xs : List V} (h : H a = some (.tup xs)) : NI K H (.ref a) := .inr ⟨"tuple", .base (.tup h), by decide +kernel⟩
theorem NI.lst {K : PySem.W.Frag} {H : Hp} {a : Addr} {xs : List V} (h : H a = some (.lst xs)) : NI K H (.ref a) := .inr ⟨"list", .base (.lst h), by decide +kernel⟩
theorem NI.dK {K : PySem.W.Frag} {H : Hp} {a : Addr} {xs : List (Key × V)} (h : H a = some (.dK xs)) : NI K H (.ref a) := .inr ⟨"dict", .base (.dK h), by decide +kernel⟩
/-- one value, an int or none -/
def IV (K : PySem.W.Frag) (H : Hp) (v : V) : Prop := (∃ i, v = .int i) ∨ NI K H v
def asInt : V → Option Int
  | .int i => some i
  | _ => none
theorem NI.as {K : PySem.W.Frag} {H : Hp} {v : V} (h : NI K H v) : asInt v = none := by
  rcases h with ⟨b, rfl⟩ | ⟨n, t, kb⟩
  · rfl
  · cases v with
    | int i =>
      have e : (Value.type n) = .type "int" := by
        cases t with
        | base h => cases h; rfl
      cases e
      exact absurd kb (by decide +kernel)
    | _ => rfl
def spIsInt (K : PySem.W.Frag) : Sp := fun vs H Q _ => ∃ v, vs = [v] ∧ IV K H v ∧ Q (.bl (asInt v).isSome) H
def inR (v : V) (lo hi : Int) : Bool := match asInt v with
  | some i => decide (lo ≤ i) && decide (i ≤ hi)
  | none => false
def spNumFrom (K : PySem.W.Frag) : Sp := fun vs H Q _ => ∃ v lo hi, vs = [v, .int lo, .int hi] ∧ IV K H v ∧ Q (.bl (inR v lo hi)) H
theorem bit_int {K : PySem.W.Frag} : PySem.W.kitOne K (.type "bool") (.type "int") = some true := kit_ty (by decide +kernel)
theorem bit_bool {K : PySem.W.Frag} : PySem.W.kitOne K (.type "bool") (.type "bool") = some true := kit_ty (by decide +kernel)
theorem int_int {K : PySem.W.Frag} : PySem.W.kitOne K (.type "int") (.type "int") = some true := kit_ty (by decide +kernel)
theorem int_bool {K : PySem.W.Frag} : PySem.W.kitOne K (.type "int") (.type "bool") = some false := kit_ty (by decide +kernel)
section
variable {P : Program} {w : World} {K : PySem.W.Frag} {mg : Str → Option Value} {base : Heap}
theorem sc_isInt : FnScope ["value"] ["value"] (defScope s_is_integer) := ⟨rfl, rfl, rfl, by decide +kernel, rfl, by decide +kernel, by decide +kernel⟩
theorem ok_isInt {f : Addr} {fd : FuncData} (F : Fun K "is_integer" "is_integer" s_is_integer f fd) (N : Nm mg) : FnOk P w K mg base CX0 1 f fd ["value"] (spIsInt K) := by
  refine F.ok sc_isInt (fun vs H Q E h => ?_) (fun cdv A outer s H vs Q E hr h => ?_)
  · obtain ⟨v, rfl, _⟩ := h
    rfl
  · obtain ⟨v, rfl, hv, k⟩ := h
    refine ⟨_, pss_one (ps_ret (pe_and (pe_callB call_isi (by rfl) N.isi boot_isinstance (pa_cons (pv 0) (pa_cons (pe_bltn (v := .ty "int") (by rfl) N.int (by decide +kernel) rfl) pa_nil)))
      (pe_one (pe_not (pe_callB call_isi (by rfl) N.isi boot_isinstance (pa_cons (pv 0) (pa_cons (pe_bltn (v := .ty "bool") (by rfl) N.bool (by decide +kernel) rfl) pa_nil))))))), ?_⟩
    rcases hv with ⟨i, rfl⟩ | hv
    · refine ⟨_, rfl, _, _, _, _, true, rfl, .ty _, .base (.int i), int_int, true, rfl, ?_⟩
      refine iteT ?_
      exact ⟨_, rfl, _, _, _, _, false, rfl, .ty _, .base (.int i), int_bool, false, rfl, k⟩
    · have ka : (asInt v).isSome = false := by rw [hv.as]; rfl
      rw [ka] at k
      rcases hv with ⟨b, rfl⟩ | ⟨n, t, kb⟩
      · refine ⟨_, rfl, _, _, _, _, true, rfl, .ty _, .base (.bl b), bit_int, true, rfl, ?_⟩
        refine iteT ?_
        exact ⟨_, rfl, _, _, _, _, true, rfl, .ty _, .base (.bl b), bit_bool, true, rfl, k⟩
      · refine ⟨_, rfl, _, _, _, _, false, rfl, .ty _, t, kit_ty kb, false, rfl, ?_⟩
        exact iteF k
theorem sc_num : FnScope ["value", "least", "greatest"] ["value", "least", "greatest"] (defScope s_is_number_from) := ⟨rfl, rfl, rfl, by decide +kernel, rfl, by decide +kernel, by decide +kernel⟩
theorem ok_num {f fI : Addr} {fd fdI : FuncData} (F : Fun K "is_number_from" "is_number_from" s_is_number_from f fd) (U : Use P w K mg base CX0 1 "is_integer" fI fdI ["value"] (spIsInt K)) : FnOk P w K mg base CX0 2 f fd ["value", "least", "greatest"] (spNumFrom K) := by
  refine F.ok sc_num (fun vs H Q E h => ?_) (fun cdv A outer s H vs Q E hr h => ?_)
  · obtain ⟨v, lo, hi, rfl, _⟩ := h
    rfl
  · obtain ⟨v, lo, hi, rfl, hv, k⟩ := h
    refine ⟨_, pss_one (ps_ret (pe_and (pe_use U hr rfl (pa_cons (pv 0) pa_nil)) (pe_one (pe_chain op_le op_le (pv 1) (pv 0) (pv 2))))), ?_⟩
    refine ⟨_, rfl, v, rfl, hv, _, rfl, ?_⟩
    rcases hv with ⟨i, rfl⟩ | hv
    · refine iteT ?_
      refine ⟨_, rfl, _, rfl, _, _, rfl, rfl, _, rfl, ?_⟩
      have e : inR (.int i) lo hi = (decide (lo ≤ i) && decide (i ≤ hi)) := rfl
      rw [e] at k
      refine ite2 (fun h => ?_) (fun h => ?_)
      · rw [h, Bool.true_and] at k
        exact ⟨_, rfl, _, _, rfl, rfl, k⟩
      · rw [Bool.eq_false_iff.mpr h, Bool.false_and] at k
        exact k
    · have e : inR v lo hi = false := by
        show (match asInt v with
          | some i => decide (lo ≤ i) && decide (i ≤ hi)
          | none => false) = false
        rw [hv.as]
      rw [e] at k
      rw [hv.as]
      exact iteF k
end
end TR

namespace TR
open PySem PySem.Spec PyProof.Rows L2 L2.TT
/-- any value as a pair: the items where it is a tuple of two -/
inductive PV (K : PySem.W.Frag) (H : Hp) : V → Option (V × V) → Prop where
  | two {a : Addr} {x y : V} (h : H a = some (.tup [x, y])) (hx : IV K H x) (hy : IV K H y) : PV K H (.ref a) (some (x, y))
  | tup {a : Addr} {xs : List V} (h : H a = some (.tup xs)) (hn : xs.length ≠ 2) : PV K H (.ref a) none
  | no {v : V} {n : String} (t : TyX K H v (.type n)) (kb : kitB n "tuple" = some false) : PV K H v none
def isPr (o : Option (V × V)) (n : Int) : Bool := match o with
  | some (x, y) => inR x 0 (n - 1) && inR y 0 (n - 1) && decide (asInt x ≠ asInt y)
  | none => false
def spPair (K : PySem.W.Frag) : Sp := fun vs H Q _ => ∃ v n o, vs = [v, .int n] ∧ PV K H v o ∧ Q (.bl (isPr o n)) H
theorem tup_tup {K : PySem.W.Frag} : PySem.W.kitOne K (.type "tuple") (.type "tuple") = some true := kit_ty (by decide +kernel)
theorem inR_int {v : V} {lo hi : Int} (h : inR v lo hi = true) : ∃ i, v = .int i ∧ lo ≤ i ∧ i ≤ hi := by
  unfold inR at h
  cases v with
  | int i =>
    have h2 : (decide (lo ≤ i) && decide (i ≤ hi)) = true := h
    rw [Bool.and_eq_true] at h2
    exact ⟨i, rfl, of_decide_eq_true h2.1, of_decide_eq_true h2.2⟩
  | _ => cases h
section
variable {P : Program} {w : World} {K : PySem.W.Frag} {mg : Str → Option Value} {base : Heap}
theorem sc_pair : FnScope ["value", "size", "one", "other"] ["value", "size"] (defScope s_is_pair_of_stations) := ⟨rfl, rfl, rfl, by decide +kernel, rfl, by decide +kernel, by decide +kernel⟩
theorem ok_pair {f fI : Addr} {fd fdI : FuncData} (F : Fun K "is_pair_of_stations" "is_pair_of_stations" s_is_pair_of_stations f fd) (N : Nm mg) (U : Use P w K mg base CX0 2 "is_number_from" fI fdI ["value", "least", "greatest"] (spNumFrom K)) : FnOk P w K mg base CX0 3 f fd ["value", "size"] (spPair K) := by
  refine F.ok sc_pair (fun vs H Q E h => ?_) (fun cdv A outer s H vs Q E hr h => ?_)
  · obtain ⟨v, n, o, rfl, _⟩ := h
    rfl
  · obtain ⟨v, n, o, rfl, hv, k⟩ := h
    refine ⟨_, pss_cons (ps_if (PW.pt (pw_or (pt_not (pt_val (pe_callB call_isi (by rfl) N.isi boot_isinstance (pa_cons (pv 0) (pa_cons (pe_bltn (v := .ty "tuple") (by rfl) N.tuple (by decide +kernel) rfl) pa_nil)))))
        (pw_or1 (pt_cmpR op_ne (pe_callB call_len_seq (by rfl) N.len PySem.boot_len (pa_cons (pv 0) pa_nil)) pe_int (nomark _))))) (pss_one (ps_ret pe_bl)) pss_nil)
      (pss_cons (ps_asg (pv 0) (pg_tup rfl (pgs_cons (pg_name (i := 2) sc_pair.nd rfl (.inl rfl)) (pgs_cons (pg_name (i := 3) sc_pair.nd rfl (.inl rfl)) pgs_nil))))
      (pss_cons (ps_if (PW.pt (pw_or (pt_not (pt_val (pe_use U hr rfl (pa_cons (pv 2) (pa_cons pe_int (pa_cons (pe_op op_sub (pv 1) pe_int) pa_nil))))))
        (pw_or1 (pt_not (pt_val (pe_use U hr rfl (pa_cons (pv 3) (pa_cons pe_int (pa_cons (pe_op op_sub (pv 1) pe_int) pa_nil))))))))) (pss_one (ps_ret pe_bl)) pss_nil)
      (pss_one (ps_ret (pe_cmpR op_ne (pv 2) (pv 3) (nomark _)))))), ?_⟩
    have hle : (2 : Nat) ≤ sizeLine := by rw [sizeLine_eq]; decide
    cases hv with
    | no t kb =>
      refine ⟨_, rfl, _, _, _, _, false, rfl, .ty _, t, kit_ty kb, false, rfl, ?_⟩
      refine iteT ?_
      refine iteT ?_
      exact k
    | @tup a xs h hn =>
      refine ⟨_, rfl, _, _, _, _, true, rfl, .ty _, .base (.tup h), tup_tup, true, rfl, ?_⟩
      refine iteF ?_
      refine ⟨_, rfl, _, _, rfl, .inr (SqT.of h), rfl, _, rfl, ?_⟩
      refine ite2 (fun _ => ?_) (fun z => ?_)
      · exact k
      · exfalso
        apply z
        show (!decide (V.int (xs.length : Nat) = V.int 2)) = true
        simp only [Bool.not_eq_true', decide_eq_false_iff_not, V.int.injEq]
        omega
    | two h hx hy =>
      refine ⟨_, rfl, _, _, _, _, true, rfl, .ty _, .base (.tup h), tup_tup, true, rfl, ?_⟩
      refine iteF ?_
      refine ⟨_, rfl, _, _, rfl, .inr (SqT.of h), rfl, _, rfl, ?_⟩
      refine iteF ?_
      refine ⟨_, rfl, _, _, rfl, SqT.of h, rfl, ?_⟩
      refine ⟨_, _, rfl, _, _, rfl, rfl, ?_⟩
      refine ⟨_, rfl, _, rfl, _, _, rfl, rfl, _, _, _, rfl, hx, _, rfl, ?_⟩
      rename_i a x y
      cases e1 : inR x 0 (n - 1) with
      | false =>
        have e : isPr (some (x, y)) n = false := by show (inR x 0 (n - 1) && inR y 0 (n - 1) && decide (asInt x ≠ asInt y)) = false; rw [e1]; rfl
        rw [e] at k
        refine iteT ?_
        refine iteT ?_
        exact k
      | true =>
        refine iteF ?_
        refine ⟨_, rfl, _, rfl, _, _, rfl, rfl, _, _, _, rfl, hy, _, rfl, ?_⟩
        cases e2 : inR y 0 (n - 1) with
        | false =>
          have e : isPr (some (x, y)) n = false := by show (inR x 0 (n - 1) && inR y 0 (n - 1) && decide (asInt x ≠ asInt y)) = false; rw [e1, e2]; rfl
          rw [e] at k
          refine iteT ?_
          exact k
        | true =>
          refine iteF ?_
          obtain ⟨i, rfl, _⟩ := inR_int e1
          obtain ⟨j, rfl, _⟩ := inR_int e2
          have e : isPr (some (.int i, .int j)) n = decide (¬ (V.int i = V.int j)) := by
            show (inR (.int i) 0 (n - 1) && inR (.int j) 0 (n - 1) && decide (asInt (.int i) ≠ asInt (.int j))) = _
            rw [e1, e2]
            simp [asInt]
          rw [e] at k
          refine ⟨_, rfl, _, rfl, rfl, ?_⟩
          have e3 : decide (¬ (V.int i = V.int j)) = !decide (V.int i = V.int j) := by simp
          rw [e3] at k
          exact k
end
end TR

/-! Trees given by a list of pairs: n pairs of stations up to n that connect all of them with 0. -/
namespace TR
abbrev E2 := Nat × Nat
def mx (e : E2) : Nat := max e.1 e.2
def mn (e : E2) : Nat := min e.1 e.2
def Adj (tr : List E2) (a b : Nat) : Prop := (a, b) ∈ tr ∨ (b, a) ∈ tr
theorem Adj.sym {tr : List E2} {a b : Nat} (h : Adj tr a b) : Adj tr b a := Or.symm h
/-- k steps from 0 -/
def WN (tr : List E2) : Nat → Nat → Prop
  | 0, v => v = 0
  | k + 1, v => ∃ u, WN tr k u ∧ Adj tr u v
structure TreeL (tr : List E2) : Prop where
  ne : ∀ e ∈ tr, e.1 ≠ e.2
  le : ∀ e ∈ tr, e.1 ≤ tr.length ∧ e.2 ≤ tr.length
  co : ∀ v, v ≤ tr.length → ∃ k, WN tr k v
theorem ex_min {P : Nat → Prop} : ∀ k, P k → ∃ m, P m ∧ ∀ j, j < m → ¬ P j := by
  intro k
  induction k using Nat.strongRecOn with
  | ind k ih =>
    intro h
    by_cases c : ∃ j, j < k ∧ P j
    · obtain ⟨j, hj, hp⟩ := c
      exact ih j hj hp
    · exact ⟨k, h, fun j hj hp => c ⟨j, hj, hp⟩⟩
theorem wn_min {tr : List E2} {v : Nat} (h : ∃ k, WN tr k v) : ∃ m, WN tr m v ∧ ∀ j, j < m → ¬ WN tr j v := h.elim fun k hk => ex_min k hk
noncomputable def dep (tr : List E2) (v : Nat) : Nat := open Classical in if h : ∃ k, WN tr k v then (wn_min h).choose else 1
theorem mn_lt {e : E2} (h : e.1 ≠ e.2) : mn e < mx e := by
  unfold mn mx
  omega
theorem ends (e : E2) : (e.1 = mx e ∧ e.2 = mn e) ∨ (e.1 = mn e ∧ e.2 = mx e) := by
  unfold mn mx
  omega
theorem dep_spec {tr : List E2} {v : Nat} (h : ∃ k, WN tr k v) : WN tr (dep tr v) v ∧ ∀ j, j < dep tr v → ¬ WN tr j v := by
  unfold dep
  rw [dif_pos h]
  exact (wn_min h).choose_spec
theorem dep_min {tr : List E2} {v k : Nat} (h : WN tr k v) : dep tr v ≤ k := by
  refine Nat.le_of_not_lt fun z => ?_
  exact (dep_spec ⟨k, h⟩).2 k z h
theorem dep_zero {tr : List E2} : dep tr 0 = 0 := by
  have := dep_min (tr := tr) (v := 0) (k := 0) rfl
  omega
theorem dep_par {tr : List E2} {v : Nat} (h : ∃ k, WN tr k v) (hv : 0 < v) : ∃ u, Adj tr u v ∧ dep tr v = dep tr u + 1 := by
  obtain ⟨h1, h2⟩ := dep_spec h
  cases e : dep tr v with
  | zero =>
    rw [e] at h1
    have : v = 0 := h1
    omega
  | succ k =>
    rw [e] at h1
    obtain ⟨u, hu, ha⟩ := h1
    refine ⟨u, ha, ?_⟩
    have a1 := dep_min hu
    have a2 := dep_min (tr := tr) (v := v) (k := dep tr u + 1) ⟨u, (dep_spec ⟨k, hu⟩).1, ha⟩
    omega
noncomputable def par (tr : List E2) (v : Nat) : Nat := open Classical in if h : ∃ u, Adj tr u v ∧ dep tr v = dep tr u + 1 then h.choose else 0
theorem par_spec {tr : List E2} {v : Nat} (h : ∃ k, WN tr k v) (hv : 0 < v) : Adj tr (par tr v) v ∧ dep tr v = dep tr (par tr v) + 1 := by
  unfold par
  rw [dif_pos (dep_par h hv)]
  exact (dep_par h hv).choose_spec
/-- injective on a list, into as many: all are met -/
theorem hit_all {n : Nat} {f : Nat → Nat} (hf : ∀ v, 1 ≤ v → v ≤ n → f v < n) (inj : ∀ v w, 1 ≤ v → v ≤ n → 1 ≤ w → w ≤ n → f v = f w → v = w) {i : Nat} (hi : i < n) : ∃ v, 1 ≤ v ∧ v ≤ n ∧ f v = i := by
  have hn : ((List.range' 1 n).map f).Nodup := by
    have h0 : (List.range' 1 n).Nodup := List.nodup_range' (step := 1) (h := by decide)
    refine List.Pairwise.map f (R := fun a b => (1 ≤ a ∧ a ≤ n) ∧ (1 ≤ b ∧ b ≤ n) ∧ a ≠ b) (fun a b h => fun z => h.2.2 (inj a b h.1.1 h.1.2 h.2.1.1 h.2.1.2 z)) ?_
    refine List.Pairwise.imp_of_mem (R := fun a b => a ≠ b) (fun {a b} ha hb hab => ?_) h0
    rw [List.mem_range'] at ha hb
    obtain ⟨x, hx, rfl⟩ := ha
    obtain ⟨y, hy, rfl⟩ := hb
    exact ⟨⟨by omega, by omega⟩, ⟨by omega, by omega⟩, hab⟩
  have hs : (List.range' 1 n).map f ⊆ List.range n := by
    intro x hx
    obtain ⟨a, ha, rfl⟩ := List.mem_map.mp hx
    rw [List.mem_range'] at ha
    obtain ⟨j, hj, rfl⟩ := ha
    exact List.mem_range.mpr (hf _ (by omega) (by omega))
  by_cases c : i ∈ (List.range' 1 n).map f
  · obtain ⟨a, ha, e⟩ := List.mem_map.mp c
    rw [List.mem_range'] at ha
    obtain ⟨j, hj, rfl⟩ := ha
    exact ⟨_, by omega, by omega, e⟩
  · exfalso
    have h2 : (i :: (List.range' 1 n).map f).Nodup := List.nodup_cons.mpr ⟨c, hn⟩
    have h3 : (i :: (List.range' 1 n).map f) ⊆ List.range n := by
      intro x hx
      rcases List.mem_cons.mp hx with rfl | hx
      · exact List.mem_range.mpr hi
      · exact hs hx
    have := h2.length_le_of_subset h3
    simp at this
    omega
namespace TreeL
variable {tr : List E2}
theorem lt1 (T : TreeL tr) {e : E2} (h : e ∈ tr) : e.1 < tr.length + 1 ∧ e.2 < tr.length + 1 := by
  have := T.le e h
  omega
theorem adj_le (T : TreeL tr) {a b : Nat} (h : Adj tr a b) : a ≤ tr.length ∧ b ≤ tr.length := by
  rcases h with h | h
  · exact T.le _ h
  · exact (T.le _ h).symm
theorem adj_ne (T : TreeL tr) {a b : Nat} (h : Adj tr a b) : a ≠ b := by
  rcases h with h | h
  · exact T.ne _ h
  · exact fun z => T.ne _ h z.symm
theorem par_le (T : TreeL tr) (y : Nat) : par tr y ≤ tr.length := by
  by_cases h : ∃ u, Adj tr u y ∧ dep tr y = dep tr u + 1
  · have e : par tr y = h.choose := by
      unfold par
      rw [dif_pos h]
    rw [e]
    exact (T.adj_le h.choose_spec.1).1
  · have e : par tr y = 0 := by
      unfold par
      rw [dif_neg h]
    omega
end TreeL
theorem wn_le {tr : List E2} (T : TreeL tr) : ∀ {k v : Nat}, WN tr k v → v ≤ tr.length
  | 0, v, h => by
    have : v = 0 := h
    omega
  | k + 1, v, ⟨u, _, h⟩ => (T.adj_le h).2
theorem dep_succ {tr : List E2} (T : TreeL tr) {y : Nat} (h : 0 < y) : dep tr y = dep tr (par tr y) + 1 := by
  by_cases c : ∃ k, WN tr k y
  · exact (par_spec c h).2
  · have e : par tr y = 0 := by
      unfold par
      rw [dif_neg]
      rintro ⟨u, hu, _⟩
      exact c (T.co y (T.adj_le hu).2)
    rw [e, dep_zero]
    unfold dep
    rw [dif_neg c]
theorem par_adj {tr : List E2} (T : TreeL tr) {y : Nat} (h : 0 < y) (hl : y ≤ tr.length) : Adj tr y (par tr y) := (par_spec (T.co y hl) h).1.sym
theorem par_dep {tr : List E2} (T : TreeL tr) {y : Nat} (h : 0 < y) : dep tr (par tr y) < dep tr y := by
  have := dep_succ T h
  omega
/-- each track is that of one station to its parent -/
theorem edge_of {tr : List E2} (T : TreeL tr) : ∃ f : Nat → Nat, (∀ v, 1 ≤ v → v ≤ tr.length → tr[f v]? = some (v, par tr v) ∨ tr[f v]? = some (par tr v, v)) ∧ (∀ i, i < tr.length → ∃ v, 1 ≤ v ∧ v ≤ tr.length ∧ f v = i) := by
  have key : ∀ v, ∃ i, 1 ≤ v → v ≤ tr.length → tr[i]? = some (v, par tr v) ∨ tr[i]? = some (par tr v, v) := fun v => by
    by_cases c : 1 ≤ v ∧ v ≤ tr.length
    · rcases par_adj T (y := v) c.1 c.2 with h | h
      · obtain ⟨i, hi⟩ := List.mem_iff_getElem?.mp h
        exact ⟨i, fun _ _ => .inl hi⟩
      · obtain ⟨i, hi⟩ := List.mem_iff_getElem?.mp h
        exact ⟨i, fun _ _ => .inr hi⟩
    · exact ⟨0, fun h1 h2 => absurd ⟨h1, h2⟩ c⟩
  refine ⟨fun v => (key v).choose, fun v h1 h2 => (key v).choose_spec h1 h2, ?_⟩
  have hk : ∀ v, 1 ≤ v → v ≤ tr.length → tr[(key v).choose]? = some (v, par tr v) ∨ tr[(key v).choose]? = some (par tr v, v) := fun v h1 h2 => (key v).choose_spec h1 h2
  intro i hi
  refine hit_all (fun v h1 h2 => ?_) (fun v w h1 h2 h3 h4 e => ?_) hi
  · rcases hk v h1 h2 with h | h
    · exact (List.getElem?_eq_some_iff.mp h).1
    · exact (List.getElem?_eq_some_iff.mp h).1
  · have hv := hk v h1 h2
    have hw := hk w h3 h4
    rw [e] at hv
    have d1 := par_dep T (y := v) h1
    have d2 := par_dep T (y := w) h3
    have cross : v = par tr w → par tr v = w → v = w := fun a b => by
      rw [← a] at d2
      rw [b] at d1
      omega
    rcases hv with hv | hv <;> rcases hw with hw | hw <;> rw [hv] at hw <;> have q := Option.some.inj hw
    · exact congrArg Prod.fst q
    · exact cross (congrArg Prod.fst q) (congrArg Prod.snd q)
    · exact cross (congrArg Prod.snd q) (congrArg Prod.fst q)
    · exact congrArg Prod.snd q
/-- the end of a track that is farther from 0, and the other one -/
noncomputable def ch (tr : List E2) (e : E2) : Nat := if dep tr e.1 < dep tr e.2 then e.2 else e.1
noncomputable def pa (tr : List E2) (e : E2) : Nat := if dep tr e.1 < dep tr e.2 then e.1 else e.2
theorem cp (tr : List E2) (e : E2) : (e.1 = ch tr e ∧ e.2 = pa tr e) ∨ (e.1 = pa tr e ∧ e.2 = ch tr e) := by
  unfold ch pa
  split
  · exact .inr ⟨rfl, rfl⟩
  · exact .inl ⟨rfl, rfl⟩
namespace TreeL
variable {tr : List E2}
theorem ch_bd (T : TreeL tr) {e : E2} (h : e ∈ tr) : 1 ≤ ch tr e ∧ ch tr e ≤ tr.length ∧ par tr (ch tr e) = pa tr e := by
  obtain ⟨f, h1, h2⟩ := edge_of T
  obtain ⟨i, hi⟩ := List.mem_iff_getElem?.mp h
  obtain ⟨v, v1, v2, rfl⟩ := h2 i (List.getElem?_eq_some_iff.mp hi).1
  have d := par_dep T (y := v) v1
  have hv := h1 v v1 v2
  rw [hi] at hv
  unfold ch pa
  rcases hv with hv | hv
  · have q := Option.some.inj hv
    subst q
    rw [if_neg (by simp only; omega), if_neg (by simp only; omega)]
    exact ⟨v1, v2, rfl⟩
  · have q := Option.some.inj hv
    subst q
    rw [if_pos (by simp only; omega), if_pos (by simp only; omega)]
    exact ⟨v1, v2, rfl⟩
theorem ch_inj (T : TreeL tr) {i j : Nat} {e d : E2} (hi : tr[i]? = some e) (hj : tr[j]? = some d) (h : ch tr e = ch tr d) : i = j := by
  obtain ⟨f, h1, h2⟩ := edge_of T
  have key : ∀ {i : Nat} {e : E2}, tr[i]? = some e → i = f (ch tr e) := fun {i e} hi => by
    obtain ⟨v, v1, v2, rfl⟩ := h2 i (List.getElem?_eq_some_iff.mp hi).1
    have d := par_dep T (y := v) v1
    have hv := h1 v v1 v2
    rw [hi] at hv
    have : ch tr e = v := by
      unfold ch
      rcases hv with hv | hv
      · have q := Option.some.inj hv
        subst q
        rw [if_neg (by simp only; omega)]
      · have q := Option.some.inj hv
        subst q
        rw [if_pos (by simp only; omega)]
    rw [this]
  rw [key hi, key hj, h]
theorem nd (T : TreeL tr) : (tr.map (ch tr)).Nodup := by
  refine List.pairwise_iff_getElem.mpr fun i j hi hj hij z => ?_
  rw [List.length_map] at hi hj
  rw [List.getElem_map, List.getElem_map] at z
  have := T.ch_inj (List.getElem?_eq_getElem hi) (List.getElem?_eq_getElem hj) z
  omega
end TreeL
theorem adj_par {tr : List E2} (T : TreeL tr) {v w : Nat} (h : Adj tr v w) : (0 < v ∧ w = par tr v ∧ v ≤ tr.length) ∨ (0 < w ∧ v = par tr w ∧ w ≤ tr.length) := by
  have key : ∀ e : E2, e ∈ tr → (0 < e.1 ∧ e.2 = par tr e.1 ∧ e.1 ≤ tr.length) ∨ (0 < e.2 ∧ e.1 = par tr e.2 ∧ e.2 ≤ tr.length) := fun e he => by
    obtain ⟨b1, b2, b3⟩ := T.ch_bd he
    rcases cp tr e with ⟨e1, e2⟩ | ⟨e1, e2⟩
    · exact .inl ⟨by omega, by rw [e1, b3, e2], by omega⟩
    · exact .inr ⟨by omega, by rw [e2, b3, e1], by omega⟩
  rcases h with h | h
  · exact key _ h
  · exact (key _ h).symm
/-- a lies behind y, or is it -/
inductive Desc (p : Nat → Nat) (y : Nat) : Nat → Prop
  | self : Desc p y y
  | up {a : Nat} (h : 0 < a) (d : Desc p y (p a)) : Desc p y a
theorem Desc.step {p : Nat → Nat} {y a : Nat} (h : 0 < a) (ne : a ≠ y) : Desc p y a ↔ Desc p y (p a) := by
  constructor
  · intro d
    cases d with
    | self => exact absurd rfl ne
    | up _ d => exact d
  · exact fun d => .up h d
theorem Desc.dep {tr : List E2} (T : TreeL tr) {y a : Nat} (d : Desc (par tr) y a) : TR.dep tr y ≤ TR.dep tr a := by
  induction d with
  | self => exact Nat.le_refl _
  | up h _ ih => exact Nat.le_trans ih (Nat.le_of_lt (par_dep T h))
/-- what the groups of stations say when the first i tracks are joined -/
def GI (tr : List E2) (i : Nat) (gs : List Nat) : Prop :=
  gs.length = tr.length + 1 ∧ ∀ j e, i ≤ j → tr[j]? = some e → ∀ a b x : Nat, gs[a]? = some x → gs[b]? = some x → (Desc (par tr) (ch tr e) a ↔ Desc (par tr) (ch tr e) b)
theorem GI.start (tr : List E2) : GI tr 0 (List.range (tr.length + 1)) := by
  refine ⟨by simp, fun j e _ _ a b x ha hb => ?_⟩
  have h1 : a = x := by
    have := List.getElem?_eq_some_iff.mp ha
    obtain ⟨_, q⟩ := this
    simpa using q
  have h2 : b = x := by
    have := List.getElem?_eq_some_iff.mp hb
    obtain ⟨_, q⟩ := this
    simpa using q
  rw [h1, h2]
theorem GI.ne {tr : List E2} (T : TreeL tr) {i : Nat} {gs : List Nat} (g : GI tr i gs) {e : E2} (he : tr[i]? = some e) {x y : Nat} (h1 : gs[e.1]? = some x) (h2 : gs[e.2]? = some y) : x ≠ y := by
  rintro rfl
  have hm := List.mem_of_getElem? he
  have q := g.2 i e (Nat.le_refl _) he e.1 e.2 x h1 h2
  obtain ⟨b1, b2, b3⟩ := T.ch_bd hm
  have no : ¬ Desc (par tr) (ch tr e) (pa tr e) := fun d => by
    have := Desc.dep T d
    have := par_dep T (y := ch tr e) b1
    rw [b3] at this
    omega
  rcases cp tr e with ⟨e1, e2⟩ | ⟨e1, e2⟩
  · rw [e2] at q
    rw [e1] at q
    exact no (q.mp .self)
  · rw [e1, e2] at q
    exact no (q.mpr .self)
def join (gs : List Nat) (x y : Nat) : List Nat := gs.map fun g => if g = y then x else g
theorem join_get {gs : List Nat} {x y c z : Nat} (h : (join gs x y)[c]? = some z) : ∃ u, gs[c]? = some u ∧ (if u = y then x else u) = z := by
  rw [join, List.getElem?_map] at h
  cases e0 : gs[c]? with
  | none =>
    rw [e0] at h
    cases h
  | some u =>
    rw [e0] at h
    exact ⟨u, rfl, Option.some.inj h⟩
theorem GI.next {tr : List E2} (T : TreeL tr) {i : Nat} {gs : List Nat} (g : GI tr i gs) {e : E2} (he : tr[i]? = some e) {x y : Nat} (h1 : gs[e.1]? = some x) (h2 : gs[e.2]? = some y) : GI tr (i + 1) (join gs x y) := by
  refine ⟨by rw [join, List.length_map]; exact g.1, fun j e' hj he' a b z ha hb => ?_⟩
  have hm := List.mem_of_getElem? he
  have old := g.2 j e' (by omega) he'
  obtain ⟨b1, b2, b3⟩ := T.ch_bd hm
  have ne : ch tr e ≠ ch tr e' := by
    intro q
    have := T.ch_inj he he' q
    omega
  have link : Desc (par tr) (ch tr e') e.1 ↔ Desc (par tr) (ch tr e') e.2 := by
    have s := Desc.step (p := par tr) (y := ch tr e') (a := ch tr e) (by omega) ne
    rw [b3] at s
    rcases cp tr e with ⟨e1, e2⟩ | ⟨e1, e2⟩
    · rw [e1, e2]
      exact s
    · rw [e1, e2]
      exact s.symm
  obtain ⟨u, gu, eu⟩ := join_get ha
  obtain ⟨v, gv, ev⟩ := join_get hb
  by_cases c1 : u = y
  · by_cases c2 : v = y
    · exact old a b y (c1 ▸ gu) (c2 ▸ gv)
    · rw [if_pos c1] at eu
      rw [if_neg c2] at ev
      have w1 := old a e.2 y (c1 ▸ gu) h2
      have w2 := old b e.1 x (by rw [gv, ev, eu]) h1
      exact w1.trans (link.symm.trans w2.symm)
  · by_cases c2 : v = y
    · rw [if_neg c1] at eu
      rw [if_pos c2] at ev
      have w1 := old b e.2 y (c2 ▸ gv) h2
      have w2 := old a e.1 x (by rw [gu, eu, ev]) h1
      exact w2.trans (link.trans w1.symm)
    · rw [if_neg c1] at eu
      rw [if_neg c2] at ev
      exact old a b z (by rw [gu, eu]) (by rw [gv, ev])
end TR

namespace TR
open PySem PySem.Spec PyProof.Rows L2 L2.TT
abbrev iv (n : Nat) : V := .int (n : Int)
theorem iv_inj {a b : Nat} : (iv a = iv b) ↔ a = b := by
  show (V.int (a : Int) = V.int (b : Int)) ↔ a = b
  rw [V.int.injEq]
  omega
theorem map_get {α β : Type} {f : α → β} {l : List α} {i : Nat} {x : α} (h : l[i]? = some x) : (l.map f)[i]? = some (f x) := by rw [List.getElem?_map, h]; rfl
theorem map_got {α β : Type} {f : α → β} {l : List α} {i : Nat} {y : β} (h : (l.map f)[i]? = some y) : ∃ x, l[i]? = some x ∧ f x = y := by
  rw [List.getElem?_map] at h
  cases e : l[i]? with
  | none => rw [e] at h; cases h
  | some x => rw [e] at h; exact ⟨x, rfl, Option.some.inj h⟩
theorem atN {xs : List V} {n : Nat} {v : V} (h : xs[n]? = some v) : atI xs (n : Int) = some v := atI_nat h
theorem take_snoc {α : Type} {l : List α} {i : Nat} {x : α} (h : l[i]? = some x) : l.take (i + 1) = l.take i ++ [x] := by
  rw [List.take_succ, h]
  rfl
/-- the tracks stand in the heap as tuples -/
def Prs (H : Hp) (ps : List Addr) (tr : List E2) : Prop := ps.length = tr.length ∧ ∀ (i : Nat) (p : Addr) (e : E2), ps[i]? = some p → tr[i]? = some e → H p = some (.tup [iv e.1, iv e.2])
theorem Prs.same {H H' : Hp} {ps : List Addr} {tr : List E2} (h : Prs H ps tr) (s : Same H H') : Prs H' ps tr := ⟨h.1, fun i p e a b => s _ _ (h.2 i p e a b)⟩
theorem Prs.get {H : Hp} {ps : List Addr} {tr : List E2} (h : Prs H ps tr) {i : Nat} {v : V} (e : (ps.map V.ref)[i]? = some v) : ∃ p e, v = .ref p ∧ ps[i]? = some p ∧ tr[i]? = some e ∧ H p = some (.tup [iv e.1, iv e.2]) := by
  obtain ⟨p, hp, rfl⟩ := map_got e
  have hl := (List.getElem?_eq_some_iff.mp hp).1
  rw [h.1] at hl
  exact ⟨p, tr[i], rfl, hp, List.getElem?_eq_getElem hl, h.2 i p _ hp (List.getElem?_eq_getElem hl)⟩
theorem _root_.L2.Same.tp {K : PySem.W.Frag} {H H' : Hp} {a : Addr} {xs : List V} (e : Same H H') (h : SqT K H a xs) : SqT K H' a xs := by
  rcases h with (h | ⟨o, h⟩) | h
  · exact .inl (.inl (e _ _ h))
  · exact .inl (.inr ⟨o, e _ _ h⟩)
  · exact .inr h
theorem rgV_iv (n : Nat) : rgV 0 ((n : Int) + 1) = (List.range (n + 1)).map iv := by
  unfold rgV
  have e : ((n : Int) + 1 - 0).toNat = n + 1 := by omega
  rw [e]
  refine List.map_congr_left fun i _ => ?_
  show V.int (0 + (i : Int)) = V.int (i : Int)
  rw [Int.zero_add]
theorem same_upd {H : Hp} {p : Addr} (h : H p = none) (o : HO) : Same H (upd H p o) := fun b u e => by rw [upd_ne (ne_of_none e h)]; exact e
theorem isPr_ok {x y n : Nat} (hx : x < n) (hy : y < n) (ne : x ≠ y) : isPr (some (iv x, iv y)) (n : Int) = true := by
  show (inR (iv x) 0 ((n : Int) - 1) && inR (iv y) 0 ((n : Int) - 1) && decide (asInt (iv x) ≠ asInt (iv y))) = true
  have h1 : inR (iv x) 0 ((n : Int) - 1) = true := by
    show (decide ((0 : Int) ≤ (x : Int)) && decide ((x : Int) ≤ (n : Int) - 1)) = true
    rw [Bool.and_eq_true]
    exact ⟨decide_eq_true (by omega), decide_eq_true (by omega)⟩
  have h2 : inR (iv y) 0 ((n : Int) - 1) = true := by
    show (decide ((0 : Int) ≤ (y : Int)) && decide ((y : Int) ≤ (n : Int) - 1)) = true
    rw [Bool.and_eq_true]
    exact ⟨decide_eq_true (by omega), decide_eq_true (by omega)⟩
  rw [h1, h2]
  have h3 : asInt (iv x) ≠ asInt (iv y) := fun z => ne (by
    have z2 : some (x : Int) = some (y : Int) := z
    have := Option.some.inj z2
    omega)
  simp [h3]
def spJoin (K : PySem.W.Frag) : Sp := fun vs H Q _ => ∃ (a : Addr) (gs : List Nat) (o t x y : Nat), vs = [.ref a, iv o, iv t] ∧ SqL K H a (gs.map iv) ∧ gs.length ≤ 1000 ∧ gs[o]? = some x ∧ gs[t]? = some y ∧ ∀ p, H p = none → Q (.ref p) (upd H p (.lst ((join gs x y).map iv)))
theorem iteT' {c : Bool} {A B : Prop} (hc : c = true) (h : A) : if c = true then A else B := by
  rw [if_pos hc]
  exact h
theorem iteF' {c : Bool} {A B : Prop} (hc : c = false) (h : B) : if c = true then A else B := by
  rw [hc]
  exact iteF h
theorem ix_K {X : Cx} {K : PySem.W.Frag} (h : X.K = K) : IxR X (rIxL K) := by
  subst h
  exact ix_list
section
variable {P : Program} {w : World} {K : PySem.W.Frag} {mg : Str → Option Value} {base : Heap}
theorem sc_join : FnScope ["groups", "one", "other", "group"] ["groups", "one", "other"] (defScope s_joined) := ⟨rfl, rfl, rfl, by decide +kernel, rfl, by decide +kernel, by decide +kernel⟩
theorem ok_join {f : Addr} {fd : FuncData} (F : Fun K "joined" "joined" s_joined f fd) : FnOk P w K mg base CX0 1 f fd ["groups", "one", "other"] (spJoin K) := by
  refine F.ok sc_join (fun vs H Q E h => ?_) (fun cdv A outer s H vs Q E hr h => ?_)
  · obtain ⟨a, gs, o, t, x, y, rfl, _⟩ := h
    rfl
  · obtain ⟨a, gs, o, t, x, y, rfl, hS, hl, ho, ht, k⟩ := h
    refine ⟨_, pss_one (ps_ret (pe_lc (own := [("group", 3)]) (g := gName 3) (tt := tYes) rfl sc_join.nd (pi_list (pv 0)) (blkOk_by (N := ["groups", "one", "other", "group"]) (sc := defScope s_joined) (by decide +kernel))
      (fun _ _ _ _ _ => pg_name (i := 3) sc_join.nd rfl (Or.inl rfl)) (fun _ _ _ _ _ => pts_nil)
      (fun _ _ _ _ _ => pe_ifExp (pt_cmpR op_eq (pv 3) (pe_ix (ix_K (K := K) rfl) (pv 0) (pv 2) (fun _ _ => rfl)) (nomark _)) (pe_ix (ix_K (K := K) rfl) (pv 0) (pv 1) (fun _ _ => rfl)) (pv 3)))), ?_⟩
    refine ⟨_, rfl, a, rfl, ⟨_, hS⟩, fun D nD => ?_⟩
    have sD : ∀ o, Same H (upd H D o) := fun o b u e => by rw [upd_ne (ne_of_none e nD)]; exact e
    refine lc_list (K := K) (a := a) (xs := gs.map iv) (fun i H' => H' = upd H D (.lst (((join gs x y).take i).map iv))) (by simp) (fun i H' _ e => by rw [e]; exact (sD _).seq hS) (fun i v H' hv e => ?_) fun H' e => ?_
    · obtain ⟨g, hg, rfl⟩ := map_got hv
      subst e
      have hS1 := (sD (.lst (((join gs x y).take i).map iv))).seq hS
      have hD := upd_same (H := H) (a := D) (o := .lst (((join gs x y).take i).map iv))
      have hj : (join gs x y)[i]? = some (if g = y then x else g) := map_get hg
      have hlen : (((join gs x y).take i).map iv).length < sizeLine := by
        rw [List.length_map, List.length_take, sizeLine_eq, join, List.length_map]
        omega
      refine ⟨rfl, ?_⟩
      refine ⟨_, rfl, _, rfl, _, rfl, a, _, _, _, rfl, rfl, hS1, atN (map_get ht), rfl, _, rfl, ?_⟩
      by_cases c : g = y
      · rw [if_pos c] at hj
        subst c
        refine iteT' (decide_eq_true rfl) ?_
        refine ⟨_, rfl, _, rfl, a, _, _, _, rfl, rfl, hS1, atN (map_get ho), _, hD, hlen, ?_⟩
        rw [upd_upd, take_snoc hj, List.map_append]
        rfl
      · rw [if_neg c] at hj
        refine iteF' (decide_eq_false fun z => c (iv_inj.mp z)) ?_
        refine ⟨_, rfl, _, hD, hlen, ?_⟩
        rw [upd_upd, take_snoc hj, List.map_append]
        rfl
    · subst e
      have e : (join gs x y).take (gs.map iv).length = join gs x y := List.take_of_length_le (by rw [join]; simp)
      rw [e]
      exact k D nD
def spFirst (K : PySem.W.Frag) : Sp := fun vs H Q _ => ∃ (a : Addr) (ps : List Addr) (tr : List E2), vs = [.ref a] ∧ SqT K H a (ps.map V.ref) ∧ Prs H ps tr ∧ TreeL tr ∧ tr.length ≤ 999 ∧ ∀ H', Same H H' → Q .non H'
theorem sc_first : FnScope ["tracks", "size", "groups", "index", "track", "one", "other"] ["tracks"] (defScope s_first_wrong_track) := ⟨rfl, rfl, rfl, by decide +kernel, rfl, by decide +kernel, by decide +kernel⟩
theorem ok_first {f fP fJ : Addr} {fd fdP fdJ : FuncData} (F : Fun K "first_wrong_track" "first_wrong_track" s_first_wrong_track f fd) (N : Nm mg)
    (UP : Use P w K mg base CX0 3 "is_pair_of_stations" fP fdP ["value", "size"] (spPair K)) (UJ : Use P w K mg base CX0 1 "joined" fJ fdJ ["groups", "one", "other"] (spJoin K)) : FnOk P w K mg base CX0 4 f fd ["tracks"] (spFirst K) := by
  refine F.ok sc_first (fun vs H Q E h => ?_) (fun cdv A outer s H vs Q E hr h => ?_)
  · obtain ⟨a, ps, tr, rfl, _⟩ := h
    rfl
  · obtain ⟨a, ps, tr, rfl, hS, hP, T, hl, k⟩ := h
    refine ⟨_, pss_cons (ps_set (i := 1) sc_first.nd rfl (.inl rfl) (pe_op op_add (pe_callB call_len_seq (by rfl) N.len PySem.boot_len (pa_cons (pv 0) pa_nil)) pe_int))
      (pss_cons (ps_set (i := 2) sc_first.nd rfl (.inl rfl) (pe_listRg rfl (by rfl) N.list (prg_1 (by rfl) N.range (pv 1))))
      (pss_cons (ps_for PassesOwn.never rfl (pi_enumT (by rfl) N.enum (pa_cons (pv 0) pa_nil)) (pg_tup rfl (pgs_cons (pg_name (i := 3) sc_first.nd rfl (.inl rfl)) (pgs_cons (pg_name (i := 4) sc_first.nd rfl (.inl rfl)) pgs_nil)))
        (pss_cons (ps_if (pt_not (pt_val (pe_use UP hr rfl (pa_cons (pv 4) (pa_cons (pv 1) pa_nil))))) (pss_one (ps_ret (pv 3))) pss_nil)
        (pss_cons (ps_asg (pv 4) (pg_tup rfl (pgs_cons (pg_name (i := 5) sc_first.nd rfl (.inl rfl)) (pgs_cons (pg_name (i := 6) sc_first.nd rfl (.inl rfl)) pgs_nil))))
        (pss_cons (ps_if (pt_cmpR op_eq (pe_ix ix_list (pv 2) (pv 5) (fun _ _ => rfl)) (pe_ix ix_list (pv 2) (pv 6) (fun _ _ => rfl)) (nomark _)) (pss_one (ps_ret (pv 3))) pss_nil)
        (pss_one (ps_set (i := 2) sc_first.nd rfl (.inl rfl) (pe_use UJ (hr.mono (by decide)) rfl (pa_cons (pv 2) (pa_cons (pv 5) (pa_cons (pv 6) pa_nil))))))))))
      (pss_one (ps_ret pe_non)))), ?_⟩
    have lp : (ps.map V.ref).length = tr.length := by rw [List.length_map, hP.1]
    refine ⟨_, rfl, a, _, rfl, .inr hS, _, _, rfl, rfl, ?_⟩
    refine ⟨_, rfl, _, rfl, ?_⟩
    refine ⟨RgOk.of_le (by decide) (by rw [lp]; omega) (by decide) (by omega), fun g0 ng => ?_⟩
    have s0 := same_upd ng (.lst (rgV 0 (((ps.map V.ref).length : Int) + 1)))
    have e0 : rgV 0 (((ps.map V.ref).length : Int) + 1) = (List.range (tr.length + 1)).map iv := by rw [lp, rgV_iv]
    have hg0 : upd H g0 (.lst (rgV 0 (((ps.map V.ref).length : Int) + 1))) g0 = some (.lst ((List.range (tr.length + 1)).map iv)) := by rw [← e0]; exact upd_same
    refine ⟨_, rfl, a, _, rfl, s0.tp hS, for_enumT (K := K) (a := a) (xs := ps.map V.ref) (fun i σ H' => ∃ (gs : List Nat) (g : Addr) (x3 x4 x5 x6 : Option V), σ = [some (.ref a), some (.int (((ps.map V.ref).length : Int) + 1)), some (.ref g), x3, x4, x5, x6] ∧ Same H H' ∧ H' g = some (.lst (gs.map iv)) ∧ GI tr i gs)
      ⟨List.range (tr.length + 1), g0, none, none, none, none, rfl, s0, hg0, GI.start tr⟩ (fun i σ H' _ ⟨_, _, _, _, _, _, _, s1, _⟩ => s1.tp hS) ?_ ?_⟩
    · rintro i v T0 σ H' hv ⟨gs, g, x3, x4, x5, x6, rfl, s1, hg, G⟩ nT
      obtain ⟨p, e, rfl, hp, he, hH⟩ := hP.get hv
      have hm := List.mem_of_getElem? he
      have sT := same_upd nT (.tup [V.int (i : Nat), V.ref p])
      have hT := upd_same (H := H') (a := T0) (o := .tup [V.int (i : Nat), V.ref p])
      have s2 := s1.trans sT
      have hg2 := sT _ _ hg
      have hH2 := s2 _ _ hH
      generalize upd H' T0 (.tup [V.int (i : Nat), V.ref p]) = H2 at sT hT s2 hg2 hH2
      have b1 := T.lt1 hm
      obtain ⟨x, hx⟩ : ∃ x, gs[e.1]? = some x := ⟨_, List.getElem?_eq_getElem (by rw [G.1]; exact b1.1)⟩
      obtain ⟨y, hy⟩ : ∃ y, gs[e.2]? = some y := ⟨_, List.getElem?_eq_getElem (by rw [G.1]; exact b1.2)⟩
      have nxy := G.ne T he hx hy
      refine ⟨T0, _, rfl, SqT.of hT, rfl, ?_⟩
      refine ⟨_, _, rfl, _, _, rfl, rfl, ?_⟩
      -- if not is_pair_of_stations(track, size)
      refine ⟨_, rfl, _, rfl, _, _, _, rfl, .two hH2 (.inl ⟨_, rfl⟩) (.inl ⟨_, rfl⟩), _, rfl, ?_⟩
      rw [lp]
      rw [show isPr (some (iv e.1, iv e.2)) ((tr.length : Int) + 1) = true from isPr_ok (n := tr.length + 1) b1.1 b1.2 (T.ne e hm)]
      refine iteF ?_
      -- one, other = track
      refine ⟨_, rfl, p, _, rfl, SqT.of hH2, rfl, ?_⟩
      refine ⟨_, _, rfl, _, _, rfl, rfl, ?_⟩
      -- if groups[one] == groups[other]
      refine ⟨_, rfl, _, rfl, g, _, _, _, rfl, rfl, SqL.of hg2, atN (map_get hx), _, rfl, _, rfl, g, _, _, _, rfl, rfl, SqL.of hg2, atN (map_get hy), rfl, _, rfl, ?_⟩
      refine iteF' (decide_eq_false fun z => nxy (iv_inj.mp z)) ?_
      -- groups = joined(groups, one, other)
      refine ⟨_, rfl, _, rfl, _, rfl, g, gs, e.1, e.2, x, y, rfl, SqL.of hg2, by rw [G.1]; omega, hx, hy, fun q nq => ?_⟩
      exact ⟨join gs x y, q, _, _, _, _, rfl, s2.trans (same_upd nq _), upd_same, G.next T he hx hy⟩
    · rintro σ H' ⟨gs, g, x3, x4, x5, x6, rfl, s1, hg, G⟩
      exact k H' s1
end
end TR

namespace TR
def bit (v : Nat) (e : E2) : List Nat := if e.1 = v then [e.2] else if e.2 = v then [e.1] else []
def rowOf (tr : List E2) (v : Nat) : List Nat := tr.flatMap (bit v)
def srt (l : List Nat) : List Nat := l.mergeSort (fun a b => decide (a ≤ b))
def nb (tr : List E2) (v : Nat) : List Nat := srt (rowOf tr v)
theorem srt_perm (l : List Nat) : (srt l).Perm l := List.mergeSort_perm l _
theorem srt_le (l : List Nat) : (srt l).Pairwise (· ≤ ·) := by
  have h := List.pairwise_mergeSort (le := fun a b : Nat => decide (a ≤ b)) (by intro a b c; simp only [decide_eq_true_eq]; omega) (by intro a b; simp only [Bool.or_eq_true, decide_eq_true_eq]; omega) l
  exact h.imp fun {a b} h => of_decide_eq_true h
theorem srt_of {l : List Nat} {ns : List Int} (hp : ns.Perm (l.map Int.ofNat)) (hs : ns.Pairwise (· ≤ ·)) : ns = (srt l).map Int.ofNat := by
  refine List.Perm.eq_of_pairwise (le := (· ≤ ·)) (fun a b _ _ h1 h2 => Int.le_antisymm h1 h2) hs ?_ (hp.trans ((srt_perm l).map _).symm)
  exact List.Pairwise.map _ (fun a b h => Int.ofNat_le.mpr h) (srt_le l)
theorem rowOf_snoc (tr : List E2) (e : E2) (v : Nat) : rowOf (tr ++ [e]) v = rowOf tr v ++ bit v e := by
  unfold rowOf
  rw [List.flatMap_append]
  simp
theorem rowOf_len (tr : List E2) (v : Nat) : (rowOf tr v).length ≤ tr.length := by
  induction tr with
  | nil => exact Nat.le_refl _
  | cons e r ih =>
    have : (rowOf (e :: r) v) = bit v e ++ rowOf r v := rfl
    rw [this, List.length_append, List.length_cons]
    have h1 : (bit v e).length ≤ 1 := by
      unfold bit
      split
      · exact Nat.le_refl _
      · split <;> simp
    omega
theorem mem_row {tr : List E2} (ne : ∀ e ∈ tr, e.1 ≠ e.2) {v w : Nat} : w ∈ rowOf tr v ↔ Adj tr v w := by
  unfold rowOf
  rw [List.mem_flatMap]
  constructor
  · rintro ⟨e, he, h⟩
    unfold bit at h
    split at h
    · next h1 =>
      rw [List.mem_singleton] at h
      exact .inl (by rw [← h1, h]; exact he)
    · split at h
      · next h2 =>
        rw [List.mem_singleton] at h
        exact .inr (by rw [← h2, h]; exact he)
      · cases h
  · rintro (h | h)
    · refine ⟨_, h, ?_⟩
      simp [bit]
    · refine ⟨_, h, ?_⟩
      have := ne _ h
      have h2 : ¬ w = v := this
      simp [bit, h2]
theorem mem_nb {tr : List E2} (ne : ∀ e ∈ tr, e.1 ≠ e.2) {v w : Nat} : w ∈ nb tr v ↔ Adj tr v w := by
  unfold nb
  rw [(srt_perm _).mem_iff]
  exact mem_row ne
theorem nb_len (tr : List E2) (v : Nat) : (nb tr v).length ≤ tr.length := by
  unfold nb
  rw [(srt_perm _).length_eq]
  exact rowOf_len tr v
end TR

namespace TR
open PySem PySem.Spec PyProof.Rows L2 L2.TT
/-- a list of lists (or tuples) in the heap: rows as f tells, all apart, none before in H -/
structure Rws (H H' : Hp) (r : Addr) (n : Nat) (o : List V → HO) (as : List Addr) (f : Nat → List Nat) : Prop where
  own : H' r = some (.lst (as.map V.ref))
  new : H r = none
  len : as.length = n
  at_ : ∀ (v : Nat) (a : Addr), as[v]? = some a → H' a = some (o ((f v).map iv)) ∧ H a = none ∧ a ≠ r
  nd : as.Nodup
theorem ints_map (l : List Nat) : (l.map Int.ofNat).map V.int = l.map iv := by rw [List.map_map]; rfl
theorem nodup_snoc {α : Type} {l : List α} {a : α} (h : l.Nodup) (ha : a ∉ l) : (l ++ [a]).Nodup := by
  rw [List.nodup_append]
  refine ⟨h, by simp, fun x hx y hy => ?_⟩
  rw [List.mem_singleton] at hy
  rintro rfl
  exact ha (hy ▸ hx)
theorem get_snoc {α : Type} {l : List α} {a x : α} {i : Nat} (h : (l ++ [a])[i]? = some x) : l[i]? = some x ∨ (i = l.length ∧ x = a) := by
  by_cases c : i < l.length
  · rw [List.getElem?_append_left c] at h
    exact .inl h
  · rw [List.getElem?_append_right (by omega)] at h
    by_cases c2 : i - l.length = 0
    · rw [c2] at h
      exact .inr ⟨by omega, (Option.some.inj h).symm⟩
    · exfalso
      obtain ⟨k, hk⟩ := Nat.exists_eq_succ_of_ne_zero c2
      rw [hk] at h
      cases h
/-- [[] for station in range(n)] -/
theorem rws_start {H : Hp} {r : Addr} (o : List V → HO) (f : Nat → List Nat) (nr : H r = none) : Rws H (upd H r (.lst [])) r 0 o [] f := ⟨upd_same, nr, rfl, fun v a h => (by cases h), List.nodup_nil⟩
theorem Rws.grow {H H' : Hp} {r : Addr} {n : Nat} {o : List V → HO} {as : List Addr} {f : Nat → List Nat} (R : Rws H H' r n o as f) (s : Same H H') {p : Addr} {H2 : Hp} (np : H' p = none) (s2 : ∀ b, b ≠ p → H' b ≠ none → H2 b = H' b) (hp : H2 p = some (o ((f n).map iv))) :
    Rws H (upd H2 r (.lst (as.map V.ref ++ [.ref p]))) r (n + 1) o (as ++ [p]) f := by
  have npr : p ≠ r := fun z => by rw [z, R.own] at np; cases np
  refine ⟨by rw [upd_same, List.map_append]; rfl, R.new, by rw [List.length_append, R.len]; rfl, fun v a h => ?_, ?_⟩
  · rcases get_snoc h with h | ⟨e, rfl⟩
    · obtain ⟨h1, h2, h3⟩ := R.at_ v a h
      have nap : a ≠ p := fun z => by rw [z, np] at h1; cases h1
      exact ⟨by rw [upd_ne h3, s2 a nap (by rw [h1]; simp)]; exact h1, h2, h3⟩
    · rw [R.len] at e
      subst e
      exact ⟨by rw [upd_ne npr]; exact hp, s.free np, npr⟩
  · refine nodup_snoc R.nd fun hm => ?_
    obtain ⟨i, hi⟩ := List.mem_iff_getElem?.mp hm
    have := (R.at_ i p hi).1
    rw [np] at this
    cases this
theorem Rws.same {H H' : Hp} {r : Addr} {n : Nat} {o : List V → HO} {as : List Addr} {f : Nat → List Nat} (R : Rws H H' r n o as f) {H2 : Hp} (s : Same H' H2) : Rws H H2 r n o as f :=
  ⟨s _ _ R.own, R.new, R.len, fun v a h => ⟨s _ _ (R.at_ v a h).1, (R.at_ v a h).2⟩, R.nd⟩
/-- one row is grown -/
theorem Rws.put {H H' : Hp} {r : Addr} {n : Nat} {o : List V → HO} {as : List Addr} {f g : Nat → List Nat} (R : Rws H H' r n o as f) {v : Nat} {a : Addr} (ha : as[v]? = some a) (hg : ∀ u, u ≠ v → g u = f u) :
    Rws H (upd H' a (o ((g v).map iv))) r n o as g := by
  obtain ⟨h1, h2, h3⟩ := R.at_ v a ha
  refine ⟨by rw [upd_ne h3.symm]; exact R.own, R.new, R.len, fun u b hb => ?_, R.nd⟩
  obtain ⟨k1, k2, k3⟩ := R.at_ u b hb
  refine ⟨?_, k2, k3⟩
  by_cases c : u = v
  · subst c
    rw [ha] at hb
    cases hb
    exact upd_same
  · have ne : b ≠ a := by
      rintro rfl
      have hl := (List.getElem?_eq_some_iff.mp hb).1
      exact c ((List.getElem?_inj hl R.nd).mp (hb.trans ha.symm))
    rw [upd_ne ne, hg u c]
    exact k1
theorem same_old {H H' : Hp} {a : Addr} (s : Same H H') (na : H a = none) (o : HO) : Same H (upd H' a o) := fun b u e => by rw [upd_ne (ne_of_none e na)]; exact s b u e
theorem Rws.base {H0 H H' : Hp} {r : Addr} {n : Nat} {o : List V → HO} {as : List Addr} {f : Nat → List Nat} (R : Rws H H' r n o as f) (s : Same H0 H) : Rws H0 H' r n o as f :=
  ⟨R.own, s.free R.new, R.len, fun v a h => ⟨(R.at_ v a h).1, s.free (R.at_ v a h).2.1, (R.at_ v a h).2.2⟩, R.nd⟩
theorem Rws.get {H H' : Hp} {r : Addr} {n : Nat} {o : List V → HO} {as : List Addr} {f : Nat → List Nat} (R : Rws H H' r n o as f) {v : Nat} (h : v < n) : ∃ a, as[v]? = some a ∧ H' a = some (o ((f v).map iv)) ∧ H a = none ∧ a ≠ r := by
  have hl : v < as.length := by rw [R.len]; exact h
  exact ⟨as[v], List.getElem?_eq_getElem hl, R.at_ v _ (List.getElem?_eq_getElem hl)⟩
theorem Rws.cong {H H' : Hp} {r : Addr} {n : Nat} {o : List V → HO} {as : List Addr} {f g : Nat → List Nat} (R : Rws H H' r n o as f) (e : ∀ v, v < n → f v = g v) : Rws H H' r n o as g :=
  ⟨R.own, R.new, R.len, fun v a h => by
    have hl := (List.getElem?_eq_some_iff.mp h).1
    rw [R.len] at hl
    rw [← e v hl]
    exact R.at_ v a h, R.nd⟩
end TR

namespace TR
open PySem PySem.Spec PyProof.Rows L2 L2.TT
theorem ixN_lt {n v : Nat} (h : v < n) : ixN n (v : Int) = some v := by
  unfold ixN
  rw [if_pos (by omega), if_pos (by omega)]
  simp
theorem cs_K {X : Cx} {K : PySem.W.Frag} (h : X.K = K) : CallR X (.builtin "sorted") (rSortedI K) := by
  subst h
  exact cr_sortedI
def rTupOf (K : PySem.W.Frag) : List V → Hp → VK → Prop := fun xs H Q => ∃ p ys, xs = [.ref p] ∧ ((SqL K H p ys ∧ ∀ l, H l = none → Q (.ref l) (upd H l (.tup ys))) ∨ (SqT K H p ys ∧ Q (.ref p) H))
theorem ct_K {X : Cx} {K : PySem.W.Frag} (h : X.K = K) : CallR X (.type "tuple") (rTupOf K) := by
  subst h
  exact call_tuple_of
def spNbs (K : PySem.W.Frag) : Sp := fun vs H Q _ => ∃ (a : Addr) (ps : List Addr) (tr : List E2), vs = [.ref a] ∧ SqT K H a (ps.map V.ref) ∧ Prs H ps tr ∧ (∀ e ∈ tr, e.1 ≠ e.2 ∧ e.1 < tr.length + 1 ∧ e.2 < tr.length + 1) ∧ tr.length ≤ 999 ∧
  ∀ (D : Addr) (ts : List Addr) (H' : Hp), Same H H' → Rws H H' D (tr.length + 1) HO.tup ts (nb tr) → Q (.ref D) H'
section
variable {P : Program} {w : World} {K : PySem.W.Frag} {mg : Str → Option Value} {base : Heap}
theorem sc_nbs : FnScope ["tracks", "rows", "one", "other", "station", "row"] ["tracks"] (defScope s_neighbours_of) := ⟨rfl, rfl, rfl, by decide +kernel, rfl, by decide +kernel, by decide +kernel⟩
theorem ok_nbs {f : Addr} {fd : FuncData} (F : Fun K "_neighbours_of" "_neighbours_of" s_neighbours_of f fd) (N : Nm mg) : FnOk P w K mg base CX0 1 f fd ["tracks"] (spNbs K) := by
  refine F.ok sc_nbs (fun vs H Q E h => ?_) (fun cdv A outer s H vs Q E hr h => ?_)
  · obtain ⟨a, ps, tr, rfl, _⟩ := h
    rfl
  · obtain ⟨a, ps, tr, rfl, hS, hP, T, hl, k⟩ := h
    refine ⟨_, pss_cons (ps_setLc (i := 1) (own := [("station", 4)]) (g := gName 4) (tt := tYes) (by rfl) sc_nbs.nd rfl rfl (sw_true rfl rfl rfl (by decide +kernel))
        (pi_range1 (by rfl) N.range (pa_cons (pe_op op_add (pe_callB call_len_seq (by rfl) N.len PySem.boot_len (pa_cons (pv 0) pa_nil)) pe_int) pa_nil))
        (blkOk_by (N := ["tracks", "rows", "one", "other", "station", "row"]) (sc := defScope s_neighbours_of) (by decide +kernel))
        (fun _ _ _ _ _ => pg_name (i := 4) sc_nbs.nd rfl (Or.inl rfl)) (fun _ _ _ _ _ => pts_nil) (fun _ _ _ _ _ => pe_lst pa_nil))
      (pss_cons (ps_for PassesOwn.never rfl (pi_tup (pv 0)) (pg_tup rfl (pgs_cons (pg_name (i := 2) sc_nbs.nd rfl (.inl rfl)) (pgs_cons (pg_name (i := 3) sc_nbs.nd rfl (.inl rfl)) pgs_nil)))
        (pss_cons (ps_expr (pe_bm PySem.F.plainAttrs_list PySem.F.slot_list_append PySem.F.type_list_append mt_append (pe_ix ix_list (pv 1) (pv 2) (fun _ _ => rfl)) (pa_cons (pv 3) pa_nil)))
        (pss_one (ps_expr (pe_bm PySem.F.plainAttrs_list PySem.F.slot_list_append PySem.F.type_list_append mt_append (pe_ix ix_list (pv 1) (pv 3) (fun _ _ => rfl)) (pa_cons (pv 2) pa_nil))))))
      (pss_one (ps_ret (pe_lc (own := [("row", 5)]) (g := gName 5) (tt := tYes) rfl sc_nbs.nd (pi_list (pv 1)) (blkOk_by (N := ["tracks", "rows", "one", "other", "station", "row"]) (sc := defScope s_neighbours_of) (by decide +kernel))
        (fun _ _ _ _ _ => pg_name (i := 5) sc_nbs.nd rfl (Or.inl rfl)) (fun _ _ _ _ _ => pts_nil)
        (fun _ _ _ _ _ => pe_callTy (ct_K (K := K) rfl) (by rfl) N.tuple boot_tuple (pa_cons (pe_callB (cs_K (K := K) rfl) (by rfl) N.sorted boot_sorted (pa_cons (pv 5) pa_nil)) pa_nil)))))), ?_⟩
    have lp : (ps.map V.ref).length = tr.length := by rw [List.length_map, hP.1]
    have e62 : (2 : Int) ^ 62 = 4611686018427387904 := by decide
    refine ⟨_, rfl, a, _, rfl, .inr hS, _, _, rfl, rfl, _, rfl, by omega, by rw [lp, e62]; omega, fun r nr => ?_⟩
    refine lc_range (lo := 0) (fun i H' => ∃ as, Rws H H' r i HO.lst as (fun _ => []) ∧ Same H H') ⟨[], rws_start _ _ nr, same_upd nr _⟩ ?_ ?_
    · rintro i H' hi ⟨as, R, s1⟩
      refine ⟨rfl, by show 0 ≤ sizeLine; exact Nat.zero_le _, fun p np => ⟨as.map V.ref, ?_, ?_, as ++ [p], ?_, ?_⟩⟩
      · have npr : r ≠ p := fun z => by rw [← z, R.own] at np; cases np
        rw [upd_ne npr]
        exact R.own
      · rw [List.length_map, R.len, sizeLine_eq]
        rw [lp] at hi
        omega
      · exact R.grow s1 np (fun b hb _ => upd_ne hb) upd_same
      · exact same_old (s1.trans (same_upd np _)) nr _
    rintro H1 ⟨as, R, s1⟩
    have en : (((ps.map V.ref).length : Int) + 1).toNat = tr.length + 1 := by rw [lp]; omega
    have R1 : Rws H H1 r (tr.length + 1) HO.lst as (fun _ => []) := en ▸ R
    clear R
    -- for one, other in tracks
    refine ⟨_, rfl, a, rfl, ⟨_, s1.tp hS⟩, for_tup (K := K) (a := a) (xs := ps.map V.ref) (fun i σ H' => ∃ (as : List Addr) (x2 x3 x4 x5 : Option V), σ = [some (.ref a), some (.ref r), x2, x3, x4, x5] ∧ Same H H' ∧ Rws H H' r (tr.length + 1) HO.lst as (rowOf (tr.take i)))
      ⟨as, none, none, none, none, rfl, s1, R1⟩ (fun i σ H' _ ⟨_, _, _, _, _, _, s2, _⟩ => s2.tp hS) ?_ ?_⟩
    · rintro i v σ H' hv ⟨as, x2, x3, x4, x5, rfl, s2, R⟩
      obtain ⟨p, e, rfl, hp, he, hH⟩ := hP.get hv
      have hm := List.mem_of_getElem? he
      obtain ⟨ne, b1, b2⟩ := T e hm
      have hH2 := s2 _ _ hH
      refine ⟨p, _, rfl, SqT.of hH2, rfl, ?_⟩
      refine ⟨_, _, rfl, _, _, rfl, rfl, ?_⟩
      obtain ⟨r1, g1, h1, n1, d1⟩ := R.get b1
      have hlen : ∀ u, ((rowOf (tr.take i) u).map iv).length ≤ 999 := fun u => by
        rw [List.length_map]
        have := rowOf_len (tr.take i) u
        rw [List.length_take] at this
        omega
      refine ⟨_, rfl, _, rfl, r, _, _, _, rfl, rfl, SqL.of R.own, atN (map_get g1), .inl ⟨rfl, _, SqL.of h1⟩, _, rfl, _, _, _, rfl, rfl, h1, by rw [sizeLine_eq]; have := hlen e.1; omega, ?_⟩
      have e1 : (rowOf (tr.take i) e.1).map iv ++ [iv e.2] = ((fun u => if u = e.1 then rowOf (tr.take i) u ++ [e.2] else rowOf (tr.take i) u) e.1).map iv := by simp
      have R2 := R.put (g := fun u => if u = e.1 then rowOf (tr.take i) u ++ [e.2] else rowOf (tr.take i) u) g1 (fun u hu => by simp [hu])
      rw [← e1] at R2
      have s3 := same_old s2 n1 (.lst ((rowOf (tr.take i) e.1).map iv ++ [iv e.2]))
      generalize upd H' r1 (.lst ((rowOf (tr.take i) e.1).map iv ++ [iv e.2])) = H2 at R2 s3
      obtain ⟨r2, g2, h2, n2, d2⟩ := R2.get b2
      rw [if_neg fun z => ne z.symm] at h2
      refine ⟨_, rfl, _, rfl, r, _, _, _, rfl, rfl, SqL.of R2.own, atN (map_get g2), .inl ⟨rfl, _, SqL.of h2⟩, _, rfl, _, _, _, rfl, rfl, h2, by rw [sizeLine_eq]; have := hlen e.2; omega, ?_⟩
      have et : tr.take (i + 1) = tr.take i ++ [e] := take_snoc he
      have e2 : (rowOf (tr.take i) e.2).map iv ++ [iv e.1] = (rowOf (tr.take (i + 1)) e.2).map iv := by
        rw [et, rowOf_snoc, List.map_append]
        have : bit e.2 e = [e.1] := by unfold bit; rw [if_neg ne, if_pos rfl]
        rw [this]
        rfl
      refine ⟨as, _, _, _, _, rfl, same_old s3 n2 _, ?_⟩
      rw [e2]
      refine R2.put g2 fun u hu => ?_
      rw [et, rowOf_snoc]
      show rowOf (tr.take i) u ++ bit u e = if u = e.1 then rowOf (tr.take i) u ++ [e.2] else rowOf (tr.take i) u
      by_cases c : u = e.1
      · rw [if_pos c]
        unfold bit
        rw [if_pos c.symm]
      · rw [if_neg c]
        unfold bit
        rw [if_neg fun z => c z.symm, if_neg fun z => hu z.symm, List.append_nil]
    · rintro σ H' ⟨as, x2, x3, x4, x5, rfl, s2, R⟩
      have ea : tr.take (ps.map V.ref).length = tr := by rw [lp]; exact List.take_length
      rw [ea] at R
      refine ⟨_, rfl, r, rfl, ⟨_, SqL.of R.own⟩, fun D nD => ?_⟩
      refine lc_list (K := K) (a := r) (xs := as.map V.ref) (fun i H2 => ∃ ts, Rws H' H2 D i HO.tup ts (nb tr) ∧ Same H' H2) ⟨[], rws_start _ _ nD, same_upd nD _⟩ (fun i H2 _ ⟨_, _, s3⟩ => s3.seq (SqL.of R.own)) ?_ ?_
      · rintro i v H2 hv ⟨ts, R2, s3⟩
        obtain ⟨b, hb, rfl⟩ := map_got hv
        obtain ⟨h1, _, _⟩ := R.at_ i b hb
        refine ⟨rfl, ?_⟩
        refine ⟨_, rfl, b, (rowOf tr i).map Int.ofNat, rfl, by rw [ints_map]; exact s3.seq (SqL.of h1), fun ns' p hp hs np => ?_⟩
        have en' : ns'.map V.int = (nb tr i).map iv := by
          rw [srt_of hp hs, ints_map]
          rfl
        rw [en']
        refine ⟨p, _, rfl, .inl ⟨SqL.of upd_same, fun l nl => ⟨ts.map V.ref, ?_, ?_, ts ++ [l], ?_, ?_⟩⟩⟩
        · have n1 : D ≠ l := fun z => by
            rw [← z, same_upd np _ _ _ R2.own] at nl
            cases nl
          rw [upd_ne n1]
          exact same_upd np _ _ _ R2.own
        · rw [List.length_map, R2.len, sizeLine_eq]
          have := (List.getElem?_eq_some_iff.mp hb).1
          rw [R.len] at this
          omega
        · refine (R2.same (same_upd np _)).grow (s3.trans (same_upd np _)) nl (fun b hb _ => upd_ne hb) upd_same
        · exact same_old ((s3.trans (same_upd np _)).trans (same_upd nl _)) nD _
      · rintro H2 ⟨ts, R2, s3⟩
        refine k D ts H2 (s2.trans s3) ?_
        have el : (as.map V.ref).length = tr.length + 1 := by rw [List.length_map, R.len]
        rw [← el]
        exact R2.base s2
end
end TR

namespace TR
noncomputable def p0 (tr : List E2) (v : Nat) : Nat := if v = 0 then 0 else par tr v
noncomputable def kids (tr : List E2) (v : Nat) : List Nat := (nb tr v).filter fun w => decide (w ≠ p0 tr v)
noncomputable def lay (tr : List E2) : Nat → List Nat
  | 0 => [0]
  | k + 1 => (lay tr k).flatMap (kids tr)
section
variable {tr : List E2}
/-- a list without repetition of numbers up to n has at most n + 1 items -/
theorem nd_len {n : Nat} {l : List Nat} (h : l.Nodup) (hb : ∀ x ∈ l, x ≤ n) : l.length ≤ n + 1 := by
  have hs : l ⊆ List.range (n + 1) := fun x hx => List.mem_range.mpr (by have := hb x hx; omega)
  have := h.length_le_of_subset hs
  simpa using this
theorem mem_kids (T : TreeL tr) {v w : Nat} : w ∈ kids tr v ↔ 0 < w ∧ par tr w = v ∧ w ≤ tr.length := by
  unfold kids
  rw [List.mem_filter, mem_nb T.ne]
  constructor
  · rintro ⟨h, hne⟩
    have hne := of_decide_eq_true hne
    rcases adj_par T h with ⟨h1, h2, h3⟩ | ⟨h1, h2, h3⟩
    · exfalso
      apply hne
      unfold p0
      rw [if_neg (by omega)]
      exact h2
    · exact ⟨h1, h2.symm, h3⟩
  · rintro ⟨h1, h2, h3⟩
    have ha := par_adj T h1 h3
    rw [h2] at ha
    refine ⟨ha.symm, decide_eq_true ?_⟩
    intro z
    have hlt := par_dep T h1
    rw [h2] at hlt
    unfold p0 at z
    by_cases c : v = 0
    · rw [if_pos c] at z
      omega
    · rw [if_neg c] at z
      have := par_dep T (y := v) (by omega)
      rw [← z] at this
      omega
theorem mem_lay (T : TreeL tr) : ∀ {k v : Nat}, v ∈ lay tr k ↔ v ≤ tr.length ∧ dep tr v = k
  | 0, v => by
    show v ∈ [0] ↔ _
    rw [List.mem_singleton]
    constructor
    · rintro rfl
      exact ⟨Nat.zero_le _, dep_zero⟩
    · rintro ⟨_, h⟩
      by_cases c : v = 0
      · exact c
      · rw [dep_succ T (by omega)] at h
        cases h
  | k + 1, v => by
    show v ∈ (lay tr k).flatMap (kids tr) ↔ _
    rw [List.mem_flatMap]
    constructor
    · rintro ⟨u, hu, hv⟩
      obtain ⟨h1, h2, h3⟩ := (mem_kids T).mp hv
      obtain ⟨_, h5⟩ := (mem_lay T).mp hu
      exact ⟨h3, by rw [dep_succ T h1, h2, h5]⟩
    · rintro ⟨h1, h2⟩
      have hv : 0 < v := by
        by_cases c : v = 0
        · subst c
          rw [dep_zero] at h2
          cases h2
        · omega
      rw [dep_succ T hv] at h2
      exact ⟨par tr v, (mem_lay T).mpr ⟨T.par_le v, by omega⟩, (mem_kids T).mpr ⟨hv, rfl, h1⟩⟩
/-- tracks that are different as pairs of ends -/
theorem row_nd0 : ∀ {tr : List E2}, (tr.map fun e => (mn e, mx e)).Nodup → (∀ e ∈ tr, e.1 ≠ e.2) → ∀ v, (rowOf tr v).Nodup
  | [], _, _, v => List.nodup_nil
  | e :: r, hn, ne, v => by
    rw [List.map_cons, List.nodup_cons] at hn
    show (bit v e ++ rowOf r v).Nodup
    have ne' : ∀ x ∈ r, x.1 ≠ x.2 := fun x hx => ne x (List.mem_cons_of_mem _ hx)
    rw [List.nodup_append]
    refine ⟨?_, row_nd0 hn.2 ne' v, ?_⟩
    · unfold bit
      split
      · simp
      · split <;> simp
    · rintro x hx y hy rfl
      apply hn.1
      have hy2 := (mem_row ne').mp hy
      have em : (mn e, mx e) = (mn (v, x), mx (v, x)) := by
        unfold bit at hx
        split at hx
        · next h1 =>
          rw [List.mem_singleton] at hx
          unfold mx mn
          rw [← h1, hx]
        · split at hx
          · next h2 =>
            rw [List.mem_singleton] at hx
            unfold mx mn
            rw [← h2, hx]
            show (min e.1 e.2, max e.1 e.2) = (min e.2 e.1, max e.2 e.1)
            rw [Nat.max_comm, Nat.min_comm]
          · cases hx
      rw [em]
      rcases hy2 with h | h
      · exact List.mem_map_of_mem (f := fun e => (mn e, mx e)) h
      · have := List.mem_map_of_mem (f := fun e => (mn e, mx e)) h
        have e2 : (mn (x, v), mx (x, v)) = (mn (v, x), mx (v, x)) := by
          show (min x v, max x v) = (min v x, max v x)
          rw [Nat.max_comm, Nat.min_comm]
        exact e2 ▸ this
theorem TreeL.nd2 (T : TreeL tr) : (tr.map fun e => (mn e, mx e)).Nodup := by
  refine List.pairwise_iff_getElem.mpr fun i j hi hj hij z => ?_
  rw [List.length_map] at hi hj
  rw [List.getElem_map, List.getElem_map] at z
  have h1 := List.getElem?_eq_getElem hi
  have h2 := List.getElem?_eq_getElem hj
  generalize tr[i] = e at h1 z
  generalize tr[j] = d at h2 z
  have z1 := congrArg Prod.fst z
  have z2 := congrArg Prod.snd z
  have z1 : mn e = mn d := z1
  have z2 : mx e = mx d := z2
  have : ch tr e = ch tr d := by
    have q : (e.1 = d.1 ∧ e.2 = d.2) ∨ (e.1 = d.2 ∧ e.2 = d.1) := by
      simp only [mn, mx] at z1 z2
      omega
    rcases q with ⟨a, b⟩ | ⟨a, b⟩
    · unfold ch
      rw [a, b]
    · unfold ch
      rw [a, b]
      have m := List.mem_of_getElem? h2
      obtain ⟨c1, c2, c3⟩ := T.ch_bd m
      have dd := par_dep T (y := ch tr d) c1
      rw [c3] at dd
      rcases cp tr d with ⟨x, y⟩ | ⟨x, y⟩
      · rw [← x, ← y] at dd
        rw [if_pos dd, if_neg (by omega)]
      · rw [← x, ← y] at dd
        rw [if_neg (by omega), if_pos dd]
  have := T.ch_inj h1 h2 this
  omega
theorem row_nd (T : TreeL tr) (v : Nat) : (rowOf tr v).Nodup := row_nd0 T.nd2 T.ne v
theorem nb_nd (T : TreeL tr) (v : Nat) : (nb tr v).Nodup := (srt_perm _).nodup_iff.mpr (row_nd T v)
theorem flat_nd (T : TreeL tr) : ∀ {l : List Nat}, l.Nodup → (l.flatMap (kids tr)).Nodup
  | [], _ => List.nodup_nil
  | a :: l, h => by
    rw [List.nodup_cons] at h
    show (kids tr a ++ l.flatMap (kids tr)).Nodup
    rw [List.nodup_append]
    refine ⟨(nb_nd T a).filter _, flat_nd T h.2, ?_⟩
    rintro x hx y hy rfl
    obtain ⟨u, hu, hy⟩ := List.mem_flatMap.mp hy
    have h1 := ((mem_kids T).mp hx).2.1
    have h2 := ((mem_kids T).mp hy).2.1
    exact h.1 (by rw [← h1, h2]; exact hu)
theorem lay_nd (T : TreeL tr) : ∀ k, (lay tr k).Nodup
  | 0 => by
    show [0].Nodup
    simp
  | k + 1 => flat_nd T (lay_nd T k)
theorem lay_len (T : TreeL tr) (k : Nat) : (lay tr k).length ≤ tr.length + 1 := nd_len (lay_nd T k) fun x hx => ((mem_lay T).mp hx).1
/-- the ancestors of a station are different: no depth is more than the number of tracks -/
theorem dep_le (T : TreeL tr) {y : Nat} (hy : y ≤ tr.length) : dep tr y ≤ tr.length := by
  have : ∀ m y, y ≤ tr.length → dep tr y = m → ∃ l : List Nat, l.Nodup ∧ l.length = m + 1 ∧ ∀ x ∈ l, x ≤ tr.length ∧ dep tr x ≤ m := by
    intro m
    induction m with
    | zero =>
      intro y hy e
      exact ⟨[y], by simp, rfl, fun x hx => by rw [List.mem_singleton] at hx; rw [hx]; exact ⟨hy, by omega⟩⟩
    | succ m ih =>
      intro y hy e
      have h0 : 0 < y := by
        by_cases c : y = 0
        · rw [c, dep_zero] at e
          cases e
        · omega
      have d := dep_succ T h0
      obtain ⟨l, h1, h2, h3⟩ := ih (par tr y) (T.par_le y) (by omega)
      refine ⟨y :: l, List.nodup_cons.mpr ⟨fun m => ?_, h1⟩, by rw [List.length_cons, h2], fun x hx => ?_⟩
      · have := (h3 y m).2
        omega
      · rcases List.mem_cons.mp hx with rfl | hx
        · exact ⟨hy, by omega⟩
        · have := h3 x hx
          exact ⟨this.1, by omega⟩
  obtain ⟨l, h1, h2, h3⟩ := this _ y hy rfl
  have := nd_len h1 fun x hx => (h3 x hx).1
  omega
/-- a layer without stations: none deeper either -/
theorem lay_none (T : TreeL tr) {k : Nat} (h : lay tr k = []) (m v : Nat) (_ : v ≤ m) (hv : v ≤ tr.length) : dep tr v < k := by
  have key : ∀ d v, v ≤ tr.length → dep tr v = d → d < k := by
    intro d
    induction d with
    | zero =>
      intro v hv e
      by_cases c : k = 0
      · exfalso
        subst c
        cases h
      · omega
    | succ d ih =>
      intro v hv e
      have h0 : 0 < v := by
        by_cases c : v = 0
        · rw [c, dep_zero] at e
          cases e
        · omega
      have ds := dep_succ T h0
      have := ih (par tr v) (T.par_le v) (by omega)
      by_cases c2 : d + 1 = k
      · exfalso
        have : v ∈ lay tr k := (mem_lay T).mpr ⟨hv, by omega⟩
        rw [h] at this
        cases this
      · omega
  exact key _ v hv rfl
theorem lay_lt (T : TreeL tr) {k : Nat} (h : lay tr k ≠ []) : k ≤ tr.length := by
  obtain ⟨v, hv⟩ := List.exists_mem_of_ne_nil _ h
  obtain ⟨h1, h2⟩ := (mem_lay T).mp hv
  have := dep_le T h1
  omega
end
end TR

namespace TR
open PySem PySem.Spec PyProof.Rows L2 L2.TT
def vec (n : Nat) (f : Nat → Nat) : List V := (List.range n).map fun v => iv (f v)
theorem vec_len (n : Nat) (f : Nat → Nat) : (vec n f).length = n := by simp [vec]
theorem vec_get {n v : Nat} {f : Nat → Nat} (h : v < n) : (vec n f)[v]? = some (iv (f v)) := by
  unfold vec
  rw [List.getElem?_map, List.getElem?_range h]
  rfl
theorem vec_snoc (n : Nat) (f : Nat → Nat) : vec (n + 1) f = vec n f ++ [iv (f n)] := by
  unfold vec
  rw [List.range_succ, List.map_append]
  rfl
theorem vec_set {n j x : Nat} {f : Nat → Nat} : (vec n f).set j (iv x) = vec n (fun v => if v = j then x else f v) := by
  apply List.ext_getElem?
  intro i
  rw [List.getElem?_set]
  by_cases hi : i < n
  · rw [vec_get hi, vec_get hi, vec_len]
    by_cases c : j = i
    · subst c
      rw [if_pos rfl, if_pos hi, if_pos rfl]
    · rw [if_neg c, if_neg fun z => c z.symm]
  · have e1 : (vec n f)[i]? = none := by rw [List.getElem?_eq_none_iff, vec_len]; omega
    have e2 : (vec n (fun v => if v = j then x else f v))[i]? = none := by rw [List.getElem?_eq_none_iff, vec_len]; omega
    rw [e1, e2, vec_len]
    by_cases c : j = i
    · subst c
      rw [if_pos rfl, if_neg hi]
    · rw [if_neg c]
theorem vec_cong {n : Nat} {f g : Nat → Nat} (h : ∀ v, v < n → f v = g v) : vec n f = vec n g := by
  unfold vec
  refine List.map_congr_left fun v hv => ?_
  rw [h v (List.mem_range.mp hv)]
noncomputable def fA (tr : List E2) (k v : Nat) : Nat := if dep tr v ≤ k then p0 tr v else 0
noncomputable def gA (tr : List E2) (k v : Nat) : Nat := if dep tr v ≤ k then dep tr v else 0
noncomputable def fB (tr : List E2) (k : Nat) (bl : List Nat) (v : Nat) : Nat := if v ∈ bl then par tr v else fA tr k v
noncomputable def gB (tr : List E2) (k : Nat) (bl : List Nat) (v : Nat) : Nat := if v ∈ bl then dep tr v else gA tr k v
/-- the two lists under way -/
structure Two (H H' : Hp) (A L : Addr) (n : Nat) (f g : Nat → Nat) : Prop where
  same : Same H H'
  nA : H A = none
  nL : H L = none
  ne : A ≠ L
  hA : H' A = some (.lst (vec n f))
  hL : H' L = some (.lst (vec n g))
theorem Two.ext {H H' H2 : Hp} {A L : Addr} {n : Nat} {f g : Nat → Nat} (t : Two H H' A L n f g) (s : Same H' H2) : Two H H2 A L n f g := ⟨t.same.trans s, t.nA, t.nL, t.ne, s _ _ t.hA, s _ _ t.hL⟩
theorem Two.cong {H H' : Hp} {A L : Addr} {n : Nat} {f g f' g' : Nat → Nat} (t : Two H H' A L n f g) (e : ∀ v, v < n → f v = f' v) (e' : ∀ v, v < n → g v = g' v) : Two H H' A L n f' g' := ⟨t.same, t.nA, t.nL, t.ne, by rw [← vec_cong e]; exact t.hA, by rw [← vec_cong e']; exact t.hL⟩
def spPlaces (K : PySem.W.Frag) : Sp := fun vs H Q _ => ∃ (a : Addr) (ts : List Addr) (tr : List E2), vs = [.ref a] ∧ SqL K H a (ts.map V.ref) ∧ ts.length = tr.length + 1 ∧ (∀ (v : Nat) (t : Addr), ts[v]? = some t → H t = some (.tup ((nb tr v).map iv))) ∧ TreeL tr ∧ tr.length ≤ 999 ∧
  ∀ (t A L : Addr) (H' : Hp), Two H H' A L (tr.length + 1) (p0 tr) (dep tr) → H' t = some (.tup [.ref A, .ref L]) → Q (.ref t) H'
/-- the state of a layer's walk -/
structure St3 (H H' : Hp) (A L lr b : Addr) (tr : List E2) (k : Nat) (bl : List Nat) : Prop where
  two : Two H H' A L (tr.length + 1) (fB tr k bl) (gB tr k bl)
  hlr : H' lr = some (.lst ((lay tr k).map iv))
  hb : H' b = some (.lst (bl.map iv))
theorem flat_take (tr : List E2) (k i : Nat) : (((lay tr k).take i).flatMap (kids tr)).length ≤ (lay tr (k + 1)).length := by
  show _ ≤ ((lay tr k).flatMap (kids tr)).length
  rw [show (lay tr k).flatMap (kids tr) = ((lay tr k).take i).flatMap (kids tr) ++ ((lay tr k).drop i).flatMap (kids tr) by rw [← List.flatMap_append, List.take_append_drop], List.length_append]
  omega
theorem vec_zero (n : Nat) (f : Nat → Nat) : vec 0 f = [] := rfl
section
variable {P : Program} {w : World} {K : PySem.W.Frag} {mg : Str → Option Value} {base : Heap}
abbrev NPl : List Str := ["neighbours", "station", "above", "levels", "layer", "below", "near"]
theorem sc_pl : FnScope NPl ["neighbours"] (defScope s_places_below_first) := ⟨rfl, rfl, rfl, by decide +kernel, rfl, by decide +kernel, by decide +kernel⟩
theorem ok_places {f : Addr} {fd : FuncData} (F : Fun K "_places_below_first" "_places_below_first" s_places_below_first f fd) (N : Nm mg) : FnOk P w K mg base CX0 1 f fd ["neighbours"] (spPlaces K) := by
  refine F.ok sc_pl (fun vs H Q E h => ?_) (fun cdv A outer s H vs Q E hr h => ?_)
  · obtain ⟨a, ts, tr, rfl, _⟩ := h
    rfl
  · obtain ⟨a, ts, tr, rfl, hS, hts, hT, T, hl, k⟩ := h
    refine ⟨_, pss_cons (ps_setLc (i := 2) (own := [("station", 1)]) (g := gName 1) (tt := tYes) (by rfl) sc_pl.nd rfl rfl (sw_true rfl rfl rfl (by decide +kernel))
        (pi_list (pv 0)) (blkOk_by (N := NPl) (sc := defScope s_places_below_first) (by decide +kernel))
        (fun _ _ _ _ _ => pg_name (i := 1) sc_pl.nd rfl (Or.inl rfl)) (fun _ _ _ _ _ => pts_nil) (fun _ _ _ _ _ => pe_int))
      (pss_cons (ps_setLc (i := 3) (own := [("station", 1)]) (g := gName 1) (tt := tYes) (by rfl) sc_pl.nd rfl rfl (sw_true rfl rfl rfl (by decide +kernel))
        (pi_list (pv 0)) (blkOk_by (N := NPl) (sc := defScope s_places_below_first) (by decide +kernel))
        (fun _ _ _ _ _ => pg_name (i := 1) sc_pl.nd rfl (Or.inl rfl)) (fun _ _ _ _ _ => pts_nil) (fun _ _ _ _ _ => pe_int))
      (pss_cons (ps_set (i := 4) sc_pl.nd rfl (.inl rfl) (pe_lst (pa_cons pe_int pa_nil)))
      (pss_cons (ps_while PassesOwn.never (pt_truth (pv 4) (by intro _; rfl))
        (pss_cons (ps_set (i := 5) sc_pl.nd rfl (.inl rfl) (pe_lst pa_nil))
        (pss_cons (ps_for PassesOwn.never rfl (pi_list (pv 4)) (pg_name (i := 1) sc_pl.nd rfl (.inl rfl))
          (pss_one (ps_for PassesOwn.never rfl (pi_tup (pe_ix ix_list (pv 0) (pv 1) (fun _ _ => rfl))) (pg_name (i := 6) sc_pl.nd rfl (.inl rfl))
            (pss_one (ps_if (pt_cmpR op_ne (pv 6) (pe_ix ix_list (pv 2) (pv 1) (fun _ _ => rfl)) (nomark _))
              (pss_cons (ps_asg (pv 1) (pg_sub (pv 2) (pv 6) set_list))
              (pss_cons (ps_asg (pe_op op_add (pe_ix ix_list (pv 3) (pv 1) (fun _ _ => rfl)) pe_int) (pg_sub (pv 3) (pv 6) set_list))
              (pss_one (ps_expr (pe_bm PySem.F.plainAttrs_list PySem.F.slot_list_append PySem.F.type_list_append mt_append (pv 5) (pa_cons (pv 6) pa_nil)))))) pss_nil)))))
        (pss_one (ps_set (i := 4) sc_pl.nd rfl (.inl rfl) (pv 5))))))
      (pss_one (ps_ret (pe_tup (pa_cons (pv 2) (pa_cons (pv 3) pa_nil)))))))), ?_⟩
    have lts : (ts.map V.ref).length = tr.length + 1 := by rw [List.length_map, hts]
    refine ⟨_, rfl, a, rfl, ⟨_, hS⟩, fun Aa nA => ?_⟩
    refine lc_list (K := K) (a := a) (xs := ts.map V.ref) (fun i H' => H' = upd H Aa (.lst (vec i fun _ => 0))) rfl (fun i H' _ e => by rw [e]; exact (same_upd nA _).seq hS) (fun i v H' hv e => ?_) fun H1 e => ?_
    · subst e
      have hi := (List.getElem?_eq_some_iff.mp hv).1
      exact ⟨rfl, _, upd_same, by rw [vec_len, sizeLine_eq]; omega, by rw [upd_upd, vec_snoc]; rfl⟩
    have s1 : Same H H1 := e ▸ same_upd nA _
    have hA1 : H1 Aa = some (.lst (vec (tr.length + 1) fun _ => 0)) := by rw [e, lts]; exact upd_same
    clear e
    refine ⟨_, rfl, a, rfl, ⟨_, s1.seq hS⟩, fun L nL1 => ?_⟩
    refine lc_list (K := K) (a := a) (xs := ts.map V.ref) (fun i H' => H' = upd H1 L (.lst (vec i fun _ => 0))) rfl (fun i H' _ e => by rw [e]; exact (same_upd nL1 _).seq (s1.seq hS)) (fun i v H' hv e => ?_) fun H2 e => ?_
    · subst e
      have hi := (List.getElem?_eq_some_iff.mp hv).1
      exact ⟨rfl, _, upd_same, by rw [vec_len, sizeLine_eq]; omega, by rw [upd_upd, vec_snoc]; rfl⟩
    have s2 : Same H1 H2 := e ▸ same_upd nL1 _
    have hL2 : H2 L = some (.lst (vec (tr.length + 1) fun _ => 0)) := by rw [e, lts]; exact upd_same
    clear e
    have nAL : Aa ≠ L := fun z => by rw [← z, hA1] at nL1; cases nL1
    have tw0 : Two H H2 Aa L (tr.length + 1) (fun _ => 0) (fun _ => 0) := ⟨s1.trans s2, nA, s1.free nL1, nAL, s2 _ _ hA1, hL2⟩
    clear s1 s2 hA1 hL2 nL1
    refine ⟨by show 1 ≤ sizeLine; rw [sizeLine_eq]; decide, fun lr nlr => ?_⟩
    have l0A : lr ≠ Aa := fun z => by rw [z, tw0.hA] at nlr; cases nlr
    have l0L : lr ≠ L := fun z => by rw [z, tw0.hL] at nlr; cases nlr
    have tw1 := tw0.ext (same_upd nlr (.lst [V.int 0]))
    have hlr1 := upd_same (H := H2) (a := lr) (o := .lst [V.int 0])
    have nlrH := tw0.same.free nlr
    generalize upd H2 lr (.lst [V.int 0]) = H3 at tw1 hlr1
    clear tw0 nlr H1 H2
    have tw2 : Two H H3 Aa L (tr.length + 1) (fA tr 0) (gA tr 0) := tw1.cong (fun v hv => by
        show 0 = if dep tr v ≤ 0 then p0 tr v else 0
        by_cases c : v = 0
        · subst c
          rw [if_pos (by rw [dep_zero]; exact Nat.le_refl _)]
          unfold p0
          rw [if_pos rfl]
        · rw [if_neg (by rw [dep_succ T (by omega)]; omega)]) (fun v hv => by
        show 0 = if dep tr v ≤ 0 then dep tr v else 0
        split <;> omega)
    refine ⟨fun m σ H' => ∃ (k : Nat) (lr : Addr) (x1 x5 x6 : Option V), m = tr.length + 1 - k ∧ k ≤ tr.length + 1 ∧ σ = [some (.ref a), x1, some (.ref Aa), some (.ref L), some (.ref lr), x5, x6] ∧ Two H H' Aa L (tr.length + 1) (fA tr k) (gA tr k) ∧ H' lr = some (.lst ((lay tr k).map iv)) ∧ lr ≠ Aa ∧ lr ≠ L ∧ H lr = none,
      ⟨tr.length + 1, 0, lr, none, none, none, rfl, Nat.zero_le _, rfl, tw2, hlr1, l0A, l0L, nlrH⟩, ?_⟩
    clear tw1 tw2 hlr1 l0A l0L nlrH lr H3
    rintro m σ H1 ⟨kk, lr, x1, x5, x6, rfl, hk, rfl, tw, hlr, lA, lL, nlr⟩
    refine ⟨_, rfl, _, .inl ⟨_, SqL.of hlr, rfl⟩, ?_⟩
    refine ite2 (fun hc => ?_) (fun hc => ?_)
    · have hne : lay tr kk ≠ [] := fun z => by rw [z] at hc; cases hc
      have hkl := lay_lt T hne
      refine ⟨fun σ' H' => ∃ (lr : Addr) (x1 x5 x6 : Option V), σ' = [some (.ref a), x1, some (.ref Aa), some (.ref L), some (.ref lr), x5, x6] ∧ Two H H' Aa L (tr.length + 1) (fA tr (kk + 1)) (gA tr (kk + 1)) ∧ H' lr = some (.lst ((lay tr (kk + 1)).map iv)) ∧ lr ≠ Aa ∧ lr ≠ L ∧ H lr = none,
        fun σ' H' ⟨lr, x1, x5, x6, e, t, h1, h2, h3, h4⟩ => ⟨tr.length + 1 - (kk + 1), by omega, kk + 1, lr, x1, x5, x6, rfl, by omega, e, t, h1, h2, h3, h4⟩, ?_⟩
      refine ⟨by show 0 ≤ sizeLine; exact Nat.zero_le _, fun b nb1 => ?_⟩
      have bA : b ≠ Aa := fun z => by rw [z, tw.hA] at nb1; cases nb1
      have bL : b ≠ L := fun z => by rw [z, tw.hL] at nb1; cases nb1
      have bl : b ≠ lr := fun z => by rw [z, hlr] at nb1; cases nb1
      have nbH := tw.same.free nb1
      have tw1 := tw.ext (same_upd nb1 (.lst []))
      have hb1 := upd_same (H := H1) (a := b) (o := .lst [])
      have hlr1 := same_upd nb1 (.lst []) _ _ hlr
      generalize upd H1 b (.lst []) = H2 at tw1 hb1 hlr1
      clear tw hlr nb1 H1
      have S0 : St3 H H2 Aa L lr b tr kk [] := ⟨tw1.cong (fun v _ => by simp [fB]) (fun v _ => by simp [gB]), hlr1, hb1⟩
      clear tw1 hb1 hlr1
      refine ⟨_, rfl, lr, rfl, ⟨_, SqL.of S0.hlr⟩, for_list (K := K) (a := lr) (xs := (lay tr kk).map iv) (fun i σ H' => ∃ (x1 x6 : Option V), σ = [some (.ref a), x1, some (.ref Aa), some (.ref L), some (.ref lr), some (.ref b), x6] ∧ St3 H H' Aa L lr b tr kk (((lay tr kk).take i).flatMap (kids tr)))
        ⟨_, _, rfl, S0⟩ (fun i σ H' _ ⟨_, _, _, S⟩ => SqL.of S.hlr) ?_ ?_⟩
      · rintro i v σ H' hv ⟨x1, x6, rfl, S⟩
        obtain ⟨st, hst, rfl⟩ := map_got hv
        obtain ⟨hst1, hst2⟩ := (mem_lay T).mp (List.mem_of_getElem? hst)
        obtain ⟨t, ht⟩ : ∃ t, ts[st]? = some t := ⟨_, List.getElem?_eq_getElem (by omega)⟩
        have hHt := hT st t ht
        have blk : ∀ w ∈ ((lay tr kk).take i).flatMap (kids tr), dep tr w = kk + 1 := fun w hw => by
          obtain ⟨u, hu, hw⟩ := List.mem_flatMap.mp hw
          obtain ⟨w1, w2, w3⟩ := (mem_kids T).mp hw
          rw [dep_succ T w1, w2, ((mem_lay T).mp (List.mem_of_mem_take hu)).2]
        have bll := flat_take tr kk i
        have bl2 := lay_len T (kk + 1)
        generalize hbl : ((lay tr kk).take i).flatMap (kids tr) = B at S blk bll
        refine ⟨_, rfl, _, rfl, a, _, _, _, rfl, rfl, S.two.same.seq hS, atN (map_get ht), t, rfl, ⟨_, SqT.of (S.two.same _ _ hHt)⟩, for_tup (K := K) (a := t) (xs := (nb tr st).map iv) (fun j σ H' => ∃ (x6 : Option V), σ = [some (.ref a), some (iv st), some (.ref Aa), some (.ref L), some (.ref lr), some (.ref b), x6] ∧ St3 H H' Aa L lr b tr kk (B ++ ((nb tr st).take j).filter fun w => decide (w ≠ p0 tr st)))
          ⟨_, rfl, by simpa using S⟩ (fun j σ H' _ ⟨_, _, S⟩ => SqT.of (S.two.same _ _ hHt)) ?_ ?_⟩
        · rintro j v σ H' hv ⟨x6, rfl, S⟩
          obtain ⟨nw, hw, rfl⟩ := map_got hv
          have hnb : ((nb tr st).take (j + 1)).filter (fun w => decide (w ≠ p0 tr st)) = ((nb tr st).take j).filter (fun w => decide (w ≠ p0 tr st)) ++ [nw].filter (fun w => decide (w ≠ p0 tr st)) := by
            rw [take_snoc hw, List.filter_append]
          have blk2 : ∀ w ∈ B ++ ((nb tr st).take j).filter (fun w => decide (w ≠ p0 tr st)), dep tr w = kk + 1 := fun w hw => by
            rcases List.mem_append.mp hw with hw | hw
            · exact blk w hw
            · have hw2 : w ∈ kids tr st := by
                have := List.mem_filter.mp hw
                exact List.mem_filter.mpr ⟨List.mem_of_mem_take this.1, this.2⟩
              obtain ⟨w1, w2, w3⟩ := (mem_kids T).mp hw2
              rw [dep_succ T w1, w2, hst2]
          have len2 : ((B ++ ((nb tr st).take j).filter (fun w => decide (w ≠ p0 tr st))).map iv).length < sizeLine := by
            rw [List.length_map, List.length_append, sizeLine_eq]
            have h1 := List.length_filter_le (fun w => decide (w ≠ p0 tr st)) ((nb tr st).take j)
            rw [List.length_take] at h1
            have h2 := nb_len tr st
            omega
          generalize hB2 : B ++ ((nb tr st).take j).filter (fun w => decide (w ≠ p0 tr st)) = B2 at S blk2 len2
          have stB : st ∉ B2 := fun z => by have := blk2 st z; omega
          have fst : fB tr kk B2 st = p0 tr st := by
            unfold fB fA
            rw [if_neg stB, if_pos (by omega)]
          have gst : gB tr kk B2 st = kk := by
            unfold gB gA
            rw [if_neg stB, if_pos (by omega), hst2]
          have hA := S.two.hA
          refine ⟨_, rfl, _, rfl, _, rfl, Aa, _, _, _, rfl, rfl, SqL.of hA, atN (vec_get (by omega)), rfl, _, rfl, ?_⟩
          rw [fst]
          refine ite2 (fun hd => ?_) (fun hd => ?_)
          · have hne : nw ≠ p0 tr st := fun z => by rw [z] at hd; simp at hd
            have hkid : nw ∈ kids tr st := List.mem_filter.mpr ⟨List.mem_of_getElem? hw, decide_eq_true hne⟩
            obtain ⟨w1, w2, w3⟩ := (mem_kids T).mp hkid
            have dw : dep tr nw = kk + 1 := by rw [dep_succ T w1, w2, hst2]
            refine ⟨_, rfl, _, rfl, _, rfl, Aa, _, _, nw, rfl, rfl, hA, by rw [vec_len]; exact ixN_lt (by omega), ?_⟩
            rw [vec_set]
            have hL := S.two.hL
            have hb := S.hb
            have hlr := S.hlr
            have sm := same_old S.two.same S.two.nA (.lst (vec (tr.length + 1) fun v => if v = nw then st else fB tr kk B2 v))
            have hL' : upd H' Aa (.lst (vec (tr.length + 1) fun v => if v = nw then st else fB tr kk B2 v)) L = some (.lst (vec (tr.length + 1) (gB tr kk B2))) := by rw [upd_ne nAL.symm]; exact hL
            have hb' : upd H' Aa (.lst (vec (tr.length + 1) fun v => if v = nw then st else fB tr kk B2 v)) b = some (.lst (B2.map iv)) := by rw [upd_ne bA]; exact hb
            have hlr' : upd H' Aa (.lst (vec (tr.length + 1) fun v => if v = nw then st else fB tr kk B2 v)) lr = some (.lst ((lay tr kk).map iv)) := by rw [upd_ne lA]; exact hlr
            have hA' := upd_same (H := H') (a := Aa) (o := .lst (vec (tr.length + 1) fun v => if v = nw then st else fB tr kk B2 v))
            generalize upd H' Aa (.lst (vec (tr.length + 1) fun v => if v = nw then st else fB tr kk B2 v)) = H4 at sm hL' hb' hlr' hA'
            refine ⟨_, rfl, _, rfl, L, _, _, _, rfl, rfl, SqL.of hL', atN (vec_get (by omega)), _, _, rfl, rfl, _, rfl, _, rfl, L, _, _, nw, rfl, rfl, hL', by rw [vec_len]; exact ixN_lt (by omega), ?_⟩
            have ev : V.int (((gB tr kk B2 st : Nat) : Int) + 1) = iv (dep tr nw) := by
              rw [gst, dw]
              rfl
            generalize hz : (fun i j : Int => V.int (i + j)) ((gB tr kk B2 st : Nat) : Int) 1 = z
            have hz2 : z = iv (dep tr nw) := by rw [← hz]; exact ev
            subst hz2
            rw [vec_set]
            have sm2 := same_old sm S.two.nL (.lst (vec (tr.length + 1) fun v => if v = nw then dep tr nw else gB tr kk B2 v))
            have hA2 : upd H4 L (.lst (vec (tr.length + 1) fun v => if v = nw then dep tr nw else gB tr kk B2 v)) Aa = some (.lst (vec (tr.length + 1) fun v => if v = nw then st else fB tr kk B2 v)) := by rw [upd_ne nAL]; exact hA'
            have hb2 : upd H4 L (.lst (vec (tr.length + 1) fun v => if v = nw then dep tr nw else gB tr kk B2 v)) b = some (.lst (B2.map iv)) := by rw [upd_ne bL]; exact hb'
            have hlr2 : upd H4 L (.lst (vec (tr.length + 1) fun v => if v = nw then dep tr nw else gB tr kk B2 v)) lr = some (.lst ((lay tr kk).map iv)) := by rw [upd_ne lL]; exact hlr'
            have hL2 := upd_same (H := H4) (a := L) (o := .lst (vec (tr.length + 1) fun v => if v = nw then dep tr nw else gB tr kk B2 v))
            generalize upd H4 L (.lst (vec (tr.length + 1) fun v => if v = nw then dep tr nw else gB tr kk B2 v)) = H5 at sm2 hA2 hb2 hlr2 hL2
            refine ⟨_, rfl, .inl ⟨rfl, _, SqL.of hb2⟩, _, rfl, _, _, _, rfl, rfl, hb2, len2, ?_⟩
            have eB : B ++ ((nb tr st).take (j + 1)).filter (fun w => decide (w ≠ p0 tr st)) = B2 ++ [nw] := by
              rw [hnb, ← List.append_assoc, hB2]
              simp [hne]
            refine ⟨_, rfl, ?_⟩
            rw [eB]
            have cf : ∀ v, v < tr.length + 1 → (if v = nw then st else fB tr kk B2 v) = fB tr kk (B2 ++ [nw]) v := fun v _ => by
              unfold fB
              by_cases c : v = nw
              · subst c
                rw [if_pos rfl, if_pos (by simp), w2]
              · rw [if_neg c]
                by_cases c2 : v ∈ B2
                · rw [if_pos c2, if_pos (by simp [c2])]
                · rw [if_neg c2, if_neg (by simp [c, c2])]
            have cg : ∀ v, v < tr.length + 1 → (if v = nw then dep tr nw else gB tr kk B2 v) = gB tr kk (B2 ++ [nw]) v := fun v _ => by
              unfold gB
              by_cases c : v = nw
              · subst c
                rw [if_pos rfl, if_pos (by simp)]
              · rw [if_neg c]
                by_cases c2 : v ∈ B2
                · rw [if_pos c2, if_pos (by simp [c2])]
                · rw [if_neg c2, if_neg (by simp [c, c2])]
            refine ⟨⟨same_old sm2 nbH _, nA, S.two.nL, nAL, by rw [upd_ne bA.symm, ← vec_cong cf]; exact hA2, by rw [upd_ne bL.symm, ← vec_cong cg]; exact hL2⟩, by rw [upd_ne bl.symm]; exact hlr2, by rw [upd_same, List.map_append]; rfl⟩
          · have he : nw = p0 tr st := by
              by_cases c : nw = p0 tr st
              · exact c
              · exfalso
                apply hd
                have : ¬ (iv nw = iv (p0 tr st)) := fun z => c (iv_inj.mp z)
                simp [this]
            have eB : B ++ ((nb tr st).take (j + 1)).filter (fun w => decide (w ≠ p0 tr st)) = B2 := by
              rw [hnb, ← List.append_assoc, hB2]
              simp [he]
            refine ⟨_, rfl, ?_⟩
            rw [eB]
            exact S
        · rintro σ H' ⟨x6, rfl, S⟩
          refine ⟨_, _, rfl, ?_⟩
          rw [take_snoc hst, List.flatMap_append, hbl]
          have e1 : (nb tr st).take ((nb tr st).map iv).length = nb tr st := List.take_of_length_le (by rw [List.length_map]; exact Nat.le_refl _)
          rw [e1] at S
          have e2 : [st].flatMap (kids tr) = kids tr st := by simp
          rw [e2]
          exact S
      · rintro σ H' ⟨x1, x6, rfl, S⟩
        have e1 : (lay tr kk).take ((lay tr kk).map iv).length = lay tr kk := List.take_of_length_le (by rw [List.length_map]; exact Nat.le_refl _)
        rw [e1] at S
        have S : St3 H H' Aa L lr b tr kk (lay tr (kk + 1)) := S
        refine ⟨_, rfl, b, _, _, _, rfl, S.two.cong (fun v hv => ?_) (fun v hv => ?_), S.hb, bA, bL, nbH⟩
        · unfold fB fA
          by_cases c : v ∈ lay tr (kk + 1)
          · obtain ⟨c1, c2⟩ := (mem_lay T).mp c
            rw [if_pos c, if_pos (by omega)]
            unfold p0
            rw [if_neg]
            rintro rfl
            rw [dep_zero] at c2
            cases c2
          · rw [if_neg c]
            have c2 : dep tr v ≠ kk + 1 := fun z => c ((mem_lay T).mpr ⟨by omega, z⟩)
            by_cases c3 : dep tr v ≤ kk
            · rw [if_pos c3, if_pos (by omega)]
            · rw [if_neg c3, if_neg (by omega)]
        · unfold gB gA
          by_cases c : v ∈ lay tr (kk + 1)
          · obtain ⟨c1, c2⟩ := (mem_lay T).mp c
            rw [if_pos c, if_pos (by omega)]
          · rw [if_neg c]
            have c2 : dep tr v ≠ kk + 1 := fun z => c ((mem_lay T).mpr ⟨by omega, z⟩)
            by_cases c3 : dep tr v ≤ kk
            · rw [if_pos c3, if_pos (by omega)]
            · rw [if_neg c3, if_neg (by omega)]
    · have he : lay tr kk = [] := by
        cases e : lay tr kk with
        | nil => rfl
        | cons x r =>
          exfalso
          apply hc
          rw [e]
          rfl
      have hd := fun v (hv : v < tr.length + 1) => lay_none T he v v (Nat.le_refl _) (by omega)
      refine ⟨_, rfl, _, rfl, by show 2 ≤ sizeLine; rw [sizeLine_eq]; decide, fun t nt => ?_⟩
      refine k t Aa L _ ((tw.ext (same_upd nt _)).cong (fun v hv => ?_) (fun v hv => ?_)) upd_same
      · have := hd v hv
        unfold fA
        rw [if_pos (by omega)]
      · have := hd v hv
        unfold gA
        rw [if_pos (by omega)]
end
end TR

namespace TR
/-- tr2: the same tracks, each with the smaller end first, in some order -/
structure Norm (tr tr2 : List E2) : Prop where
  pm : tr2.Perm (tr.map fun e => (mn e, mx e))
theorem mx_norm (e : E2) : mx (mn e, mx e) = mx e := by
  unfold mx mn
  simp only
  omega
namespace Norm
variable {tr tr2 : List E2}
theorem len (n : Norm tr tr2) : tr2.length = tr.length := by rw [n.pm.length_eq, List.length_map]
theorem adj (n : Norm tr tr2) {a b : Nat} : Adj tr2 a b ↔ Adj tr a b := by
  have key : ∀ {x y : Nat}, (x, y) ∈ tr2 → Adj tr x y := fun {x y} h => by
    have h2 := n.pm.mem_iff.mp h
    obtain ⟨e, he, q⟩ := List.mem_map.mp h2
    have q1 : mn e = x := congrArg Prod.fst q
    have q2 : mx e = y := congrArg Prod.snd q
    rcases ends e with ⟨e1, e2⟩ | ⟨e1, e2⟩
    · exact .inr (by rw [← q1, ← q2, ← e1, ← e2]; exact he)
    · exact .inl (by rw [← q1, ← q2, ← e1, ← e2]; exact he)
  have back : ∀ {x y : Nat}, (x, y) ∈ tr → Adj tr2 x y := fun {x y} h => by
    have h2 : (mn (x, y), mx (x, y)) ∈ tr2 := n.pm.mem_iff.mpr (List.mem_map.mpr ⟨_, h, rfl⟩)
    rcases ends (x, y) with ⟨e1, e2⟩ | ⟨e1, e2⟩
    · have e1 : x = mx (x, y) := e1
      have e2 : y = mn (x, y) := e2
      exact .inr (by rw [← e1, ← e2] at h2; exact h2)
    · have e1 : x = mn (x, y) := e1
      have e2 : y = mx (x, y) := e2
      exact .inl (by rw [← e1, ← e2] at h2; exact h2)
  constructor
  · rintro (h | h)
    · exact key h
    · exact (key h).symm
  · rintro (h | h)
    · exact back h
    · exact (back h).symm
theorem wn (n : Norm tr tr2) : ∀ {k v : Nat}, WN tr k v → WN tr2 k v
  | 0, _, h => h
  | _ + 1, _, ⟨u, h, a⟩ => ⟨u, n.wn h, n.adj.mpr a⟩
theorem tree (n : Norm tr tr2) (T : TreeL tr) : TreeL tr2 := by
  have key : ∀ e ∈ tr2, ∃ d ∈ tr, e = (mn d, mx d) := fun e he => by
    obtain ⟨d, hd, q⟩ := List.mem_map.mp (n.pm.mem_iff.mp he)
    exact ⟨d, hd, q.symm⟩
  refine ⟨fun e he => ?_, fun e he => ?_, fun v hv => ?_⟩
  · obtain ⟨d, hd, rfl⟩ := key e he
    have := mn_lt (T.ne d hd)
    show mn d ≠ mx d
    omega
  · obtain ⟨d, hd, rfl⟩ := key e he
    have := T.le d hd
    rw [n.len]
    show mn d ≤ _ ∧ mx d ≤ _
    unfold mn mx
    omega
  · rw [n.len] at hv
    obtain ⟨k, h⟩ := T.co v hv
    exact ⟨k, n.wn h⟩
end Norm
theorem idxOf_get {l : List Nat} (nd : l.Nodup) {i p : Nat} (h : l[i]? = some p) : l.idxOf p = i := by
  have hm := List.mem_of_getElem? h
  have hl := List.idxOf_lt_length_of_mem hm
  have h2 : l[l.idxOf p]? = some p := by
    rw [List.getElem?_eq_getElem hl]
    exact congrArg some (List.getElem_idxOf hl)
  exact (List.getElem?_inj hl nd).mp (h2.trans h.symm)
end TR

namespace TR
section
variable {tr : List E2}
/-- a walk along tracks -/
def Wk (tr : List E2) : List Nat → Prop
  | a :: b :: r => Adj tr a b ∧ Wk tr (b :: r)
  | _ => True
theorem Wk.tail {a : Nat} {l : List Nat} (h : Wk tr (a :: l)) : Wk tr l := by
  cases l with
  | nil => exact trivial
  | cons b r => exact h.2
theorem Wk.snoc : ∀ {l : List Nat} {x y : Nat}, Wk tr (l ++ [x]) → Adj tr x y → Wk tr (l ++ [x] ++ [y])
  | [], x, y, _, h => ⟨h, trivial⟩
  | [a], x, y, h, k => ⟨h.1, k, trivial⟩
  | a :: b :: r, x, y, h, k => ⟨h.1, Wk.snoc (l := b :: r) h.2 k⟩
theorem Wk.glue : ∀ {l r : List Nat} {x : Nat}, Wk tr (l ++ [x]) → Wk tr (x :: r) → Wk tr (l ++ x :: r)
  | [], r, x, _, h => h
  | [a], r, x, h, k => ⟨h.1, k⟩
  | a :: b :: l, r, x, h, k => ⟨h.1, Wk.glue (l := b :: l) h.2 k⟩
theorem Wk.rev : ∀ {l : List Nat}, Wk tr l → Wk tr l.reverse
  | [], _ => trivial
  | [a], _ => trivial
  | a :: b :: r, h => by
    have ih := Wk.rev (l := b :: r) h.2
    rw [List.reverse_cons, List.reverse_cons]
    rw [List.reverse_cons] at ih
    exact Wk.snoc ih h.1.sym
structure SW (tr : List E2) (a b : Nat) (l : List Nat) : Prop where
  wk : Wk tr l
  nd : l.Nodup
  hd : l.head? = some a
  lt : l.getLast? = some b
theorem SW.one (a : Nat) : SW tr a a [a] := ⟨trivial, by simp, rfl, rfl⟩
theorem SW.mem {a b : Nat} {l : List Nat} (s : SW tr a b l) : b ∈ l := List.mem_of_getLast? s.lt
theorem SW.snoc {a b c : Nat} {l : List Nat} (s : SW tr a b l) (h : Adj tr b c) (hn : c ∉ l) : SW tr a c (l ++ [c]) := by
  obtain ⟨wk, nd, hd, lt⟩ := s
  have hne : l ≠ [] := by rintro rfl; cases hd
  obtain ⟨l', e⟩ : ∃ l', l = l' ++ [b] := by
    rw [List.getLast?_eq_some_iff] at lt
    exact lt
  refine ⟨?_, ?_, ?_, by simp⟩
  · rw [e] at wk ⊢
    exact wk.snoc h
  · rw [List.nodup_append]
    refine ⟨nd, by simp, fun x hx y hy => ?_⟩
    rw [List.mem_singleton] at hy
    rintro rfl
    exact hn (hy ▸ hx)
  · rw [List.head?_append, hd]
    rfl
theorem desc_lin {p : Nat → Nat} {x y b : Nat} (h : Desc p x b) (k : Desc p y b) : Desc p x y ∨ Desc p y x := by
  induction h with
  | self => exact .inr k
  | @up b hb d ih =>
    cases k with
    | self => exact .inl (.up hb d)
    | up _ k => exact ih k
theorem desc_tr {p : Nat → Nat} {a x b : Nat} (hx : 0 < x) (e : p x = a) (h : Desc p x b) : Desc p a b := by
  induction h with
  | self => exact .up hx (e ▸ .self)
  | up hb _ ih => exact .up hb ih
theorem sib (T : TreeL tr) {x y b : Nat} (hx : 0 < x) (hy : 0 < y) (e : par tr x = par tr y) (h : Desc (par tr) x b) (k : Desc (par tr) y b) : x = y := by
  have key : ∀ {x y : Nat}, 0 < x → 0 < y → par tr x = par tr y → Desc (par tr) x y → x = y := fun {x y} hx hy e d => by
    by_cases c : y = x
    · exact c.symm
    · have d2 := (Desc.step hy c).mp d
      rw [← e] at d2
      have := Desc.dep T d2
      have := par_dep T hx
      omega
  rcases desc_lin h k with d | d
  · exact key hx hy e d
  · exact (key hy hx e.symm d).symm
theorem walk_out (T : TreeL tr) {a : Nat} : ∀ {l : List Nat} {x : Nat}, Wk tr (x :: l) → a ∉ x :: l → ¬ Desc (par tr) a x → ∀ z ∈ x :: l, ¬ Desc (par tr) a z
  | [], x, _, _, h, z, hz => by
    rw [List.mem_singleton] at hz
    rw [hz]
    exact h
  | y :: l, x, w, na, h, z, hz => by
    rcases List.mem_cons.mp hz with rfl | hz
    · exact h
    · refine walk_out T (x := y) w.2 (fun m => na (List.mem_cons_of_mem _ m)) ?_ z hz
      have nya : y ≠ a := fun e => na (by simp [e])
      intro d
      rcases adj_par T w.1 with ⟨h1, h2, _⟩ | ⟨h1, h2, _⟩
      · exact h (.up h1 (h2 ▸ d))
      · exact h (h2 ▸ (Desc.step h1 nya).mp d)
theorem walk_in (T : TreeL tr) {c : Nat} : ∀ {l : List Nat} {x : Nat}, Wk tr (x :: l) → par tr c ∉ x :: l → Desc (par tr) c x → ∀ z ∈ x :: l, Desc (par tr) c z
  | [], x, _, _, h, z, hz => by
    rw [List.mem_singleton] at hz
    rw [hz]
    exact h
  | y :: l, x, w, na, h, z, hz => by
    rcases List.mem_cons.mp hz with rfl | hz
    · exact h
    · refine walk_in T (x := y) w.2 (fun m => na (List.mem_cons_of_mem _ m)) ?_ z hz
      rcases adj_par T w.1 with ⟨h1, h2, _⟩ | ⟨h1, h2, _⟩
      · by_cases e : x = c
        · exfalso
          apply na
          rw [← e, ← h2]
          simp
        · rw [h2]
          exact (Desc.step h1 e).mp h
      · exact .up h1 (h2 ▸ h)
/-- between two stations there is one walk without repetition -/
theorem SW.uniq (T : TreeL tr) {b : Nat} : ∀ {l l' : List Nat} {a : Nat}, SW tr a b l → SW tr a b l' → l = l'
  | [], _, _, s, _ => by cases s.hd
  | _, [], _, _, s => by cases s.hd
  | a0 :: t, a1 :: t', a, s, s' => by
    have e0 : a0 = a := Option.some.inj s.hd
    have e1 : a1 = a := Option.some.inj s'.hd
    subst e0 e1
    have one : ∀ {t : List Nat}, SW tr a1 b (a1 :: t) → a1 = b → t = [] := fun {t} s e => by
      cases t with
      | nil => rfl
      | cons x r =>
        exfalso
        have hb : b ∈ x :: r := by
          have := s.lt
          rw [List.getLast?_cons_cons] at this
          exact List.mem_of_getLast? this
        rw [← e] at hb
        exact (List.nodup_cons.mp s.nd).1 hb
    by_cases c : a1 = b
    · rw [one s c, one s' c]
    · cases t with
      | nil => exact absurd (Option.some.inj s.lt) c
      | cons x r =>
        cases t' with
        | nil => exact absurd (Option.some.inj s'.lt) c
        | cons x' r' =>
          have sub : ∀ {x : Nat} {r : List Nat}, SW tr a1 b (a1 :: x :: r) → SW tr x b (x :: r) ∧ a1 ∉ x :: r ∧ Adj tr a1 x := fun {x r} s =>
            ⟨⟨s.wk.2, (List.nodup_cons.mp s.nd).2, rfl, by have := s.lt; rw [List.getLast?_cons_cons] at this; exact this⟩, (List.nodup_cons.mp s.nd).1, s.wk.1⟩
          obtain ⟨s1, n1, j1⟩ := sub s
          obtain ⟨s2, n2, j2⟩ := sub s'
          have out : ∀ {x : Nat} {r : List Nat}, SW tr x b (x :: r) → a1 ∉ x :: r → 0 < a1 → x = par tr a1 → ¬ Desc (par tr) a1 b := fun {x r} s n h e => by
            refine walk_out T s.wk n ?_ b s.mem
            intro d
            rw [e] at d
            have := Desc.dep T d
            have := par_dep T h
            omega
          have inn : ∀ {x : Nat} {r : List Nat}, SW tr x b (x :: r) → a1 ∉ x :: r → a1 = par tr x → Desc (par tr) x b := fun {x r} s n e => walk_in T s.wk (e ▸ n) .self b s.mem
          have exx : x = x' := by
            rcases adj_par T j1 with ⟨h1, h2, _⟩ | ⟨h1, h2, _⟩
            · rcases adj_par T j2 with ⟨k1, k2, _⟩ | ⟨k1, k2, _⟩
              · rw [h2, k2]
              · exact absurd (desc_tr k1 k2.symm (inn s2 n2 k2)) (out s1 n1 h1 h2)
            · rcases adj_par T j2 with ⟨k1, k2, _⟩ | ⟨k1, k2, _⟩
              · exact absurd (desc_tr h1 h2.symm (inn s1 n1 h2)) (out s2 n2 k1 k2)
              · exact sib T h1 k1 (h2.symm.trans k2) (inn s1 n1 h2) (inn s2 n2 k2)
          subst exx
          rw [SW.uniq T s1 s2]
end
end TR

namespace TR
section
variable {tr : List E2}
/-- two ways up, from a and from b, at x and y -/
structure Clb (tr : List E2) (a b x y : Nat) (F B : List Nat) : Prop where
  wf : Wk tr (F ++ [x])
  wb : Wk tr (B ++ [y])
  hf : (F ++ [x]).head? = some a
  hb : (B ++ [y]).head? = some b
  nf : (F ++ [x]).Nodup
  nb : (B ++ [y]).Nodup
  k1 : ∀ z ∈ F, z ∉ B ++ [y]
  k2 : ∀ w ∈ B, w ∉ F ++ [x]
  k3 : ∀ w ∈ B, dep tr x ≤ dep tr w
  k4 : ∀ z ∈ F, dep tr y < dep tr z
  fx : ∀ z ∈ F, dep tr x < dep tr z
  by_ : ∀ w ∈ B, dep tr y < dep tr w
  lx : x ≤ tr.length
  ly : y ≤ tr.length
  lf : ∀ z ∈ F, z ≤ tr.length
  lb : ∀ z ∈ B, z ≤ tr.length
theorem Clb.start {a b : Nat} (ha : a ≤ tr.length) (hb : b ≤ tr.length) : Clb tr a b a b [] [] :=
  ⟨trivial, trivial, rfl, rfl, by simp, by simp, (fun _ h => nomatch h), (fun _ h => nomatch h), (fun _ h => nomatch h), (fun _ h => nomatch h), (fun _ h => nomatch h), (fun _ h => nomatch h), ha, hb, (fun _ h => nomatch h), (fun _ h => nomatch h)⟩
theorem head_app {l : List Nat} {x y a : Nat} (h : (l ++ [x]).head? = some a) : (l ++ [x] ++ [y]).head? = some a := by
  rw [List.head?_append, h]
  rfl
theorem nd_snoc {l : List Nat} {x : Nat} (h : l.Nodup) (hx : x ∉ l) : (l ++ [x]).Nodup := by
  rw [List.nodup_append]
  refine ⟨h, by simp, fun u hu v hv => ?_⟩
  rw [List.mem_singleton] at hv
  rintro rfl
  exact hx (hv ▸ hu)
theorem mem_snoc {l : List Nat} {x z : Nat} : z ∈ l ++ [x] ↔ z ∈ l ∨ z = x := by simp
theorem Clb.up1 (T : TreeL tr) {a b x y : Nat} {F B : List Nat} (c : Clb tr a b x y F B) (ne : x ≠ y) (h : dep tr y < dep tr x) : 0 < x ∧ dep tr (par tr x) < dep tr x ∧ Clb tr a b (par tr x) y (F ++ [x]) B := by
  have hx : 0 < x := by
    by_cases z : x = 0
    · rw [z, dep_zero] at h
      omega
    · omega
  have ds := dep_succ T hx
  refine ⟨hx, by omega, c.wf.snoc (par_adj T hx c.lx), c.wb, head_app c.hf, c.hb, nd_snoc c.nf ?_, c.nb, ?_, ?_, ?_, ?_, ?_, c.by_, T.par_le x, c.ly, ?_, c.lb⟩
  · intro m
    rcases mem_snoc.mp m with m | m
    · have := c.fx _ m
      omega
    · rw [m] at ds
      omega
  · intro z hz
    rcases mem_snoc.mp hz with hz | rfl
    · exact c.k1 z hz
    · intro m
      rcases mem_snoc.mp m with m | m
      · exact c.k2 z m (by simp)
      · exact ne m
  · intro w hw m
    rcases mem_snoc.mp m with m | m
    · exact c.k2 w hw m
    · have := c.k3 w hw
      rw [m] at this
      omega
  · intro w hw
    have := c.k3 w hw
    omega
  · intro z hz
    rcases mem_snoc.mp hz with hz | rfl
    · exact c.k4 z hz
    · exact h
  · intro z hz
    rcases mem_snoc.mp hz with hz | rfl
    · have := c.fx z hz
      omega
    · omega
  · intro z hz
    rcases mem_snoc.mp hz with hz | rfl
    · exact c.lf z hz
    · exact c.lx
theorem Clb.up2 (T : TreeL tr) {a b x y : Nat} {F B : List Nat} (c : Clb tr a b x y F B) (ne : x ≠ y) (h : ¬ dep tr y < dep tr x) : 0 < y ∧ dep tr (par tr y) < dep tr y ∧ Clb tr a b x (par tr y) F (B ++ [y]) := by
  have hy : 0 < y := by
    by_cases z : y = 0
    · exfalso
      subst z
      rw [dep_zero] at h
      have : 0 < x := by omega
      rw [dep_succ T this] at h
      omega
    · omega
  have ds := dep_succ T hy
  refine ⟨hy, by omega, c.wf, c.wb.snoc (par_adj T hy c.ly), c.hf, head_app c.hb, c.nf, nd_snoc c.nb ?_, ?_, ?_, ?_, ?_, c.fx, ?_, c.lx, T.par_le y, c.lf, ?_⟩
  · intro m
    rcases mem_snoc.mp m with m | m
    · have := c.by_ _ m
      omega
    · rw [m] at ds
      omega
  · intro z hz m
    rcases mem_snoc.mp m with m | m
    · exact c.k1 z hz m
    · have := c.k4 z hz
      rw [m] at this
      omega
  · intro w hw
    rcases mem_snoc.mp hw with hw | rfl
    · exact c.k2 w hw
    · intro m
      rcases mem_snoc.mp m with m | m
      · exact c.k1 w m (by simp)
      · exact ne m.symm
  · intro w hw
    rcases mem_snoc.mp hw with hw | rfl
    · exact c.k3 w hw
    · omega
  · intro z hz
    have := c.k4 z hz
    omega
  · intro w hw
    rcases mem_snoc.mp hw with hw | rfl
    · have := c.by_ w hw
      omega
    · omega
  · intro z hz
    rcases mem_snoc.mp hz with hz | rfl
    · exact c.lb z hz
    · exact c.ly
theorem Clb.done {a b x : Nat} {F B : List Nat} (c : Clb tr a b x x F B) : SW tr a b (F ++ [x] ++ B.reverse) := by
  have hr : Wk tr (x :: B.reverse) := by
    have := c.wb.rev
    rw [List.reverse_append] at this
    exact this
  refine ⟨?_, ?_, ?_, ?_⟩
  · rw [List.append_assoc]
    exact c.wf.glue hr
  · rw [List.nodup_append]
    refine ⟨c.nf, ?_, fun u hu v hv => ?_⟩
    · exact (List.reverse_perm B).nodup_iff.mpr (List.nodup_append.mp c.nb).1
    · rintro rfl
      exact c.k2 u (List.mem_reverse.mp hv) hu
  · rw [List.head?_append, c.hf]
    rfl
  · cases B with
    | nil =>
      have e : x = b := Option.some.inj c.hb
      rw [e]
      simp
    | cons w r =>
      have e : w = b := Option.some.inj c.hb
      rw [List.getLast?_append, List.getLast?_reverse, e]
      rfl
end
end TR

namespace TR
section
variable {tr : List E2}
theorem SW.norm {tr2 : List E2} (n : Norm tr tr2) {a b : Nat} {l : List Nat} (s : SW tr2 a b l) : SW tr a b l := by
  refine ⟨?_, s.nd, s.hd, s.lt⟩
  have : ∀ {l : List Nat}, Wk tr2 l → Wk tr l := by
    intro l
    induction l with
    | nil => exact fun _ => trivial
    | cons a r ih =>
      cases r with
      | nil => exact fun _ => trivial
      | cons b r => exact fun h => ⟨n.adj.mp h.1, ih h.2⟩
  exact this s.wk
/-- the search's state: found, still to be looked at -/
structure Bf (tr : List E2) (st : Nat) (xs qs : List Nat) : Prop where
  st_ : st ∈ xs
  nd : xs.Nodup
  le : ∀ x ∈ xs, x ≤ tr.length
  sub : ∀ q ∈ qs, q ∈ xs
  cl : ∀ x ∈ xs, x ∉ qs → ∀ y, Adj tr x y → y ∈ xs
theorem Bf.start {st : Nat} (h : st ≤ tr.length) : Bf tr st [st] [st] :=
  ⟨by simp, by simp, fun x hx => by rw [List.mem_singleton] at hx; omega, fun q hq => hq, fun x hx hn => absurd hx hn⟩
/-- one station is being looked at, j of its neighbours have been -/
structure Bg (tr : List E2) (st sp j : Nat) (xs qs : List Nat) : Prop where
  st_ : st ∈ xs
  nd : xs.Nodup
  le : ∀ x ∈ xs, x ≤ tr.length
  sub : ∀ q ∈ qs, q ∈ xs
  cl : ∀ x ∈ xs, x ∉ qs → x ≠ sp → ∀ y, Adj tr x y → y ∈ xs
  sp_ : sp ∈ xs
  dn : ∀ y ∈ (nb tr sp).take j, y ∈ xs
theorem Bf.pop {st sp : Nat} {xs qs : List Nat} (b : Bf tr st xs (sp :: qs)) : Bg tr st sp 0 xs qs :=
  ⟨b.st_, b.nd, b.le, fun q hq => b.sub q (List.mem_cons_of_mem _ hq), fun x hx hn ne => b.cl x hx (fun h => by rcases List.mem_cons.mp h with h | h; exact ne h; exact hn h), b.sub sp (by simp), fun y hy => by rw [List.take_zero] at hy; cases hy⟩
theorem Bg.skip {st sp j y : Nat} {xs qs : List Nat} (b : Bg tr st sp j xs qs) (hy : (nb tr sp)[j]? = some y) (h : y ∈ xs) : Bg tr st sp (j + 1) xs qs := by
  refine ⟨b.st_, b.nd, b.le, b.sub, b.cl, b.sp_, fun z hz => ?_⟩
  rw [List.take_succ, hy] at hz
  rcases List.mem_append.mp hz with hz | hz
  · exact b.dn z hz
  · have : z = y := by simpa using hz
    rw [this]
    exact h
theorem Bg.add (T : TreeL tr) {st sp j y : Nat} {xs qs : List Nat} (b : Bg tr st sp j xs qs) (hy : (nb tr sp)[j]? = some y) (h : y ∉ xs) : Bg tr st sp (j + 1) (xs ++ [y]) (qs ++ [y]) := by
  have ha : Adj tr sp y := (mem_nb T.ne).mp (List.mem_of_getElem? hy)
  have hl : y ≤ tr.length := by
    exact (T.adj_le ha).2
  refine ⟨List.mem_append_left _ b.st_, nd_snoc b.nd h, fun x hx => ?_, fun q hq => ?_, fun x hx hn ne z hz => ?_, List.mem_append_left _ b.sp_, fun z hz => ?_⟩
  · rcases mem_snoc.mp hx with hx | rfl
    · exact b.le x hx
    · exact hl
  · rcases mem_snoc.mp hq with hq | rfl
    · exact List.mem_append_left _ (b.sub q hq)
    · simp
  · rcases mem_snoc.mp hx with hx | rfl
    · exact List.mem_append_left _ (b.cl x hx (fun m => hn (List.mem_append_left _ m)) ne z hz)
    · exact absurd (by simp) hn
  · rw [List.take_succ, hy] at hz
    rcases List.mem_append.mp hz with hz | hz
    · exact List.mem_append_left _ (b.dn z hz)
    · have : z = y := by simpa using hz
      rw [this]
      simp
theorem Bg.back (T : TreeL tr) {st sp : Nat} {xs qs : List Nat} (b : Bg tr st sp (nb tr sp).length xs qs) : Bf tr st xs qs := by
  refine ⟨b.st_, b.nd, b.le, b.sub, fun x hx hn y hy => ?_⟩
  by_cases c : x = sp
  · subst c
    apply b.dn
    rw [List.take_length]
    exact (mem_nb T.ne).mpr hy
  · exact b.cl x hx hn c y hy
theorem Bf.all (T : TreeL tr) {st : Nat} {xs : List Nat} (b : Bf tr st xs []) : ∀ x, x ≤ tr.length → x ∈ xs := by
  have cl : ∀ x ∈ xs, ∀ y, Adj tr x y → y ∈ xs := fun x hx => b.cl x hx (by simp)
  have up : ∀ (k x : Nat), dep tr x ≤ k → x ∈ xs → 0 ∈ xs := by
    intro k
    induction k with
    | zero =>
      intro x hx h
      by_cases c : x = 0
      · rw [← c]
        exact h
      · have := dep_succ T (y := x) (by omega)
        omega
    | succ k ih =>
      intro x hx h
      by_cases c : x = 0
      · rw [← c]
        exact h
      · have hlt := dep_succ T (y := x) (by omega)
        exact ih (par tr x) (by omega) (cl x h _ (par_adj T (by omega) (b.le x h)))
  have h0 := up _ st (Nat.le_refl _) b.st_
  have dn : ∀ (k x : Nat), dep tr x ≤ k → x ≤ tr.length → x ∈ xs := by
    intro k
    induction k with
    | zero =>
      intro x hx _
      by_cases c : x = 0
      · rw [c]
        exact h0
      · have := dep_succ T (y := x) (by omega)
        omega
    | succ k ih =>
      intro x hx hl
      by_cases c : x = 0
      · rw [c]
        exact h0
      · have hlt := dep_succ T (y := x) (by omega)
        exact cl _ (ih (par tr x) (by omega) (T.par_le x)) _ (par_adj T (by omega) hl).sym
  exact fun x hx => dn _ x (Nat.le_refl _) hx
theorem Bf.len {st : Nat} {xs qs : List Nat} (b : Bf tr st xs qs) : xs.length ≤ tr.length + 1 := nd_len b.nd b.le
theorem Bg.len {st sp j : Nat} {xs qs : List Nat} (b : Bg tr st sp j xs qs) : xs.length ≤ tr.length + 1 := nd_len b.nd b.le
end
end TR

namespace TR
section
variable {tr : List E2}
/-- the stations of a layer, each with where it was entered from -/
def nxt (tr : List E2) (x : Nat × Option Nat) : List (Nat × Option Nat) := ((nb tr x.1).filter fun w => decide (some w ≠ x.2)).map fun w => (w, some x.1)
def lyr (tr : List E2) (s : Nat) (b : Option Nat) : Nat → List (Nat × Option Nat)
  | 0 => [(s, b)]
  | k + 1 => (lyr tr s b k).flatMap (nxt tr)
theorem mem_nxt (T : TreeL tr) {x y : Nat × Option Nat} : y ∈ nxt tr x ↔ Adj tr x.1 y.1 ∧ some y.1 ≠ x.2 ∧ y.2 = some x.1 := by
  unfold nxt
  rw [List.mem_map]
  constructor
  · rintro ⟨w, hw, rfl⟩
    rw [List.mem_filter, mem_nb T.ne] at hw
    exact ⟨hw.1, of_decide_eq_true hw.2, rfl⟩
  · rintro ⟨h1, h2, h3⟩
    refine ⟨y.1, ?_, ?_⟩
    · rw [List.mem_filter, mem_nb T.ne]
      exact ⟨h1, decide_eq_true h2⟩
    · rw [← h3]
noncomputable def ms (tr : List E2) (x : Nat × Option Nat) : Nat := if 0 < x.1 ∧ x.2 = some (par tr x.1) then tr.length + 1 - dep tr x.1 else tr.length + 1 + dep tr x.1
theorem ms_nxt (T : TreeL tr) {x y : Nat × Option Nat} (hx : x.1 ≤ tr.length) (h : y ∈ nxt tr x) : ms tr y < ms tr x ∧ y.1 ≤ tr.length := by
  obtain ⟨v, e⟩ := x
  obtain ⟨w, e'⟩ := y
  obtain ⟨h1, h2, h3⟩ := (mem_nxt T).mp h
  have h3 : e' = some v := h3
  subst h3
  have h2 : some w ≠ e := h2
  have hx : v ≤ tr.length := hx
  have h1 : Adj tr v w := h1
  unfold ms
  rcases adj_par T h1 with ⟨a1, a2, a3⟩ | ⟨a1, a2, a3⟩
  · have lt := dep_succ T a1
    rw [← a2] at lt
    have c1 : ¬ (0 < v ∧ e = some (par tr v)) := fun z => h2 (by rw [z.2, a2])
    have c2 : ¬ (0 < w ∧ some v = some (par tr w)) := fun z => by
      have e1 := Option.some.inj z.2
      have := dep_succ T z.1
      rw [← e1] at this
      omega
    show (if 0 < w ∧ some v = some (par tr w) then _ else _) < (if 0 < v ∧ e = some (par tr v) then _ else _) ∧ w ≤ tr.length
    rw [if_neg c1, if_neg c2]
    refine ⟨?_, (T.adj_le h1).2⟩
    show tr.length + 1 + dep tr w < tr.length + 1 + dep tr v
    omega
  · have lt := dep_succ T a1
    rw [← a2] at lt
    have dv := dep_le T a3
    have c2 : 0 < w ∧ some v = some (par tr w) := ⟨a1, by rw [a2]⟩
    show (if 0 < w ∧ some v = some (par tr w) then _ else _) < (if 0 < v ∧ e = some (par tr v) then _ else _) ∧ w ≤ tr.length
    rw [if_pos c2]
    refine ⟨?_, a3⟩
    show tr.length + 1 - dep tr w < _
    split
    · show _ < tr.length + 1 - dep tr v
      omega
    · show _ < tr.length + 1 + dep tr v
      omega
theorem lyr_ms (T : TreeL tr) {s : Nat} {b : Option Nat} (hs : s ≤ tr.length) : ∀ (k : Nat) (x : Nat × Option Nat), x ∈ lyr tr s b k → ms tr x + k ≤ 2 * tr.length + 2 ∧ x.1 ≤ tr.length
  | 0, x, h => by
    have e : x = (s, b) := by simpa [lyr] using h
    subst e
    refine ⟨?_, hs⟩
    have := dep_le T hs
    unfold ms
    split <;> (simp only; omega)
  | k + 1, x, h => by
    have h : x ∈ (lyr tr s b k).flatMap (nxt tr) := h
    obtain ⟨y, hy, hx⟩ := List.mem_flatMap.mp h
    obtain ⟨i1, i2⟩ := lyr_ms T hs k y hy
    obtain ⟨j1, j2⟩ := ms_nxt T i2 hx
    exact ⟨by omega, j2⟩
theorem lyr_le (T : TreeL tr) {s : Nat} {b : Option Nat} (hs : s ≤ tr.length) {k : Nat} (h : lyr tr s b k ≠ []) : k ≤ 2 * tr.length + 2 := by
  obtain ⟨x, hx⟩ := List.exists_mem_of_ne_nil _ h
  have := (lyr_ms T hs k x hx).1
  omega
/-- a part of a walk without repetition -/
theorem SW.part {a b : Nat} {l r : List Nat} {w : Nat} (s : SW tr a b (l ++ w :: r)) : SW tr w b (w :: r) := by
  refine ⟨?_, (List.nodup_append.mp s.nd).2.1, rfl, ?_⟩
  · have : ∀ {l : List Nat}, Wk tr (l ++ w :: r) → Wk tr (w :: r) := by
      intro l
      induction l with
      | nil => exact fun h => h
      | cons c l ih => exact fun h => ih h.tail
    exact this s.wk
  · have := s.lt
    rw [List.getLast?_append] at this
    cases e : (w :: r).getLast? with
    | none => simp at e
    | some z =>
      rw [e] at this
      exact this
/-- a walk is gone on with, not back -/
theorem SW.on (T : TreeL tr) {a v w : Nat} {l : List Nat} {e : Option Nat} (s : SW tr a v l) (he : ∀ l', l = l' ++ [v] → l' ≠ [] → l'.getLast? = e) (h : Adj tr v w) (hw : some w ≠ e) : SW tr a w (l ++ [w]) := by
  refine s.snoc h fun hm => ?_
  have hvw : v ≠ w := fun z => by
    subst z
    rcases h with h | h
    · exact T.ne _ h rfl
    · exact T.ne _ h rfl
  obtain ⟨p, r, rfl⟩ := List.append_of_mem hm
  have s1 := s.part
  have s2 : SW tr w v [w, v] := ⟨⟨h.symm, trivial⟩, by simp; exact fun z => hvw z.symm, rfl, rfl⟩
  have e1 := SW.uniq T s1 s2
  have e2 : r = [v] := by
    have := List.cons.inj e1
    exact this.2
  subst e2
  have := he (p ++ [w]) (by simp) (by simp)
  rw [List.getLast?_append] at this
  exact hw this
/-- each station of a layer is reached by a walk of its own -/
theorem lyr_sw (T : TreeL tr) {s : Nat} {b : Option Nat} : ∀ (k : Nat) (x : Nat × Option Nat), x ∈ lyr tr s b k → ∃ l, SW tr s x.1 l ∧ l.length = k + 1 ∧ (∀ l', l = l' ++ [x.1] → l' ≠ [] → l'.getLast? = x.2)
  | 0, x, h => by
    have e : x = (s, b) := by simpa [lyr] using h
    subst e
    refine ⟨[s], SW.one s, rfl, fun l' h1 h2 => ?_⟩
    exfalso
    have := congrArg List.length h1
    rw [List.length_append] at this
    have : l'.length = 0 := by
      simp at this
      exact this ▸ rfl
    exact h2 (List.length_eq_zero_iff.mp this)
  | k + 1, x, h => by
    have h : x ∈ (lyr tr s b k).flatMap (nxt tr) := h
    obtain ⟨y, hy, hx⟩ := List.mem_flatMap.mp h
    obtain ⟨l, i1, i2, i3⟩ := lyr_sw T k y hy
    obtain ⟨h1, h2, h3⟩ := (mem_nxt T).mp hx
    refine ⟨l ++ [x.1], i1.on T i3 h1 h2, by rw [List.length_append, i2]; rfl, fun l' e1 e2 => ?_⟩
    have := (List.append_inj' e1 rfl).1
    rw [← this, h3]
    exact i1.lt
end
end TR

namespace TR
section
variable {tr : List E2}
theorem nxt_fst {x : Nat × Option Nat} : (nxt tr x).map Prod.fst = (nb tr x.1).filter fun w => decide (some w ≠ x.2) := by
  unfold nxt
  rw [List.map_map]
  have : (Prod.fst ∘ fun w => ((w, some x.1) : Nat × Option Nat)) = id := rfl
  rw [this, List.map_id]
/-- the stations of a layer are different -/
theorem lyr_nd (T : TreeL tr) {s : Nat} {b : Option Nat} : ∀ k, ((lyr tr s b k).map Prod.fst).Nodup
  | 0 => by
    show [s].Nodup
    simp
  | k + 1 => by
    have key : ∀ {L : List (Nat × Option Nat)}, (∀ x ∈ L, x ∈ lyr tr s b k) → (L.map Prod.fst).Nodup → ((L.flatMap (nxt tr)).map Prod.fst).Nodup := by
      intro L
      induction L with
      | nil => exact fun _ _ => List.nodup_nil
      | cons x L ih =>
        intro hL hn
        rw [List.map_cons, List.nodup_cons] at hn
        have e : (x :: L).flatMap (nxt tr) = nxt tr x ++ L.flatMap (nxt tr) := rfl
        rw [e, List.map_append, List.nodup_append]
        refine ⟨?_, ih (fun y hy => hL y (List.mem_cons_of_mem _ hy)) hn.2, ?_⟩
        · rw [nxt_fst]
          exact (nb_nd T _).filter _
        · rintro w hw w' hw' rfl
          obtain ⟨y, hy, ey⟩ := List.mem_map.mp hw
          obtain ⟨y', hy', ey'⟩ := List.mem_map.mp hw'
          obtain ⟨z, hz, hyz⟩ := List.mem_flatMap.mp hy'
          have m1 : y ∈ lyr tr s b (k + 1) := List.mem_flatMap.mpr ⟨x, hL x (by simp), hy⟩
          have m2 : y' ∈ lyr tr s b (k + 1) := List.mem_flatMap.mpr ⟨z, hL z (List.mem_cons_of_mem _ hz), hyz⟩
          obtain ⟨l, a1, a2, a3⟩ := lyr_sw T (k + 1) y m1
          obtain ⟨l', b1, b2, b3⟩ := lyr_sw T (k + 1) y' m2
          rw [ey] at a1 a3
          rw [ey'] at b1 b3
          have el := SW.uniq T a1 b1
          subst el
          obtain ⟨q, hq⟩ : ∃ q, l = q ++ [w] := by
            have := a1.lt
            rw [List.getLast?_eq_some_iff] at this
            exact this
          have qne : q ≠ [] := by
            rintro rfl
            rw [hq] at a2
            simp at a2
          have e1 := a3 q hq qne
          have e2 := b3 q hq qne
          rw [((mem_nxt T).mp hy).2.2] at e1
          rw [((mem_nxt T).mp hyz).2.2] at e2
          have exz : x.1 = z.1 := Option.some.inj (e1.symm.trans e2)
          exact hn.1 (by rw [exz]; exact List.mem_map_of_mem hz)
    exact key (fun x hx => hx) (lyr_nd T k)
theorem lyr_len (T : TreeL tr) {s : Nat} {b : Option Nat} (hs : s ≤ tr.length) (k : Nat) : (lyr tr s b k).length ≤ tr.length + 1 := by
  have h := nd_len (n := tr.length) (lyr_nd T (s := s) (b := b) k) (fun x hx => by
    obtain ⟨y, hy, rfl⟩ := List.mem_map.mp hx
    exact (lyr_ms T hs k y hy).2)
  rw [List.length_map] at h
  exact h
end
end TR

namespace TR
def nrm (e : E2) : E2 := (mn e, mx e)
/-- pairs in their order -/
def lexle (a b : E2) : Bool := decide (a.1 < b.1) || (decide (a.1 = b.1) && decide (a.2 ≤ b.2))
theorem lexle_iff {a b : E2} : lexle a b = true ↔ a.1 < b.1 ∨ (a.1 = b.1 ∧ a.2 ≤ b.2) := by
  unfold lexle
  simp
def srt2 (l : List E2) : List E2 := l.mergeSort lexle
theorem srt2_perm (l : List E2) : (srt2 l).Perm l := List.mergeSort_perm l _
theorem srt2_le (l : List E2) : (srt2 l).Pairwise (fun a b => lexle a b = true) :=
  List.pairwise_mergeSort (le := lexle) (fun a b c h k => by
    rw [lexle_iff] at h k ⊢
    omega) (fun a b => by
    rw [Bool.or_eq_true, lexle_iff, lexle_iff]
    omega) l
theorem srt2_of {l l' : List E2} (hp : l'.Perm l) (hs : l'.Pairwise (fun a b => lexle a b = true)) : l' = srt2 l := by
  refine List.Perm.eq_of_pairwise (le := fun a b => lexle a b = true) (fun a b _ _ h1 h2 => ?_) hs (srt2_le l) (hp.trans (srt2_perm l).symm)
  rw [lexle_iff] at h1 h2
  have e1 : a.1 = b.1 := by omega
  have e2 : a.2 = b.2 := by omega
  exact Prod.ext e1 e2
theorem srt2_perm_eq {l l' : List E2} (h : l.Perm l') : srt2 l = srt2 l' := srt2_of ((srt2_perm l).trans h) (srt2_le l)
theorem srt2_srt2 (l : List E2) : srt2 (srt2 l) = srt2 l := (srt2_of (srt2_perm l |>.trans (List.Perm.refl l)) (srt2_le l) ▸ (srt2_perm_eq (srt2_perm l)))
/-- the tracks as a railway tells them -/
def nrmS (tr : List E2) : List E2 := srt2 (tr.map nrm)
theorem nrmS_len (tr : List E2) : (nrmS tr).length = tr.length := by
  unfold nrmS
  rw [(srt2_perm _).length_eq, List.length_map]
theorem nrm_nrm (e : E2) : nrm (nrm e) = nrm e := by
  unfold nrm mn mx
  simp only [Prod.mk.injEq]
  omega
theorem nrm_lt {e : E2} (h : e.1 < e.2) : nrm e = e := by
  unfold nrm mn mx
  exact Prod.ext (by simp only; omega) (by simp only; omega)
theorem nrmS_nrmS (tr : List E2) : nrmS (nrmS tr) = nrmS tr := by
  unfold nrmS
  rw [srt2_perm_eq ((srt2_perm (tr.map nrm)).map nrm), List.map_map]
  congr 1
  exact List.map_congr_left fun e _ => nrm_nrm e
theorem nrmS_perm {tr tr' : List E2} (h : tr.Perm tr') : nrmS tr = nrmS tr' := srt2_perm_eq (h.map nrm)
theorem nrmS_norm (tr : List E2) : Norm tr (nrmS tr) := ⟨srt2_perm _⟩
theorem nrmS_mem {tr : List E2} {e : E2} (h : e ∈ nrmS tr) : ∃ d ∈ tr, e = nrm d := by
  obtain ⟨d, hd, q⟩ := List.mem_map.mp ((srt2_perm _).mem_iff.mp h)
  exact ⟨d, hd, q.symm⟩
theorem nrmS_lt {tr : List E2} (T : TreeL tr) {e : E2} (h : e ∈ nrmS tr) : e.1 < e.2 := by
  obtain ⟨d, hd, rfl⟩ := nrmS_mem h
  exact mn_lt (T.ne d hd)
theorem TreeL.nS {tr : List E2} (T : TreeL tr) : TreeL (nrmS tr) := (nrmS_norm tr).tree T
/-- tracks as they are drawn: each greater end once -/
theorem tree_drawn {tr : List E2} (ne : ∀ e ∈ tr, e.1 ≠ e.2) (pm : (tr.map mx).Perm (List.range' 1 tr.length)) : TreeL tr := by
  have bd : ∀ e ∈ tr, mx e ≤ tr.length := fun e h => by
    have := pm.mem_iff.mp (List.mem_map_of_mem (f := mx) h)
    rw [List.mem_range'] at this
    obtain ⟨i, h1, h2⟩ := this
    omega
  refine ⟨ne, fun e h => by have := bd e h; unfold mx at this; omega, ?_⟩
  intro v
  induction v using Nat.strongRecOn with
  | ind v ih =>
    intro hv
    by_cases c : v = 0
    · exact ⟨0, c⟩
    · have : v ∈ tr.map mx := pm.mem_iff.mpr (by rw [List.mem_range']; exact ⟨v - 1, by omega, by omega⟩)
      obtain ⟨e, he, q⟩ := List.mem_map.mp this
      have h1 := mn_lt (ne e he)
      obtain ⟨k, hk⟩ := ih (mn e) (by omega) (by omega)
      refine ⟨k + 1, mn e, hk, ?_⟩
      rw [← q]
      rcases ends e with ⟨e1, e2⟩ | ⟨e1, e2⟩
      · exact .inr (by rw [← e1, ← e2]; exact he)
      · exact .inl (by rw [← e1, ← e2]; exact he)
theorem tree_nil : TreeL [] := tree_drawn (fun _ h => nomatch h) (List.Perm.refl _)
theorem tree_perm {tr tr' : List E2} (T : TreeL tr) (h : tr'.Perm tr) : TreeL tr' := by
  have adj : ∀ {a b}, Adj tr a b → Adj tr' a b := fun {a b} q => q.imp h.mem_iff.mpr h.mem_iff.mpr
  have wn : ∀ k v, WN tr k v → WN tr' k v := by
    intro k
    induction k with
    | zero => exact fun v h => h
    | succ k ih => exact fun v ⟨u, h1, h2⟩ => ⟨u, ih u h1, adj h2⟩
  refine ⟨fun e he => T.ne e (h.mem_iff.mp he), fun e he => by rw [h.length_eq]; exact T.le e (h.mem_iff.mp he), fun v hv => ?_⟩
  obtain ⟨k, hk⟩ := T.co v (by rw [← h.length_eq]; exact hv)
  exact ⟨k, wn k v hk⟩
theorem wn_app {tr tr' : List E2} : ∀ {k v}, WN tr k v → WN (tr ++ tr') k v
  | 0, v, h => h
  | k + 1, v, ⟨u, h1, h2⟩ => ⟨u, wn_app h1, h2.imp (List.mem_append_left _) (List.mem_append_left _)⟩
/-- a new station -/
theorem TreeL.push {tr : List E2} (T : TreeL tr) {x : Nat} (h : x ≤ tr.length) : TreeL (tr ++ [(x, tr.length + 1)]) := by
  refine ⟨fun d hd => ?_, fun d hd => ?_, fun v hv => ?_⟩
  · rcases List.mem_append.mp hd with h1 | h1
    · exact T.ne d h1
    · rw [List.mem_singleton.mp h1]
      show x ≠ tr.length + 1
      omega
  · rw [List.length_append, List.length_singleton]
    rcases List.mem_append.mp hd with h1 | h1
    · have := T.le d h1
      omega
    · rw [List.mem_singleton.mp h1]
      show x ≤ _ ∧ tr.length + 1 ≤ _
      omega
  · rw [List.length_append, List.length_singleton] at hv
    by_cases c : v ≤ tr.length
    · obtain ⟨k, hk⟩ := T.co v c
      exact ⟨k, wn_app hk⟩
    · have : v = tr.length + 1 := by omega
      subst this
      obtain ⟨k, hk⟩ := T.co x h
      exact ⟨k + 1, x, wn_app hk, .inl (by simp)⟩
end TR

namespace TR
open PySem PySem.Spec PyProof.Rows L2 L2.TT StX ClX
theorem f01 : ¬ (("_tracks" : Str) = "_neighbours") := by decide +kernel
theorem f02 : ¬ (("_tracks" : Str) = "_above") := by decide +kernel
theorem f03 : ¬ (("_tracks" : Str) = "_levels") := by decide +kernel
theorem f12 : ¬ (("_neighbours" : Str) = "_above") := by decide +kernel
theorem f13 : ¬ (("_neighbours" : Str) = "_levels") := by decide +kernel
theorem f23 : ¬ (("_above" : Str) = "_levels") := by decide +kernel
def flR (tt na A L : Addr) : List (Str × V) := putF "_levels" (.ref L) (putF "_above" (.ref A) (putF "_neighbours" (.ref na) (putF "_tracks" (.ref tt) [])))
theorem flR_t {tt na A L : Addr} : (flR tt na A L).lookup ("_tracks" : Str) = some (.ref tt) := by
  unfold flR
  rw [lookup_putF, if_neg f03, lookup_putF, if_neg f02, lookup_putF, if_neg f01, lookup_putF, if_pos rfl]
theorem flR_n {tt na A L : Addr} : (flR tt na A L).lookup ("_neighbours" : Str) = some (.ref na) := by
  unfold flR
  rw [lookup_putF, if_neg f13, lookup_putF, if_neg f12, lookup_putF, if_pos rfl]
theorem flR_a {tt na A L : Addr} : (flR tt na A L).lookup ("_above" : Str) = some (.ref A) := by
  unfold flR
  rw [lookup_putF, if_neg f23, lookup_putF, if_pos rfl]
theorem flR_l {tt na A L : Addr} : (flR tt na A L).lookup ("_levels" : Str) = some (.ref L) := by
  unfold flR
  rw [lookup_putF, if_pos rfl]
theorem flR_no {tt na A L : Addr} {m : Str} (h0 : ¬ m = "_tracks") (h1 : ¬ m = "_neighbours") (h2 : ¬ m = "_above") (h3 : ¬ m = "_levels") : (flR tt na A L).lookup m = none := by
  unfold flR
  rw [lookup_putF, if_neg h3, lookup_putF, if_neg h2, lookup_putF, if_neg h1, lookup_putF, if_neg h0]
  rfl
/-- at r: a railway with the tracks tr (normed) -/
structure RailAt (C : Addr) (H : Hp) (r : Addr) (tr : List E2) : Prop where
  T : TreeL tr
  few : tr.length ≤ 99
  ex : ∃ (dx tt na A L : Addr) (ps ts : List Addr), H r = some (.ins C dx (flR tt na A L)) ∧ H tt = some (.tup (ps.map V.ref)) ∧ Prs H ps tr ∧ H na = some (.lst (ts.map V.ref)) ∧ ts.length = tr.length + 1 ∧
    (∀ (v : Nat) (t : Addr), ts[v]? = some t → H t = some (.tup ((nb tr v).map iv))) ∧ H A = some (.lst (vec (tr.length + 1) (p0 tr))) ∧ H L = some (.lst (vec (tr.length + 1) (dep tr)))
theorem RailAt.same {C : Addr} {H H' : Hp} {r : Addr} {tr : List E2} (R : RailAt C H r tr) (s : Same H H') : RailAt C H' r tr := by
  obtain ⟨T, few, dx, tt, na, A, L, ps, ts, h1, h2, h3, h4, h5, h6, h7, h8⟩ := R
  exact ⟨T, few, dx, tt, na, A, L, ps, ts, s _ _ h1, s _ _ h2, h3.same s, s _ _ h4, h5, fun v t h => s _ _ (h6 v t h), s _ _ h7, s _ _ h8⟩
/-- what the top has made of the class -/
structure TxtR (K : PySem.W.Frag) (mg : Str → Option Value) (C : Addr) : Prop where
  cl : Cls K C
  nT : NoAttr K C "_tracks"
  nN : NoAttr K C "_neighbours"
  nA : NoAttr K C "_above"
  nL : NoAttr K C "_levels"
  mgC : mg "Railway" = some (.ref C)
  cr : ∃ mc t, CRead K C mc ∧ CVal K C mc "MOST_STATIONS" (.int 100) (.int 100 t)
theorem maxK {X : Cx} {K : PySem.W.Frag} (h : X.K = K) (hc : X.calm = true) : CallR X (.builtin "max") (rMaxP K) := by
  subst h
  exact cr_maxP hc
theorem minK {X : Cx} {K : PySem.W.Frag} (h : X.K = K) (hc : X.calm = true) : CallR X (.builtin "min") (rMinP K) := by
  subst h
  exact cr_minP hc
theorem Prs.snoc {H : Hp} {qs : List Addr} {l : List E2} {q : Addr} {e : E2} (h : Prs H qs l) (hq : H q = some (.tup [iv e.1, iv e.2])) : Prs H (qs ++ [q]) (l ++ [e]) := by
  refine ⟨by rw [List.length_append, List.length_append, h.1]; rfl, fun i p d hp hd => ?_⟩
  rcases get_snoc hp with hp | ⟨e1, e2⟩
  · rcases get_snoc hd with hd | ⟨e3, e4⟩
    · exact h.2 i p d hp hd
    · exfalso
      have := (List.getElem?_eq_some_iff.mp hp).1
      rw [h.1] at this
      omega
  · rcases get_snoc hd with hd | ⟨e3, e4⟩
    · exfalso
      have := (List.getElem?_eq_some_iff.mp hd).1
      rw [h.1] at e1
      omega
    · rw [e2, e4]
      exact hq
def unref : V → Addr
  | .ref p => p
  | _ => 0
theorem refs_perm {ys : List V} {qs : List Addr} (h : ys.Perm (qs.map V.ref)) : ∃ ps : List Addr, ys = ps.map V.ref ∧ ps.Perm qs := by
  refine ⟨ys.map unref, ?_, ?_⟩
  · rw [List.map_map]
    symm
    calc ys.map (V.ref ∘ unref) = ys.map id := List.map_congr_left fun y hy => by
          obtain ⟨q, _, rfl⟩ := List.mem_map.mp (h.mem_iff.mp hy)
          rfl
      _ = ys := List.map_id _
  · have := h.map unref
    rw [List.map_map] at this
    have e : qs.map (unref ∘ V.ref) = qs := by
      calc qs.map (unref ∘ V.ref) = qs.map id := List.map_congr_left fun _ _ => rfl
        _ = qs := List.map_id _
    rw [e] at this
    exact this
def edOf (qs : List Addr) (l : List E2) (p : Addr) : E2 := l.getD (qs.idxOf p) (0, 0)
theorem ed_get {H : Hp} {qs : List Addr} {l : List E2} (h : Prs H qs l) (nd : qs.Nodup) {i : Nat} {p : Addr} (hp : qs[i]? = some p) : l[i]? = some (edOf qs l p) := by
  have hl := (List.getElem?_eq_some_iff.mp hp).1
  rw [h.1] at hl
  unfold edOf
  rw [idxOf_get nd hp, List.getD_eq_getElem?_getD, List.getElem?_eq_getElem hl]
  rfl
theorem ed_heap {H : Hp} {qs : List Addr} {l : List E2} (h : Prs H qs l) (nd : qs.Nodup) {p : Addr} (hp : p ∈ qs) : H p = some (.tup [iv (edOf qs l p).1, iv (edOf qs l p).2]) := by
  obtain ⟨i, hi⟩ := List.mem_iff_getElem?.mp hp
  exact h.2 i p _ hi (ed_get h nd hi)
theorem ed_map {H : Hp} {qs : List Addr} {l : List E2} (h : Prs H qs l) (nd : qs.Nodup) : qs.map (edOf qs l) = l := by
  apply List.ext_getElem?
  intro i
  cases e : qs[i]? with
  | none =>
    rw [List.getElem?_map, e]
    have hl := List.getElem?_eq_none_iff.mp e
    rw [h.1] at hl
    exact (List.getElem?_eq_none_iff.mpr hl).symm
  | some p => rw [List.getElem?_map, e, ed_get h nd e]; rfl
def kfOf (qs : List Addr) (l : List E2) : V → Int × Int
  | .ref p => (((edOf qs l p).1 : Nat), ((edOf qs l p).2 : Nat))
  | _ => (0, 0)
def spRI (C : Addr) (K : PySem.W.Frag) : Sp := fun vs H Q _ => ∃ (r dx a : Addr) (ps : List Addr) (tr : List E2), vs = [.ref r, .ref a] ∧ H r = some (.ins C dx []) ∧ SqT K H a (ps.map V.ref) ∧ Prs H ps tr ∧ TreeL tr ∧ tr.length ≤ 99 ∧
  ∀ (H' : Hp), (∀ b o, H b = some o → b ≠ r → H' b = some o) → RailAt C H' r (nrmS tr) → Q .non H'
section
variable {P : Program} {w : World} {K : PySem.W.Frag} {mg : Str → Option Value} {base : Heap}
abbrev NRi : List Str := ["self", "tracks", "wrong", "track"]
theorem sc_ri : FnScope NRi ((["self"] : List Str) ++ (["tracks"] : List Str)) (defScope s_Railway_init) := ⟨rfl, rfl, rfl, by decide +kernel, rfl, by decide +kernel, by decide +kernel⟩
theorem body_ri {f fF fN fP C : Addr} {fdF fdN fdP : FuncData} (N : Nm mg) (X : TxtR K mg C) (UF : Use P w K mg base CX0 4 "first_wrong_track" fF fdF ["tracks"] (spFirst K)) (UN : Use P w K mg base CX0 1 "_neighbours_of" fN fdN ["tracks"] (spNbs K))
    (UP : Use P w K mg base CX0 1 "_places_below_first" fP fdP ["neighbours"] (spPlaces K)) (cdv : Value) (A : Around) (outer : List Env) (s : Shared) (H : Hp) (vs : List V) (Q : VK) (E : XK)
    (hr : Room 4 (A.deeper (envOfC "Railway.__init__" (defScope s_Railway_init) s.heap.objs.size f cdv))) (h : spRI C K vs H Q E) :
    ∃ t, PSs (cxOf CX0 P w K mg base NRi "Railway.__init__" (defScope s_Railway_init) f cdv A outer s H E).nox (defBody s_Railway_init) t ∧ t { nx := fun _ H' => Q .non H', rt := Q } (start NRi vs) H := by
  obtain ⟨r, dx, a, ps, tr, rfl, hr0, hS, hP, T, hl, k⟩ := h
  obtain ⟨mc, ct, hcr, hcv⟩ := X.cr
  have hr1 : Room 1 (A.deeper (envOfC "Railway.__init__" (defScope s_Railway_init) s.heap.objs.size f cdv)) := hr.mono (by decide)
  refine ⟨_, pss_cons (ps_if (pt_cmpR op_ge (pe_callB call_len_seq (by rfl) N.len PySem.boot_len (pa_cons (pv 1) pa_nil)) (pe_cval (pe_glob (v := .ref C) (by rfl) X.mgC rfl)) (nomark _)) pss_never pss_nil)
    (pss_cons (ps_set (i := 2) sc_ri.nd rfl (.inl rfl) (pe_use UF hr rfl (pa_cons (pv 1) pa_nil)))
    (pss_cons (ps_if (pt_cmpR op_notN (pv 2) pe_non (nomark _)) pss_never pss_nil)
    (pss_cons (ps_fld (pv 0) (pe_callTy call_tuple_of (by rfl) N.tuple boot_tuple (pa_cons (pe_callB cr_sortedPO (by rfl) N.sorted boot_sorted (pa_cons
        (pe_lc (own := [("track", 3)]) (g := gName 3) (tt := tYes) rfl sc_ri.nd (pi_tup (pv 1)) (blkOk_by (N := NRi) (sc := defScope s_Railway_init) (by decide +kernel))
          (fun _ _ _ _ _ => pg_name (i := 3) sc_ri.nd rfl (Or.inl rfl)) (fun _ _ _ _ _ => pts_nil)
          (fun _ _ _ _ _ => pe_tup (pa_cons (pe_callB (minK (K := K) rfl rfl) (by rfl) N.min PyProof.Rows.boot_min (pa_cons (pv 3) pa_nil)) (pa_cons (pe_callB (maxK (K := K) rfl rfl) (by rfl) N.max PyProof.Rows.boot_max (pa_cons (pv 3) pa_nil)) pa_nil)))) pa_nil)) pa_nil)) rfl)
    (pss_cons (ps_fld (pv 0) (pe_use UN hr1 rfl (pa_cons (pe_fld (pv 0) rfl) pa_nil)) rfl)
    (pss_one (ps_asg (pe_use UP hr1 rfl (pa_cons (pe_fld (pv 0) rfl) pa_nil)) (pg_tup rfl (pgs_cons (pg_fld (pv 0)) (pgs_cons (pg_fld (pv 0)) pgs_nil)))))))))  , ?_⟩
  have lp : (ps.map V.ref).length = tr.length := by rw [List.length_map, hP.1]
  refine ⟨_, rfl, a, _, rfl, .inr hS, C, mc, .int 100, _, rfl, hcr, hcv, _, _, rfl, rfl, _, rfl, ?_⟩
  refine iteF' (decide_eq_false (by rw [lp]; omega)) ?_
  refine ⟨_, rfl, a, ps, tr, rfl, hS, hP, T, by omega, fun H1 s1 => ?_⟩
  refine ⟨_, rfl, rfl, _, rfl, ?_⟩
  refine iteNS rfl ?_
  -- the normed tracks
  refine ⟨_, rfl, a, rfl, ⟨_, s1.tp hS⟩, fun D nD => ?_⟩
  have hP1 := hP.same s1
  refine lc_tup (K := K) (a := a) (xs := ps.map V.ref) (fun i H' => ∃ qs, H' D = some (.lst (qs.map V.ref)) ∧ Same H1 H' ∧ Prs H' qs ((tr.take i).map nrm) ∧ qs.Nodup) ⟨[], upd_same, same_upd nD _, ⟨rfl, fun _ _ _ h => by cases h⟩, List.nodup_nil⟩ (fun i H' _ ⟨_, _, s2, _⟩ => s2.tp (s1.tp hS)) ?_ ?_
  · rintro i v H' hv ⟨qs, hD, s2, hQ, nd⟩
    obtain ⟨p, e, rfl, hp, he, hH⟩ := hP1.get hv
    have hH2 := s2 _ _ hH
    refine ⟨rfl, _, rfl, p, _, _, rfl, SqT.of hH2, _, rfl, p, _, _, rfl, SqT.of hH2, by show 2 ≤ sizeLine; rw [sizeLine_eq]; decide, fun q nq => ⟨qs.map V.ref, ?_, ?_, qs ++ [q], ?_, ?_, ?_, ?_⟩⟩
    · have nD2 : D ≠ q := fun z => by rw [← z, hD] at nq; cases nq
      rw [upd_ne nD2]
      exact hD
    · rw [List.length_map, hQ.1, List.length_map, List.length_take, sizeLine_eq]
      omega
    · rw [upd_same, List.map_append]
      rfl
    · exact same_old (s2.trans (same_upd nq _)) nD _
    · have e1 : min (e.1 : Int) (e.2 : Int) = ((nrm e).1 : Nat) := by show _ = ((mn e : Nat) : Int); unfold mn; omega
      have e2 : max (e.1 : Int) (e.2 : Int) = ((nrm e).2 : Nat) := by show _ = ((mx e : Nat) : Int); unfold mx; omega
      have et : (tr.take (i + 1)).map nrm = (tr.take i).map nrm ++ [nrm e] := by rw [take_snoc he, List.map_append]; rfl
      rw [et]
      have qD : q ≠ D := fun z => by rw [z, hD] at nq; cases nq
      have hq1 : upd H' q (.tup [V.int (min (e.1 : Int) (e.2 : Int)), V.int (max (e.1 : Int) (e.2 : Int))]) q = some (.tup [iv (nrm e).1, iv (nrm e).2]) := by rw [upd_same, e1, e2]
      have hQ2 := (hQ.same (same_upd nq (.tup [V.int (min (e.1 : Int) (e.2 : Int)), V.int (max (e.1 : Int) (e.2 : Int))]))).snoc hq1
      refine ⟨hQ2.1, fun j x y hx hy => ?_⟩
      have hxy := hQ2.2 j x y hx hy
      have xD : x ≠ D := fun z => by
        rw [z, upd_ne qD.symm, hD] at hxy
        cases hxy
      exact (upd_ne xD).trans hxy
    · refine nodup_snoc nd fun hm => ?_
      obtain ⟨j, hj⟩ := List.mem_iff_getElem?.mp hm
      have hl := (List.getElem?_eq_some_iff.mp hj).1
      rw [hQ.1] at hl
      have := hQ.2 j q _ hj (List.getElem?_eq_getElem hl)
      rw [nq] at this
      cases this
  rintro H2 ⟨qs, hD, s2, hQ, nd⟩
  have et : (tr.take (ps.map V.ref).length).map nrm = tr.map nrm := by rw [lp, List.take_length]
  rw [et] at hQ
  refine ⟨D, _, kfOf qs (tr.map nrm), rfl, SqL.of hD, fun x hx => ?_, fun ys p hsr hst np => ?_⟩
  · obtain ⟨q, hq, rfl⟩ := List.mem_map.mp hx
    exact ⟨q, rfl, ed_heap hQ nd hq⟩
  obtain ⟨ps2, rfl, hpm⟩ := refs_perm hst.perm
  refine ⟨p, _, rfl, .inl ⟨SqL.of upd_same, fun l nl => ?_⟩⟩
  have s3 := same_upd np (.lst (ps2.map V.ref))
  have s4 := s3.trans (same_upd nl (.tup (ps2.map V.ref)))
  have hl4 := upd_same (H := upd H2 p (.lst (ps2.map V.ref))) (a := l) (o := .tup (ps2.map V.ref))
  generalize upd (upd H2 p (.lst (ps2.map V.ref))) l (.tup (ps2.map V.ref)) = H4 at s4 hl4
  have s04 : Same H H4 := (s1.trans s2).trans s4
  have nm : Norm tr (ps2.map (edOf qs (tr.map nrm))) := by
    refine ⟨?_⟩
    have := hpm.map (edOf qs (tr.map nrm))
    rw [ed_map hQ nd] at this
    exact this
  have enS : ps2.map (edOf qs (tr.map nrm)) = nrmS tr := by
    refine srt2_of nm.pm ?_
    have h0 : (ps2.map V.ref).Pairwise (fun x y => ltP (kfOf qs (tr.map nrm)) y x = false) := hsr
    rw [List.pairwise_map] at h0 ⊢
    refine h0.imp fun {a b} h => ?_
    have h2 := SrtO.lexB_no.mp h
    rw [lexle_iff]
    simp only [kfOf] at h2
    omega
  have hQ4 : Prs H4 ps2 (ps2.map (edOf qs (tr.map nrm))) := by
    refine ⟨(List.length_map _).symm, fun i x y hx hy => ?_⟩
    obtain ⟨x', hx', rfl⟩ := map_got hy
    rw [hx] at hx'
    cases hx'
    exact s4 _ _ (ed_heap hQ nd (hpm.mem_iff.mp (List.mem_of_getElem? hx)))
  generalize ps2.map (edOf qs (tr.map nrm)) = tr2 at nm hQ4 enS
  have T2 := nm.tree T
  have len2 := nm.len
  have hr4 := s04 _ _ hr0
  have lr : l ≠ r := ne_of hl4 hr4 (by intro z; cases z)
  refine ⟨_, rfl, r, C, dx, [], rfl, hr4, X.cl, X.nT, by show 0 < 1000; decide, ?_⟩
  have hr5 := upd_same (H := H4) (a := r) (o := .ins C dx (putF "_tracks" (.ref l) []))
  have k5 : ∀ b o, H4 b = some o → b ≠ r → upd H4 r (.ins C dx (putF "_tracks" (.ref l) [])) b = some o := fun b o e ne => by rw [upd_ne ne]; exact e
  generalize upd H4 r (.ins C dx (putF "_tracks" (.ref l) [])) = H5 at hr5 k5
  have hl5 := k5 _ _ hl4 lr
  have hQ5 : Prs H5 ps2 tr2 := ⟨hQ4.1, fun i x y hx hy => k5 _ _ (hQ4.2 i x y hx hy) (ne_of (hQ4.2 i x y hx hy) hr4 (by intro z; cases z))⟩
  refine ⟨_, rfl, r, C, dx, _, _, rfl, hr5, X.cl, X.nT, by rw [lookup_putF, if_pos rfl], l, ps2, tr2, rfl, SqT.of hl5, hQ5, fun e he => ⟨T2.ne e he, T2.lt1 he⟩, by omega, fun D2 ts H6 s6 R => ?_⟩
  refine ⟨_, rfl, r, C, dx, _, rfl, s6 _ _ hr5, X.cl, X.nN, by show 1 < 1000; decide, ?_⟩
  have hr6 := s6 _ _ hr5
  have hr7 := upd_same (H := H6) (a := r) (o := .ins C dx (putF "_neighbours" (.ref D2) (putF "_tracks" (.ref l) [])))
  have k7 : ∀ b o, H6 b = some o → b ≠ r → upd H6 r (.ins C dx (putF "_neighbours" (.ref D2) (putF "_tracks" (.ref l) []))) b = some o := fun b o e ne => by rw [upd_ne ne]; exact e
  generalize upd H6 r (.ins C dx (putF "_neighbours" (.ref D2) (putF "_tracks" (.ref l) []))) = H7 at hr7 k7
  have hD7 := k7 _ _ R.own (ne_of R.own hr6 (by intro z; cases z))
  have ht7 : ∀ (v : Nat) (t : Addr), ts[v]? = some t → H7 t = some (.tup ((nb tr2 v).map iv)) := fun v t h => k7 _ _ (R.at_ v t h).1 (ne_of (R.at_ v t h).1 hr6 (by intro z; cases z))
  refine ⟨_, rfl, r, C, dx, _, _, rfl, hr7, X.cl, X.nN, by rw [lookup_putF, if_pos rfl], D2, ts, tr2, rfl, SqL.of hD7, R.len, ht7, T2, by omega, fun t Aa L H8 tw ht => ?_⟩
  have hr8 := tw.same _ _ hr7
  refine ⟨t, _, rfl, SqT.of ht, rfl, ?_⟩
  refine ⟨_, _, rfl, _, rfl, r, C, dx, _, rfl, hr8, X.cl, X.nA, by show 2 < 1000; decide, ?_⟩
  refine ⟨_, _, rfl, _, rfl, r, C, dx, _, rfl, upd_same, X.cl, X.nL, by show 3 < 1000; decide, rfl, ?_⟩
  rw [upd_upd]
  have hrF := upd_same (H := H8) (a := r) (o := .ins C dx (putF "_levels" (.ref L) (putF "_above" (.ref Aa) (putF "_neighbours" (.ref D2) (putF "_tracks" (.ref l) [])))))
  have kF : ∀ b o, H8 b = some o → b ≠ r → upd H8 r (.ins C dx (putF "_levels" (.ref L) (putF "_above" (.ref Aa) (putF "_neighbours" (.ref D2) (putF "_tracks" (.ref l) []))))) b = some o := fun b o e ne => by rw [upd_ne ne]; exact e
  generalize upd H8 r (.ins C dx (putF "_levels" (.ref L) (putF "_above" (.ref Aa) (putF "_neighbours" (.ref D2) (putF "_tracks" (.ref l) []))))) = HF at hrF kF
  have all : ∀ b o, H4 b = some o → b ≠ r → HF b = some o := fun b o e ne => kF _ _ (tw.same _ _ (k7 _ _ (s6 _ _ (k5 _ _ e ne)) ne)) ne
  have all7 : ∀ b o, H7 b = some o → b ≠ r → HF b = some o := fun b o e ne => kF _ _ (tw.same _ _ e) ne
  refine k HF (fun b o e ne => all b o (s04 _ _ e) ne) (enS ▸ ⟨T2, by omega, dx, l, D2, Aa, L, ps2, ts, hrF, all _ _ hl4 lr, ⟨hQ4.1, fun i x y hx hy => all _ _ (hQ4.2 i x y hx hy) (ne_of (hQ4.2 i x y hx hy) hr4 (by intro z; cases z))⟩,
    all7 _ _ hD7 (ne_of hD7 hr7 (by intro z; cases z)), R.len, fun v t h => all7 _ _ (ht7 v t h) (ne_of (ht7 v t h) hr7 (by intro z; cases z)), kF _ _ tw.hA (ne_of tw.hA hr8 (by intro z; cases z)), kF _ _ tw.hL (ne_of tw.hL hr8 (by intro z; cases z))⟩)
end
end TR

namespace TR
open PySem PySem.Spec PyProof.Rows L2 L2.TT StX ClX
def spRail (C : Addr) : Sp := fun vs H Q _ => ∃ (r dx : Addr) (ps : List Addr) (tr : List E2), vs = .ref r :: ps.map V.ref ∧ H r = some (.ins C dx []) ∧ Prs H ps tr ∧ TreeL tr ∧ tr.length ≤ 99 ∧
  ∀ (H' : Hp), (∀ b o, H b = some o → b ≠ r → H' b = some o) → RailAt C H' r (nrmS tr) → Q .non H'
def spRof (C : Addr) : Sp := fun vs H Q _ => ∃ (a : Addr) (ps : List Addr) (tr : List E2), vs = [.ref C, .ref a] ∧ H a = some (.tup (ps.map V.ref)) ∧ Prs H ps tr ∧ TreeL tr ∧ tr.length ≤ 99 ∧
  ∀ (r : Addr) (H' : Hp), H r = none → Same H H' → RailAt C H' r (nrmS tr) → Q (.ref r) H'
def spSize (C : Addr) : Sp := fun vs H Q _ => ∃ (r : Addr) (tr : List E2), vs = [.ref r] ∧ RailAt C H r tr ∧ Q (.int ((tr.length : Int) + 1)) H
def spIsSt (C : Addr) (K : PySem.W.Frag) : Sp := fun vs H Q _ => ∃ (r : Addr) (tr : List E2) (v : V), vs = [.ref r, v] ∧ RailAt C H r tr ∧ IV K H v ∧ Q (.bl (inR v 0 tr.length)) H
def spChkSt (C : Addr) : Sp := fun vs H Q _ => ∃ (r : Addr) (tr : List E2) (v : Nat), vs = [.ref r, iv v] ∧ RailAt C H r tr ∧ v ≤ tr.length ∧ Q .non H
section
variable {P : Program} {w : World} {K : PySem.W.Frag} {mg : Str → Option Value} {base : Heap}
theorem fn_init {f fF fN fP C : Addr} {fd fdF fdN fdP : FuncData} (F : Fun K "__init__" "Railway.__init__" s_Railway_init f fd) (N : Nm mg) (X : TxtR K mg C) (UF : Use P w K mg base CX0 4 "first_wrong_track" fF fdF ["tracks"] (spFirst K)) (UN : Use P w K mg base CX0 1 "_neighbours_of" fN fdN ["tracks"] (spNbs K))
    (UP : Use P w K mg base CX0 1 "_places_below_first" fP fdP ["neighbours"] (spPlaces K)) : FnR P w K mg base CX0 5 f (spRail C) := by
  obtain ⟨oc, od, kV, doc, pm, an, cdv, ct, osl, rfl, lk, hcd⟩ := F.ex
  have G := fn_star (P := P) (w := w) (mg := mg) (base := base) (CX := CX0) (k := 4) (ps := ["self"]) (pv := "tracks") (N := NRi) (sp := spRI C K) lk hcd sc_ri cxUp_none (bind_star1 (B := fun vs => bindArgs (PySem.W.fnOf "__init__" "Railway.__init__" (defArgs s_Railway_init) (defBody s_Railway_init) (defScope s_Railway_init) .none kV doc pm an cdv ct) ⟨vs, []⟩) (p1 := "self") (pv := "tracks") (fun a => rfl) (fun a r rs => rfl))
    (fun A outer s H vs Q E hr h => by
      obtain ⟨t, h1, h2⟩ := body_ri (f := f) N X UF UN UP cdv A outer s H vs Q E hr h
      exact ⟨t, h1.nox, h2⟩)
  refine G.imp fun vs H Q E h => ?_
  obtain ⟨r, dx, ps, tr, rfl, hr, hP, T, hl, k⟩ := h
  refine ⟨[.ref r], ps.map V.ref, rfl, rfl, by rw [List.length_map, hP.1, sizeLine_eq]; omega, fun p np => ?_⟩
  have s0 := same_upd np (.tup (ps.map V.ref))
  have rp : r ≠ p := ne_of_none hr np
  refine ⟨r, dx, p, ps, tr, rfl, s0 _ _ hr, SqT.of upd_same, hP.same s0, T, hl, fun H' kp R => ?_⟩
  exact k H' (fun b o e ne => kp b o (s0 _ _ e) ne) R
theorem sc_rof : FnScope ["cls", "tracks"] ["cls", "tracks"] (defScope s_Railway_of) := ⟨rfl, rfl, rfl, by decide +kernel, rfl, by decide +kernel, by decide +kernel⟩
theorem ok_rof {f fI C : Addr} {fd : FuncData} (F : Fun K "of" "Railway.of" s_Railway_of f fd) (N : Nm mg) (M : Mk K C fI) (FI : FnR P w K mg base CX0 5 fI (spRail C)) : FnOk P w K mg base CX0 7 f fd ["cls", "tracks"] (spRof C) := by
  refine F.ok sc_rof (fun vs H Q E h => ?_) (fun cdv A outer s H vs Q E hr h => ?_)
  · obtain ⟨a, ps, tr, rfl, _⟩ := h
    rfl
  · obtain ⟨a, ps, tr, rfl, ha, hP, T, hl, k⟩ := h
    refine ⟨_, pss_cons (ps_if (pt_not (pt_val (pe_callB call_isi (by rfl) N.isi boot_isinstance (pa_cons (pv 1) (pa_cons (pe_bltn (v := .ty "tuple") (by rfl) N.tuple (by decide +kernel) rfl) pa_nil))))) pss_never pss_nil)
      (pss_one (ps_ret (pe_makeLS (i := 0) M FI hr rfl (.inl rfl) pass0 (pv 1)))), ?_⟩
    refine ⟨_, rfl, _, _, _, _, true, rfl, .ty _, .base (.tup ha), tup_tup, true, rfl, ?_⟩
    refine iteF ?_
    refine ⟨rfl, _, rfl, a, _, rfl, .inl (SqT.of ha), fun o dx no ndx ne => ?_⟩
    have s1 : Same H (upd (upd H dx (.own o)) o (.ins C dx [])) := fun b u e => by
      rw [upd_ne (ne_of_none e no), upd_ne (ne_of_none e ndx)]
      exact e
    refine ⟨o, dx, ps, tr, rfl, upd_same, hP.same s1, T, hl, fun H' kp R => ⟨rfl, ?_⟩⟩
    exact k o H' no (fun b u e => kp b u (s1 _ _ e) (ne_of_none e no)) R
theorem sc_size : FnScope ["self"] ["self"] (defScope s_Railway_size) := ⟨rfl, rfl, rfl, by decide +kernel, rfl, by decide +kernel, by decide +kernel⟩
theorem ok_size {f C : Addr} {fd : FuncData} (F : Fun K "size" "Railway.size" s_Railway_size f fd) (N : Nm mg) (X : TxtR K mg C) : FnOk P w K mg base CX0 1 f fd ["self"] (spSize C) := by
  refine F.ok sc_size (fun vs H Q E h => ?_) (fun cdv A outer s H vs Q E hr h => ?_)
  · obtain ⟨r, tr, rfl, _⟩ := h
    rfl
  · obtain ⟨r, tr, rfl, R, k⟩ := h
    obtain ⟨T, few, dx, tt, na, Aa, L, ps, ts, h1, h2, h3, h4, h5, h6, h7, h8⟩ := R
    refine ⟨_, pss_one (ps_ret (pe_callB call_len_seq (by rfl) N.len PySem.boot_len (pa_cons (pe_fld (pv 0) rfl) pa_nil))), ?_⟩
    refine ⟨_, rfl, r, C, dx, _, _, rfl, h1, X.cl, X.nN, flR_n, na, _, rfl, .inl (SqL.of h4), ?_⟩
    rw [List.length_map, h5]
    exact k
/-- the property size as a rule -/
structure SizeOf (P : Program) (w : World) (K : PySem.W.Frag) (mg : Str → Option Value) (base : Heap) (C p g : Addr) (fd : FuncData) : Prop where
  cl : Cls K C
  hp : PropOf K C "size" p g
  G : FnOk P w K mg base CX0 1 g fd ["self"] (spSize C)
  b : Binds K fd ["self"] []
theorem sc_isst : FnScope ["railway", "value"] ["railway", "value"] (defScope s_is_station) := ⟨rfl, rfl, rfl, by decide +kernel, rfl, by decide +kernel, by decide +kernel⟩
theorem ok_isst {f fI C p g : Addr} {fd fdI fdS : FuncData} (F : Fun K "is_station" "is_station" s_is_station f fd) (U : Use P w K mg base CX0 2 "is_number_from" fI fdI ["value", "least", "greatest"] (spNumFrom K)) (Z : SizeOf P w K mg base C p g fdS) : FnOk P w K mg base CX0 3 f fd ["railway", "value"] (spIsSt C K) := by
  refine F.ok sc_isst (fun vs H Q E h => ?_) (fun cdv A outer s H vs Q E hr h => ?_)
  · obtain ⟨r, tr, v, rfl, _⟩ := h
    rfl
  · obtain ⟨r, tr, v, rfl, R, hv, k⟩ := h
    refine ⟨_, pss_one (ps_ret (pe_use U hr rfl (pa_cons (pv 1) (pa_cons pe_int (pa_cons (pe_op op_sub (pe_prop (pv 0) Z.cl Z.hp Z.G (hr.mono (by decide)) Z.b .nil pass0 rfl) pe_int) pa_nil))))), ?_⟩
    obtain ⟨T, few, dx, tt, na, Aa, L, ps, ts, h1, h2⟩ := id R
    refine ⟨_, rfl, _, rfl, r, dx, _, rfl, h1, r, tr, rfl, R, _, _, rfl, rfl, v, 0, _, rfl, hv, ?_⟩
    rw [show (tr.length : Int) + 1 - 1 = tr.length by omega]
    exact k
theorem sc_chk : FnScope ["railway", "station"] ["railway", "station"] (defScope s_check_station) := ⟨rfl, rfl, rfl, by decide +kernel, rfl, by decide +kernel, by decide +kernel⟩
theorem ok_chk {f fI C : Addr} {fd fdI : FuncData} (F : Fun K "check_station" "check_station" s_check_station f fd) (U : Use P w K mg base CX0 3 "is_station" fI fdI ["railway", "value"] (spIsSt C K)) : FnOk P w K mg base CX0 4 f fd ["railway", "station"] (spChkSt C) := by
  refine F.ok sc_chk (fun vs H Q E h => ?_) (fun cdv A outer s H vs Q E hr h => ?_)
  · obtain ⟨r, tr, v, rfl, _⟩ := h
    rfl
  · obtain ⟨r, tr, v, rfl, R, hv, k⟩ := h
    refine ⟨_, pss_one (ps_if (pt_not (pt_val (pe_use U hr rfl (pa_cons (pv 0) (pa_cons (pv 1) pa_nil))))) pss_never pss_nil), ?_⟩
    refine ⟨_, rfl, _, rfl, r, tr, _, rfl, R, .inl ⟨_, rfl⟩, _, rfl, ?_⟩
    have e : inR (iv v) 0 tr.length = true := by
      show (decide ((0 : Int) ≤ (v : Int)) && decide ((v : Int) ≤ (tr.length : Int))) = true
      rw [Bool.and_eq_true]
      exact ⟨decide_eq_true (by omega), decide_eq_true (by omega)⟩
    rw [e]
    exact iteF k
end
end TR

namespace TR
open PySem PySem.Spec PyProof.Rows L2 L2.TT StX ClX
theorem at_last {l : List Nat} {x : Nat} : atI ((l ++ [x]).map iv) (-1) = some (iv x) := by
  have e : ixN ((l ++ [x]).map iv).length (-1) = some l.length := by
    unfold ixN
    rw [if_neg (by omega), if_pos (by rw [List.length_map, List.length_append, List.length_singleton]; omega), List.length_map, List.length_append, List.length_singleton]
    have : ((-1 : Int) + ((l.length + 1 : Nat) : Int)).toNat = l.length := by omega
    rw [this]
  unfold atI
  rw [e]
  show ((l ++ [x]).map iv)[l.length]? = _
  rw [List.map_append, List.getElem?_append_right (by rw [List.length_map]; exact Nat.le_refl _), List.length_map, Nat.sub_self]
  rfl
def spPath (C : Addr) : Sp := fun vs H Q _ => ∃ (r : Addr) (tr : List E2) (a b : Nat), vs = [.ref r, iv a, iv b] ∧ RailAt C H r tr ∧ a ≤ tr.length ∧ b ≤ tr.length ∧
  ∀ (l : List Nat) (p : Addr) (H' : Hp), SW tr a b l → Same H H' → H p = none → H' p = some (.tup (l.map iv)) → Q (.ref p) H'
section
variable {P : Program} {w : World} {K : PySem.W.Frag} {mg : Str → Option Value} {base : Heap}
theorem sc_path : FnScope ["self", "one", "other", "front", "back"] ["self", "one", "other"] (defScope s_Railway_path) := ⟨rfl, rfl, rfl, by decide +kernel, rfl, by decide +kernel, by decide +kernel⟩
theorem ok_path {f fc C : Addr} {fd fdc : FuncData} (F : Fun K "path" "Railway.path" s_Railway_path f fd) (N : Nm mg) (X : TxtR K mg C) (U : Use P w K mg base CX0 4 "check_station" fc fdc ["railway", "station"] (spChkSt C)) : FnOk P w K mg base CX0 5 f fd ["self", "one", "other"] (spPath C) := by
  refine F.ok sc_path (fun vs H Q E h => ?_) (fun cdv A outer s H vs Q E hr h => ?_)
  · obtain ⟨r, tr, a, b, rfl, _⟩ := h
    rfl
  · obtain ⟨r, tr, a, b, rfl, R, ha, hb, k⟩ := h
    refine ⟨_, pss_cons (ps_expr (pe_use U hr rfl (pa_cons (pv 0) (pa_cons (pv 1) pa_nil))))
      (pss_cons (ps_expr (pe_use U hr rfl (pa_cons (pv 0) (pa_cons (pv 2) pa_nil))))
      (pss_cons (ps_set (i := 3) sc_path.nd rfl (.inl rfl) (pe_lst (pa_cons (pv 1) pa_nil)))
      (pss_cons (ps_set (i := 4) sc_path.nd rfl (.inl rfl) (pe_lst (pa_cons (pv 2) pa_nil)))
      (pss_cons (ps_while PassesOwn.never (pt_cmpR op_ne (pe_ix ix_list (pv 3) (pe_un un_neg pe_int) (fun _ _ => rfl)) (pe_ix ix_list (pv 4) (pe_un un_neg pe_int) (fun _ _ => rfl)) (nomark _))
        (pss_one (ps_if (pt_cmpR op_gt (pe_ix ix_list (pe_fld (pv 0) rfl) (pe_ix ix_list (pv 3) (pe_un un_neg pe_int) (fun _ _ => rfl)) (fun _ _ => rfl)) (pe_ix ix_list (pe_fld (pv 0) rfl) (pe_ix ix_list (pv 4) (pe_un un_neg pe_int) (fun _ _ => rfl)) (fun _ _ => rfl)) (nomark _))
          (pss_one (ps_expr (pe_bm PySem.F.plainAttrs_list PySem.F.slot_list_append PySem.F.type_list_append mt_append (pv 3) (pa_cons (pe_ix ix_list (pe_fld (pv 0) rfl) (pe_ix ix_list (pv 3) (pe_un un_neg pe_int) (fun _ _ => rfl)) (fun _ _ => rfl)) pa_nil))))
          (pss_one (ps_expr (pe_bm PySem.F.plainAttrs_list PySem.F.slot_list_append PySem.F.type_list_append mt_append (pv 4) (pa_cons (pe_ix ix_list (pe_fld (pv 0) rfl) (pe_ix ix_list (pv 4) (pe_un un_neg pe_int) (fun _ _ => rfl)) (fun _ _ => rfl)) pa_nil)))))))
      (pss_cons (ps_expr (pe_bm0 PySem.F.plainAttrs_list PySem.F.slot_list_pop PySem.F.type_list_pop mt_pop (pv 4)))
      (pss_one (ps_ret (pe_callTy call_tuple_of (by rfl) N.tuple boot_tuple (pa_cons (pe_op op_cat (pv 3) (pe_revL (pv 4))) pa_nil)))))))))
      , ?_⟩
    obtain ⟨T, few, dx, tt, na, Aa, L, ps, ts, h1, h2, h3, h4, h5, h6, h7, h8⟩ := id R
    refine ⟨_, rfl, _, rfl, r, tr, a, rfl, R, ha, ?_⟩
    refine ⟨_, rfl, _, rfl, r, tr, b, rfl, R, hb, ?_⟩
    refine ⟨_, rfl, by show 1 ≤ sizeLine; rw [sizeLine_eq]; decide, fun fa nfa => ?_⟩
    refine ⟨_, rfl, by show 1 ≤ sizeLine; rw [sizeLine_eq]; decide, fun ba nba1 => ?_⟩
    have sf := same_upd nfa (.lst [iv a])
    have nba := sf.free nba1
    have s0 := sf.trans (same_upd nba1 (.lst [iv b]))
    have nfb : fa ≠ ba := fun z => by rw [← z, upd_same] at nba1; cases nba1
    have hf0 : upd (upd H fa (.lst [iv a])) ba (.lst [iv b]) fa = some (.lst [iv a]) := by rw [upd_ne nfb, upd_same]
    have hb0 := upd_same (H := upd H fa (.lst [iv a])) (a := ba) (o := .lst [iv b])
    generalize upd (upd H fa (.lst [iv a])) ba (.lst [iv b]) = H0 at s0 hf0 hb0
    refine ⟨fun m σ H' => ∃ (x y : Nat) (F B : List Nat), m = dep tr x + dep tr y ∧ σ = [some (.ref r), some (iv a), some (iv b), some (.ref fa), some (.ref ba)] ∧ Clb tr a b x y F B ∧ Same H H' ∧ H' fa = some (.lst ((F ++ [x]).map iv)) ∧ H' ba = some (.lst ((B ++ [y]).map iv)),
      ⟨_, a, b, [], [], rfl, rfl, Clb.start ha hb, s0, hf0, hb0⟩, ?_⟩
    clear sf nba1 s0 hf0 hb0 H0
    rintro m σ H1 ⟨x, y, F, B, rfl, rfl, c, s1, hf, hb1⟩
    have lx := c.lx
    have ly := c.ly
    refine ⟨_, rfl, _, rfl, fa, _, _, _, rfl, rfl, SqL.of hf, at_last, _, rfl, _, rfl, ba, _, _, _, rfl, rfl, SqL.of hb1, at_last, rfl, _, rfl, ?_⟩
    have hr1 := s1 _ _ h1
    have hA1 := s1 _ _ h7
    have hL1 := s1 _ _ h8
    refine ite2 (fun hc => ?_) (fun hc => ?_)
    · have ne : x ≠ y := fun z => by rw [z] at hc; simp at hc
      refine ⟨fun σ' H' => ∃ (x' y' : Nat) (F B : List Nat), dep tr x' + dep tr y' < dep tr x + dep tr y ∧ σ' = [some (.ref r), some (iv a), some (iv b), some (.ref fa), some (.ref ba)] ∧ Clb tr a b x' y' F B ∧ Same H H' ∧ H' fa = some (.lst ((F ++ [x']).map iv)) ∧ H' ba = some (.lst ((B ++ [y']).map iv)),
        fun σ' H' ⟨x', y', F, B, lt, e⟩ => ⟨_, lt, x', y', F, B, rfl, e⟩, ?_⟩
      refine ⟨_, rfl, r, C, dx, _, _, rfl, hr1, X.cl, X.nL, flR_l, _, rfl, _, rfl, fa, _, _, _, rfl, rfl, SqL.of hf, at_last, L, _, _, _, rfl, rfl, SqL.of hL1, atN (vec_get (by omega)), ?_⟩
      refine ⟨_, rfl, r, C, dx, _, _, rfl, hr1, X.cl, X.nL, flR_l, _, rfl, _, rfl, ba, _, _, _, rfl, rfl, SqL.of hb1, at_last, L, _, _, _, rfl, rfl, SqL.of hL1, atN (vec_get (by omega)), _, _, rfl, rfl, _, rfl, ?_⟩
      refine ite2 (fun hd => ?_) (fun hd => ?_)
      · have hlt : dep tr y < dep tr x := by
          have := of_decide_eq_true hd
          omega
        obtain ⟨q1, q2, c2⟩ := c.up1 T ne hlt
        have ep : p0 tr x = par tr x := by unfold p0; rw [if_neg (by omega)]
        refine ⟨_, rfl, .inl ⟨rfl, _, SqL.of hf⟩, _, rfl, r, C, dx, _, _, rfl, hr1, X.cl, X.nA, flR_a, _, rfl, _, rfl, fa, _, _, _, rfl, rfl, SqL.of hf, at_last, Aa, _, _, _, rfl, rfl, SqL.of hA1, atN (vec_get (by omega)), _, _, _, rfl, rfl, hf, ?_, ?_⟩
        · have h9 : (F ++ [x]).length ≤ tr.length + 1 := nd_len c.nf fun z hz => by
            rcases mem_snoc.mp hz with hz | rfl
            · exact c.lf z hz
            · exact lx
          rw [List.length_map, sizeLine_eq]
          omega
        · refine ⟨par tr x, y, F ++ [x], B, by omega, rfl, c2, same_old s1 nfa _, ?_, by rw [upd_ne nfb.symm]; exact hb1⟩
          rw [upd_same, ep, List.map_append (l₁ := F ++ [x])]
          rfl
      · have hlt : ¬ dep tr y < dep tr x := by
          intro z
          apply hd
          exact decide_eq_true (by show ((dep tr y : Nat) : Int) < ((dep tr x : Nat) : Int); omega)
        obtain ⟨q1, q2, c2⟩ := c.up2 T ne hlt
        have ep : p0 tr y = par tr y := by unfold p0; rw [if_neg (by omega)]
        refine ⟨_, rfl, .inl ⟨rfl, _, SqL.of hb1⟩, _, rfl, r, C, dx, _, _, rfl, hr1, X.cl, X.nA, flR_a, _, rfl, _, rfl, ba, _, _, _, rfl, rfl, SqL.of hb1, at_last, Aa, _, _, _, rfl, rfl, SqL.of hA1, atN (vec_get (by omega)), _, _, _, rfl, rfl, hb1, ?_, ?_⟩
        · have h9 : (B ++ [y]).length ≤ tr.length + 1 := nd_len c.nb fun z hz => by
            rcases mem_snoc.mp hz with hz | rfl
            · exact c.lb z hz
            · exact ly
          rw [List.length_map, sizeLine_eq]
          omega
        · refine ⟨x, par tr y, F, B ++ [y], by omega, rfl, c2, same_old s1 nba _, by rw [upd_ne nfb]; exact hf, ?_⟩
          rw [upd_same, ep, List.map_append (l₁ := B ++ [y])]
          rfl
    · have e : x = y := by
        by_cases z : x = y
        · exact z
        · exfalso
          apply hc
          have : ¬ (iv x = iv y) := fun q => z (iv_inj.mp q)
          simp [this]
      subst e
      have sw := c.done
      have hlen : (F ++ [x] ++ B.reverse).length ≤ tr.length + 1 := nd_len sw.nd fun z hz => by
        rcases List.mem_append.mp hz with hz | hz
        · rcases mem_snoc.mp hz with hz | rfl
          · exact c.lf z hz
          · exact lx
        · exact c.lb z (List.mem_reverse.mp hz)
      rw [List.length_append, List.length_reverse] at hlen
      have e1 : ((B ++ [x]).map iv).dropLast = B.map iv := by rw [List.map_append]; exact List.dropLast_concat
      have e2 : ((B ++ [x]).map iv)[((B ++ [x]).map iv).length - 1]? = some (iv x) := by
        rw [List.length_map, List.length_append, List.length_singleton, Nat.add_sub_cancel, List.map_append, List.getElem?_append_right (by rw [List.length_map]; exact Nat.le_refl _), List.length_map, Nat.sub_self]
        rfl
      refine ⟨_, rfl, .inl ⟨rfl, _, SqL.of hb1⟩, ba, _, _, rfl, rfl, hb1, e2, ?_⟩
      rw [e1]
      have s2 := same_old s1 nba (.lst (B.map iv))
      have hf2 : upd H1 ba (.lst (B.map iv)) fa = some (.lst ((F ++ [x]).map iv)) := by rw [upd_ne nfb]; exact hf
      have hb2 := upd_same (H := H1) (a := ba) (o := .lst (B.map iv))
      generalize upd H1 ba (.lst (B.map iv)) = H2 at s2 hf2 hb2
      refine ⟨_, rfl, _, rfl, ba, _, rfl, SqL.of hb2, fun p np => ?_⟩
      refine ⟨fa, p, _, _, rfl, rfl, same_upd np _ _ _ hf2, upd_same, ?_, fun q nq => ?_⟩
      · rw [List.length_map, List.length_reverse, List.length_map, sizeLine_eq]
        omega
      refine ⟨q, _, rfl, .inl ⟨SqL.of upd_same, fun t nt => ?_⟩⟩
      refine k (F ++ [x] ++ B.reverse) t _ sw (((s2.trans (same_upd np _)).trans (same_upd nq _)).trans (same_upd nt _)) ?_ ?_
      · exact (s2.trans ((same_upd np _).trans (same_upd nq _))).free nt
      · rw [upd_same, List.map_append (l₁ := F ++ [x]), List.map_reverse]
end
end TR

namespace L2.TT
open PySem PySem.Spec PyProof.Rows PySem.W

/-- an exception stands at a: of the class at C, with these fields -/
def ExcAt (H : Hp) (a C : Addr) (fs : List (Str × V)) : Prop := ∃ d, H a = some (exo a C (some d)) ∧ H d = some (exd d fs)
theorem ExcAt.same {H H' : Hp} {a C : Addr} {fs : List (Str × V)} (e : ExcAt H a C fs) (s : Same H H') : ExcAt H' a C fs := by
  obtain ⟨d, h1, h2⟩ := e
  exact ⟨d, s _ _ h1, s _ _ h2⟩

section
variable {X : Cx} {pins : List (Addr × Obj)} {σ : St} {H : Hp} {s : Shared} {a C : Addr} {f : Str} {y : V} {u : Value} {Q : Unit → Shared → Prop} {E : Value → Shared → Prop} {A : Around} {B newId initId : String} {bmB : List Value}
/-- self.f = y on an exception that is being made: its dict is laid -/
theorem xset_first (Y : XB B newId initId bmB) (T : XC X.K C bmB newId) (I : Inv X pins σ H s) (e : H a = some (exo a C none)) (hno : findIn X.K (.ref C) f = some none) (ry : RelV y u)
    (h : ∀ dx s', H dx = none → dx ≠ a → Inv X pins σ (upd (upd H dx (exd dx [(f, y)])) a (exo a C (some dx))) s' → Q () s') : wpAny (model X.prog X.w) A (setAttr (.ref a) f u) Q E s := by
  obtain ⟨t1, ho⟩ := exo_at I.hok e
  obtain ⟨hp, g, d, t, os⟩ := s
  refine set_plain I.kIn (ox := excObj C t1 none .none) (od := none) ⟨ho, rfl, rfl, trivial⟩ T.sa ?_
  refine osa_first Y T I.kIn ho hno (fun h' tk' hn hs => ?_)
  have nda : hp.objs.size ≠ a := (Nat.ne_of_lt (Heap.lt_size ho)).symm
  have fr : H hp.objs.size = none := I.hok.fresh (Nat.le_refl _)
  -- the dict, empty
  have n0 : (hp.push (dictOf [] 0)).Ns1 hp.objs.size (fun _ => none) := Heap.Ns1.of_empty ⟨_, #[], _, Heap.get?_push_at rfl rfl, rfl, fun e he => absurd he (by simp), fun _ => rfl⟩
  have I1 := I.laid (t' := t) (a := hp.objs.size) (o := exd hp.objs.size []) (h' := hp.push (dictOf [] 0)) (fun b o e => Heap.get?_push_of_some _ e) (Nat.le_refl _) (exd_ok n0 fun _ => True.intro)
  have ho1 : (hp.push (dictOf [] 0)).get? a = some (excObj C t1 none .none) := Heap.get?_push_of_some _ ho
  have hx2 : (dictLaid hp a).get? a = some (excObj C t1 (some hp.objs.size) .none) := Heap.get?_update_self _ ho1 rfl
  have ea1 : upd H hp.objs.size (exd hp.objs.size []) a = some (exo a C none) := by rw [upd_ne nda.symm]; exact e
  have I2 := I1.write (t' := t) (x := a) (e := a) (o := exo a C (some hp.objs.size)) (h' := dictLaid hp a) (by rw [ea1]; exact True.intro) (.inl rfl) (fun b o hb e => (Heap.get?_update_ne _ _ _ _ hb).trans e) ⟨_, hx2⟩ (exo_ok hx2)
  have ed2 : upd (upd H hp.objs.size (exd hp.objs.size [])) a (exo a C (some hp.objs.size)) hp.objs.size = some (exd hp.objs.size []) := by rw [upd_ne nda, upd_same]
  have I3 := I2.write (t' := tk') (x := hp.objs.size) (e := hp.objs.size) (o := exd hp.objs.size [(f, y)]) (h' := h') (by rw [ed2]; exact True.intro) (.inl rfl) (fun b o hb e => (hs.2 b hb).trans e)
    (by obtain ⟨o, _, _, q, _⟩ := hn; exact ⟨o, q⟩) (exd_ok hn (relO_put (fs := []) ry fun g => True.intro))
  refine h hp.objs.size _ fr nda ?_
  have eq : upd (upd (upd H hp.objs.size (exd hp.objs.size [])) a (exo a C (some hp.objs.size))) hp.objs.size (exd hp.objs.size [(f, y)]) = upd (upd H hp.objs.size (exd hp.objs.size [(f, y)])) a (exo a C (some hp.objs.size)) := by
    funext b
    by_cases h1 : b = hp.objs.size
    · rw [h1, upd_same, upd_ne nda, upd_same]
    · rw [upd_ne h1]
      by_cases h2 : b = a
      · rw [h2, upd_same, upd_same]
      · rw [upd_ne h2, upd_ne h1, upd_ne h2, upd_ne h1]
  rw [← eq]
  exact I3
/-- self.f = y, a further field -/
theorem xset_more (Y : XB B newId initId bmB) (T : XC X.K C bmB newId) {dx : Addr} {fs : List (Str × V)} (I : Inv X pins σ H s) (e : H a = some (exo a C (some dx))) (ed : H dx = some (exd dx fs)) (hl : fs.length ≤ 900) (hno : findIn X.K (.ref C) f = some none) (ry : RelV y u)
    (h : ∀ s', Inv X pins σ (upd H dx (exd dx ((f, y) :: fs))) s' → Q () s') : wpAny (model X.prog X.w) A (setAttr (.ref a) f u) Q E s := by
  obtain ⟨t1, ho⟩ := exo_at I.hok e
  obtain ⟨mA, hns, rel⟩ := exd_at I.hok ed
  have hw := within_of rel
  obtain ⟨hp, g, d, t, os⟩ := s
  obtain ⟨oD, _, _, hoD, _, _⟩ := hns.count hw
  have ht : takerIn X.K C f = some none := by unfold takerIn; rw [hno]; rfl
  refine set_plain I.kIn (ox := excObj C t1 (some dx) .none) (od := some oD) ⟨ho, rfl, rfl, hoD⟩ T.sa ?_
  refine osa_openX (s := ⟨hp, g, d, t + 1, os⟩) (od := some oD) Y.st I.kIn ⟨ho, rfl, rfl, hoD⟩ T.ovr ht fun b => ?_
  obtain ⟨cd, hc, hd'⟩ := any_some T.hd
  refine wpAny_bind (wpAny_pure (wpAny_bind (wpAny_bind (wpAny_loadPart (s := ⟨hp, g, d, t + 1, os⟩) ho (wpAny_bind ((looks_clsIn (h := hp) I.kIn hc).at ?_))))))
  rw [hd']
  refine wpAny_pure (a := some dx) ?_
  refine OEX.store_in_old hns hw (by rw [List.length_map]; omega) fun h' tk' hn hs => ?_
  refine h _ (I.write (t' := tk') (x := dx) (e := dx) (o := exd dx ((f, y) :: fs)) (by rw [ed]; exact True.intro) (.inl rfl) (fun b o hb e => (hs.2 b hb).trans e) ?_ (exd_ok hn (relO_put ry rel)))
  obtain ⟨o, _, _, e', _⟩ := hn
  exact ⟨o, e'⟩
end

/-- self.f = e, self an exception that is being made -/
def tXst (K : Frag) (f : Str) (to te : TE) : TS := fun D σ H => te σ H fun y H1 => to σ H1 fun x H2 => ∃ (a C : Addr) (B newId initId : String) (bmB : List Value), x = .ref a ∧ XB B newId initId bmB ∧ XC K C bmB newId ∧ findIn K (.ref C) f = some none ∧
  ((H2 a = some (exo a C none) ∧ ∀ dx, H2 dx = none → dx ≠ a → D.nx σ (upd (upd H2 dx (exd dx [(f, y)])) a (exo a C (some dx)))) ∨
    ∃ (dx : Addr) (fs : List (Str × V)), H2 a = some (exo a C (some dx)) ∧ H2 dx = some (exd dx fs) ∧ fs.length ≤ 900 ∧ D.nx σ (upd H2 dx (exd dx ((f, y) :: fs))))
section
variable {X : Cx} {o e : Expr} {to te : TE} {f : Str} {p' pos : Pos}
theorem ps_xst (ho : PE X o to) (he : PE X e te) (hs : swapsWith e (some (.Attribute o f p')) pos.line X.env = pure false := by rfl) : PS X (.Assign [.Attribute o f p'] e pos) (tXst X.K f to te) := by
  refine ⟨fun pins s σ H D I h => ?_⟩
  refine plainObj_wpAny_Assign_Attribute (thn (he.run pins s σ H _ I h) fun v s1 ⟨y, H1, I1, r1, q1⟩ => thn (ho.run pins s1 σ H1 _ I1 q1) fun u s2 ⟨x, H2, I2, r2, a, C, B, newId, initId, bmB, ex, Y, T, hno, q⟩ => ?_) hs
  subst ex
  obtain rfl : u = Value.ref a := r2
  rcases q with ⟨ea, q⟩ | ⟨dx, fs, ea, ed, hl, q⟩
  · exact xset_first Y T I2 ea hno r1 fun dx s' n ne J => ⟨σ, _, J, q dx n ne⟩
  · exact xset_more Y T I2 ea ed hl hno r1 fun s' J => ⟨σ, _, J, q⟩
end

/-- the promise of an __init__ that stores its one argument -/
def spI1 (C : Addr) (f : Str) : Sp := fun vs H Q _ => ∃ (a : Addr) (y : V), vs = [.ref a, y] ∧ H a = some (exo a C none) ∧ ∀ d, H d = none → d ≠ a → Q .non (upd (upd H d (exd d [(f, y)])) a (exo a C (some d)))
/-- .. its two arguments -/
def spI2 (C : Addr) (f g : Str) : Sp := fun vs H Q _ => ∃ (a : Addr) (y z : V), vs = [.ref a, y, z] ∧ H a = some (exo a C none) ∧ ∀ d, H d = none → d ≠ a → Q .non (upd (upd H d (exd d [(g, z), (f, y)])) a (exo a C (some d)))
end L2.TT

namespace L2.TT
open PySem PySem.Spec PyProof.Rows PySem.W
open Builtin

/-! ### the call of an exception class with keywords -/
section
variable {prog : Program} {w : World} {A : Around} {E : Value → Shared → Prop} {R : Result → Shared → Prop} {h : Heap} {g : Array GenState} {d : Drawn} {t : Nat} {os : OsState}
variable {nm q : Str} {C N : Addr} {bs bm bmB : List Value} {hdct : Bool} {sn : List Str} {sub : List Value} {ab : Bool} {col : Option Bool} {dd : Option Addr} {k0 k1 k2 k3 k5 : Option Value} {B newId initId : String} {rest : List Value} {kw : List (Str × Value)}
theorem chk_call (hC : h.get? C = some (excClassObj nm q C N bs bm hdct sn sub ab col dd k0 k1 k2 k3 k5 newId)) {Q : Unit → Shared → Prop}
    (hq : Q () ⟨h, g, d, t, os⟩) : wpAny (model prog w) A (checkBuiltinCall "type.__call__" ⟨.ref C :: rest, kw⟩) Q E ⟨h, g, d, t, os⟩ := by
  have hTy : (⟨h, g, d, t, os⟩ : Shared).TypeIs (.ref C) "type" := ⟨_, hC, rfl⟩
  have f3 := tc_sub
  simp only [checkBuiltinCall, tc_kind, tc_split]
  repeat (any_goals (first | assumption | with_reducible refine wpAny_loadPart_at hC ?_ | with_reducible refine wpAny_onRaise ?_ | with_reducible refine wpAny_map ?_ | wp_step))

theorem chk_new (F : ExcBaseFacts B newId initId bmB) (hT : ∀ X : String, bm.contains (.type X) = bmB.contains (.type X)) {Q : Unit → Shared → Prop}
    (hC : h.get? C = some (excClassObj nm q C N bs bm hdct sn sub ab col dd k0 k1 k2 k3 k5 newId)) (hq : Q () ⟨h, g, d, t, os⟩) : wpAny (model prog w) A (checkBuiltinCall newId ⟨.ref C :: rest, kw⟩) Q E ⟨h, g, d, t, os⟩ := by
  have c1 : (Value.ref C :: bm).contains (.type B) = true := by rw [List.contains_cons, hT, F.hasB, Bool.or_true]
  have c2 := F.noStar
  simp only [checkBuiltinCall, F.newKind, F.newSplit, F.newRow]
  repeat (first | refine wpAny_loadPart_at hC ?_ | (refine wpAny_isSubtype_exc hC ?_; rw [c1]) | refine wpAny_staticBase_exc hC ?_ | refine wpAny_madeBy_exc hC ?_ | simp only [bne_self_eq_false, Bool.false_eq_true, if_false] | wp_step)
  exact hq
theorem run_new (F : ExcBaseFacts B newId initId bmB) (hT : ∀ X : String, bm.contains (.type X) = bmB.contains (.type X))
    (hC : h.get? C = some (excClassObj nm q C N bs bm hdct sn sub ab col dd k0 k1 k2 k3 k5 newId))
    (hq : R (.ok (.ret (.ref (h.objs.size + 1)))) ⟨(h.push (kdv_tup rest)).push (HandSPX.excO C h.objs.size), g, d, t, os⟩) (hrest : rest.length ≤ sizeLine) :
    codeAny (model prog w) A (.builtin newId ⟨.ref C :: rest, kw⟩) R ⟨h, g, d, t, os⟩ := by
  have c0 := F.ends
  have c1 : (Value.ref C :: bm).contains (.type B) = true := by rw [List.contains_cons, hT, F.hasB, Bool.or_true]
  have c2 : (Value.ref C :: bm).contains (.type "AttributeError") = false := by rw [List.contains_cons, hT, F.noAttr]; rfl
  have c3 : (Value.ref C :: bm).contains (.type "NameError") = false := by rw [List.contains_cons, hT, F.noName]; rfl
  refine codeAny_builtinAt F.entry ?_
  unfold Builtin.«BaseException.__new__»
  refine PySem.wpAt_bind ?_
  show PySem.wpAt _ _ _ (stack >>= _) _ _ _
  refine PySem.wpAt_bind (PySem.wpAt_stack fun p below => PySem.wpAt_of_wpAny ?_)
  wp_walk
  refine PySem.wpAt_of_wpAny ?_
  rw [F.owner]
  repeat (first | with_reducible refine wpAny_madeHere_exc F.canon hC ?_ | with_reducible refine wpAny_loadPart_at hC ?_ | (with_reducible refine wpAny_isSubtype_exc hC ?_; first | rw [c1] | rw [c2] | rw [c3]) | wp_step)
  show R _ _
  rw [Heap.size_push]
  exact hq
theorem typ_call (F : ExcBaseFacts B newId initId bmB) (hT : ∀ X : String, bm.contains (.type X) = bmB.contains (.type X)) {fI : Addr} {Q : Fin → Shared → Prop}
    (hC : h.get? C = some (excClassObj nm q C N bs bm hdct sn sub ab col dd k0 k1 k2 k3 k5 newId))
    (hi : Looks (model prog w) h (typeLookup (.ref C) "__init__") (some (.ref fI))) (hb : ∀ self, Looks (model prog w) h (bindSpecial (.ref fI) self) (.ref fI, [self])) (hrest : rest.length ≤ sizeLine)
    (hq : codeAny (model prog w) A (.call (.ref fI) ⟨.ref (h.objs.size + 1) :: rest, kw⟩)
      (fun r s' => match r with | .ok (.ret v) => v = .none ∧ Q (.done (.ret (.ref (h.objs.size + 1)))) s' | .ok _ => False | .error e => E e s')
      ⟨(h.push (kdv_tup rest)).push (HandSPX.excO C h.objs.size), g, d, t, os⟩) :
    wpAny (model prog w) A (Builtin.«type.__call__» ⟨.ref C :: rest, kw⟩) Q E ⟨h, g, d, t, os⟩ := by
  repeat (first | with_reducible refine wpAny_loadPart_at hC ?_ | with_reducible refine wpAny_madeBy_exc hC ?_ | wp_step)
  refine codeAny_call_builtin_code (Code.quiet_builtin _ F.quiet) (chk_new F hT hC ?_)
  refine run_new F hT hC ?_ hrest
  show wpAny _ _ _ _ _ _
  have k : ∀ b o, h.get? b = some o → ((h.push (kdv_tup rest)).push (HandSPX.excO C h.objs.size)).get? b = some o := fun b o e => Heap.get?_push_of_some _ (Heap.get?_push_of_some _ e)
  have hC₁ := k _ _ hC
  have hget : ((h.push (kdv_tup rest)).push (HandSPX.excO C h.objs.size)).get? (h.objs.size + 1) = some (HandSPX.excO C h.objs.size) := by heap_get
  have hcC : (Value.ref C :: bm).contains (.ref C) = true := by simp
  have i1 := hi.keeps k
  have b1 := (hb (.ref (h.objs.size + 1))).keeps k
  unfold isInstance
  repeat (first | with_reducible refine wpAny_loadPart_at hget ?_ | (with_reducible refine wpAny_isSubtype_exc hC₁ ?_; rw [hcC]) | wp_step)
  show wpAny _ _ (typeLookup (.ref C) _) _ _ _
  refine i1.at ?_
  refine wpAny_holding (wpAny_bind (b1.at ?_))
  refine wpAny_bind (wpAny_call (codeAny_mono hq fun r s' z => ?_))
  rcases r with e | (v | _ | _ | _) <;> first | exact z | exact z.elim | skip
  obtain ⟨rfl, z⟩ := z
  first
    | exact wpAny_pure (wpAny_pure z)
    | (wp_walk; exact z)
theorem call_exc (F : ExcBaseFacts B newId initId bmB) (hT : ∀ X : String, bm.contains (.type X) = bmB.contains (.type X)) {fI : Addr}
    (hC : h.get? C = some (excClassObj nm q C N bs bm hdct sn sub ab col dd k0 k1 k2 k3 k5 newId))
    (hi : Looks (model prog w) h (typeLookup (.ref C) "__init__") (some (.ref fI))) (hb : ∀ self, Looks (model prog w) h (bindSpecial (.ref fI) self) (.ref fI, [self])) (hrest : rest.length ≤ sizeLine)
    (hq : codeAny (model prog w) (A.under (.builtin "type.__call__" ⟨.ref C :: rest, kw⟩)) (.call (.ref fI) ⟨.ref (h.objs.size + 1) :: rest, kw⟩) (InitBack (h.objs.size + 1) R)
      ⟨(h.push (kdv_tup rest)).push (HandSPX.excO C h.objs.size), g, d, t, os⟩) :
    codeAny (model prog w) A (.call (.ref C) ⟨rest, kw⟩) R ⟨h, g, d, t, os⟩ := by
  have f1 := tc_lookup
  have f2 := tc_bind (.ref C)
  have hTy : (⟨h, g, d, t, os⟩ : Shared).TypeIs (.ref C) "type" := ⟨_, hC, rfl⟩
  refine codeAny_of_tree ?_
  show wpAny _ _ (callAny (.ref C) _) _ _ _
  repeat (any_goals (first | assumption | with_reducible refine wpAny_loadPart_at hC ?_ | wp_step))
  refine ⟨rfl, ?_⟩
  refine codeAny_call_builtin_at (Code.quiet_builtin _ (by decide +kernel)) entry_typeCall (chk_call hC (typ_call F hT hC hi hb hrest ?_))
  refine codeAny_mono hq fun r s' z => ?_
  rcases r with e | (v | _ | _ | _) <;> exact z
end
end L2.TT

namespace L2.TT
open PySem PySem.Spec PyProof.Rows PySem.W

/-! ### C(e, ..), C(k = v, ..): a new exception as a value -/
section
variable {X : Cx} {CX : CXT} {k n : Nat} {f C : Addr} {fd : FuncData} {ps ks : List Str} {sp : Sp} {E : XK} {x : Str} {p pos : Pos} {e : Expr} {es : List Expr} {kws : List Keyword} {ta tk : TA} {g : List Value → List Value → List Value} {gV : List V → List V → List V}
variable {B newId initId : String} {bmB : List Value}
/-- the new exception's __init__ is run -/
theorem run_xmk {pins : List (Addr × Obj)} {σ : St} {H : Hp} {s : Shared} {Q : VK} {us ws its : List Value} {zs : List V} (Y : XB B newId initId bmB) (T : XC X.K C bmB newId) (iC : findIn X.K (.ref C) "__init__" = some (some (.ref f))) (tI : typeIn X.K (.ref f) = some (.type "function"))
    (F : FnOk X.prog X.w X.K X.mg X.base CX k f fd ps sp) (hr : Room (k + 1) X.A) (hx : Passes CX X E) (I : Inv X pins σ H s) (hus : us.length ≤ sizeLine)
    (hb : ∀ (s : Shared) (a : Addr), X.K.In s.heap → BindsTo s fd ⟨.ref a :: us, ks.zip ws⟩ (ps.zip (.ref a :: its))) (r : Vals zs its)
    (h : ∀ a, H a = none → sp (.ref a :: zs) (upd H a (exo a C none)) (fun v H2 => v = .non ∧ Q (.ref a) H2) E) :
    wpAny (model X.prog X.w) X.A (call (.ref C) us (ks.zip ws)) (EP X pins σ Q) X.xe s := by
  obtain ⟨nm, N, qn, bs, bm, hdct, sn, sub, ab, col, dd, k0, k1, k2, k3, k5, hC, hT⟩ := excInit_of I.kIn T.ini
  obtain ⟨hp, g, dr, tk, os⟩ := s
  have hsz : hp.objs.size ≤ hp.objs.size + 1 := Nat.le_succ _
  have hn : H (hp.objs.size + 1) = none := I.hok.fresh hsz
  have hq := h (hp.objs.size + 1) hn
  have kk : ∀ b o, hp.get? b = some o → ((hp.push (kdv_tup us)).push (HandSPX.excO C hp.objs.size)).get? b = some o := fun b o e => Heap.get?_push_of_some _ (Heap.get?_push_of_some _ e)
  have hget : ((hp.push (kdv_tup us)).push (HandSPX.excO C hp.objs.size)).get? (hp.objs.size + 1) = some (HandSPX.excO C hp.objs.size) := by heap_get
  have I2 : Inv X pins σ (upd H (hp.objs.size + 1) (exo (hp.objs.size + 1) C none)) ⟨(hp.push (kdv_tup us)).push (HandSPX.excO C hp.objs.size), g, dr, tk, os⟩ :=
    I.laid (t' := tk) (a := hp.objs.size + 1) (o := exo (hp.objs.size + 1) C none) (h' := (hp.push (kdv_tup us)).push (HandSPX.excO C hp.objs.size)) kk hsz (exo_ok hget)
  have r2 : Vals (V.ref (hp.objs.size + 1) :: zs) (Value.ref (hp.objs.size + 1) :: its) := .cons rfl r
  refine wpAny_call (call_exc Y.ex hT hC (looks_findIn I.kIn iC) (fun self => bind_fn I.kIn self tI) hus
    (codeAny_mono (F.run _ X.stack _ _ ⟨Value.ref (hp.objs.size + 1) :: us, ks.zip ws⟩ (Value.ref (hp.objs.size + 1) :: its) _ _ E (hr.make C us (ks.zip ws)) (I2.env0.make C us (ks.zip ws)) (hb _ _ I2.kIn) r2 hq) fun r s' hq' => ?_))
  cases r with
  | error er => exact hx pins σ _ _ er s' I2 hq'
  | ok fl =>
    cases fl with
    | ret u =>
      obtain ⟨v, H2, I3, rv, ev, q2⟩ := I2.after hq'
      subst ev
      exact ⟨rv, .ref (hp.objs.size + 1), H2, I3, rfl, q2⟩
    | next => exact False.elim hq'
    | brk => exact False.elim hq'
    | cont => exact False.elim hq'
/-- C(e, ..) -/
def tXmk (C : Addr) (sp : Sp) (dvs : List V) (E : XK) (ta : TA) : TE := fun σ H Q => ta σ H fun vs H1 => vs.length ≤ 1000 ∧ ∀ a, H1 a = none → sp (.ref a :: (vs ++ dvs)) (upd H1 a (exo a C none)) (fun v H2 => v = .non ∧ Q (.ref a) H2) E
theorem small_of {us : List Value} {vs : List V} (r : Vals vs us) (h : vs.length ≤ 1000) : us.length ≤ sizeLine := by
  rw [← r.length, sizeLine_eq]
  omega
theorem pe_xmk {ds : List Value} {dvs : List V} (Y : XB B newId initId bmB) (T : XC X.K C bmB newId) (iC : findIn X.K (.ref C) "__init__" = some (some (.ref f))) (tI : typeIn X.K (.ref f) = some (.type "function"))
    (F : FnOk X.prog X.w X.K X.mg X.base CX k f fd ps sp) (hr : Room (k + 1) X.A) (hb : Binds X.K fd ps ds) (hd : Vals dvs ds) (hx : Passes CX X E) (hg : Gl X x) (hm : X.mg x = some (.ref C)) (ha : PA X (e :: es) ta)
    (hdb : (x == ("__debug__" : Str)) = false := by decide) (he : starEach (e :: es) X.env = (false, eval e X.env) :: starEach es X.env := by rfl) (hpl : (backTo pos (starEach es X.env)).any (·.1) = false := by rfl) :
    PE X (.Call (.Name x p) (e :: es) [] pos) (tXmk C sp dvs E ta) := by
  refine ⟨fun pins s σ H Q I h => ?_⟩
  refine wpAny_Call_Name_kw (ld_glob I hg hm ?_ hdb)
  refine callWith_K (h₀ := X.base) I.ok.mod.kin T.kp (thn (ha.run pos pins s σ H _ I h) fun us s1 ⟨vs, H1, I1, r1, hz, q1⟩ => ⟨I1.kIn, ?_⟩) he hpl
  have hlen : (vs ++ dvs).length + 1 = ps.length := by
    have := F.len _ _ _ _ (q1 _ (I1.hok.fresh (Nat.le_refl _)))
    rw [List.length_cons] at this
    exact this
  refine run_xmk (ks := []) (ws := []) (us := us) (its := us ++ ds) (zs := vs ++ dvs) Y T iC tI F hr hx I1 (small_of r1 hz) (fun s a X0 => ?_) (r1.append hd) q1
  exact hb s (.ref a :: us) X0 (by
    have := (r1.append hd).length
    rw [List.cons_append, List.length_cons, ← this]
    exact hlen)
/-- C(), the defaults fill up -/
theorem pe_xmk0 {ds : List Value} {dvs : List V} (Y : XB B newId initId bmB) (T : XC X.K C bmB newId) (iC : findIn X.K (.ref C) "__init__" = some (some (.ref f))) (tI : typeIn X.K (.ref f) = some (.type "function"))
    (F : FnOk X.prog X.w X.K X.mg X.base CX k f fd ps sp) (hr : Room (k + 1) X.A) (hb : Binds X.K fd ps ds) (hd : Vals dvs ds) (hx : Passes CX X E) (hg : Gl X x) (hm : X.mg x = some (.ref C))
    (hdb : (x == ("__debug__" : Str)) = false := by decide) :
    PE X (.Call (.Name x p) [] [] pos) (tXmk C sp dvs E tNil) := by
  refine ⟨fun pins s σ H Q I h => ?_⟩
  obtain ⟨hz, q1⟩ := h
  refine wpAny_Call_Name_kw (ld_glob I hg hm ?_ hdb)
  refine callWith_K0 I.kIn T.kp ?_
  have hlen : dvs.length + 1 = ps.length := by
    have := F.len _ _ _ _ (q1 _ (I.hok.fresh (Nat.le_refl _)))
    rw [List.length_cons] at this
    exact this
  refine run_xmk (ks := []) (ws := []) (us := []) (its := ds) (zs := dvs) Y T iC tI F hr hx I (Nat.zero_le _) (fun s a X0 => ?_) hd q1
  exact hb s [.ref a] X0 (by
    have := hd.length
    rw [List.length_append, ← this, List.length_singleton, Nat.add_comm]
    exact hlen)
/-- C(k = v, ..) -/
def tXmkK (C : Addr) (m : Nat) (sp : Sp) (gV : List V → List V) (E : XK) (tk : TA) : TE := fun σ H Q => tk σ H fun zs H1 => zs.length = m ∧ ∀ a, H1 a = none → sp (.ref a :: gV zs) (upd H1 a (exo a C none)) (fun v H2 => v = .non ∧ Q (.ref a) H2) E
theorem pe_xmkK {gg : List Value → List Value} {hV : List V → List V} (Y : XB B newId initId bmB) (T : XC X.K C bmB newId) (iC : findIn X.K (.ref C) "__init__" = some (some (.ref f))) (tI : typeIn X.K (.ref f) = some (.type "function"))
    (F : FnOk X.prog X.w X.K X.mg X.base CX k f fd ps sp) (hr : Room (k + 1) X.A)
    (hb : ∀ (s : Shared) (a : Addr) (ws : List Value), X.K.In s.heap → ws.length = ks.length → BindsTo s fd ⟨[.ref a], ks.zip ws⟩ (ps.zip (.ref a :: gg ws))) (hrel : ∀ {zs : List V} {ws : List Value}, zs.length = ks.length → Vals zs ws → Vals (hV zs) (gg ws))
    (hx : Passes CX X E) (hg : Gl X x) (hm : X.mg x = some (.ref C)) (hkw : PK X kws tk)
    (hall : (backToKw pos (keywordEach kws X.env)).all (·.1.isSome) = true := by rfl) (hks : (backToKw pos (keywordEach kws X.env)).filterMap (·.1) = ks := by rfl) (hdb : (x == ("__debug__" : Str)) = false := by decide)
    (hpl : ((backTo pos (starEach [] X.env)).any (·.1) || (backToKw pos (keywordEach kws X.env)).any (·.1.isNone)) = false := by rfl) :
    PE X (.Call (.Name x p) [] kws pos) (tXmkK C ks.length sp hV E tk) := by
  refine ⟨fun pins s σ H Q I h => ?_⟩
  refine wpAny_Call_Name_kw (ld_glob I hg hm ?_ hdb)
  refine callWith_KW0 (h₀ := X.base) I.ok.mod.kin T.kp hall ?_ hpl
  refine thn (hkw.run pos pins s σ H _ I h) fun ws s2 ⟨zs, H2, I2, rz, l2, q2⟩ => ⟨I2.kIn, ?_⟩
  rw [hks]
  exact run_xmk (us := []) (its := gg ws) (zs := hV zs) Y T iC tI F hr hx I2 (Nat.zero_le _) (fun s a X0 => hb s a ws X0 (rz.length.symm.trans l2)) (hrel l2 rz) q2
end

/-! ### e.f, isinstance(e, C) -/
theorem inst_of {P : Program} {w : World} {H : Hp} {h : Heap} {a C : Addr} {fs : List (Str × V)} (hok : HOk P w H h) (e : ExcAt H a C fs) : ∃ (t1 dd : Addr) (od : Obj) (mA : Str → Option Value),
    InstAt h a { cls := .ref C, dict := some dd, data := .fields #[.ref t1, .none, .none, .none, .bool false, .none] } C (some od) ∧ h.Ns1 dd mA ∧ (∀ f, RelO (fs.lookup f) (mA f)) ∧ (∀ f v, mA f = some v → lookIn f od = some (some v)) := by
  obtain ⟨d, h1, h2⟩ := e
  obtain ⟨t1, ho⟩ := exo_at hok h1
  obtain ⟨mA, hns, rel⟩ := exd_at hok h2
  obtain ⟨od, hod, hl⟩ := lookIn_ns hns
  refine ⟨t1, d, od, mA, ⟨ho, rfl, rfl, hod⟩, hns, rel, fun f v e => by rw [hl, e]⟩
/-- e.f, e an exception that stands there -/
def tXget (K : Frag) (te : TE) (n : Str) : TE := fun σ H Q => te σ H fun x H1 => ∃ (a C : Addr) (fs : List (Str × V)) (v : V) (newId : String) (bmB : List Value), x = .ref a ∧ XC K C bmB newId ∧ findIn K (.ref C) n = some none ∧ ExcAt H1 a C fs ∧ fs.lookup n = some v ∧ Q v H1
/-- isinstance(e, c) -/
def rXis (K : Frag) : List V → Hp → VK → Prop := fun xs H Q => ∃ (a C : Addr) (c : V) (u : Value) (fs : List (Str × V)) (newId : String) (bmB : List Value) (b : Bool), xs = [.ref a, c] ∧ ClsV c u ∧ XC K C bmB newId ∧ ExcAt H a C fs ∧ kitOne K (.ref C) u = some b ∧ Q (.bl b) H
/-- isinstance(e, (c1, c2, ..)) -/
def rXisT (K : Frag) : List V → Hp → VK → Prop := fun xs H Q => ∃ (a C tp : Addr) (cs : List V) (us : List Value) (fs : List (Str × V)) (newId : String) (bmB : List Value) (b : Bool), xs = [.ref a, .ref tp] ∧ H tp = some (.tup cs) ∧ Paired ClsV cs us ∧ XC K C bmB newId ∧ ExcAt H a C fs ∧ kitAny K (.ref C) us = some b ∧ Q (.bl b) H
section
variable {X : Cx} {e : Expr} {te : TE} {n : Str} {pos : Pos}
theorem pe_xget (he : PE X e te) (hb : attributeBase e n X.env (eval e X.env) = eval e X.env := by rfl) : PE X (.Attribute e n pos) (tXget X.K te n) := by
  refine ⟨fun pins s σ H Q I h => ?_⟩
  refine attr_of hb (thn (he.run pins s σ H _ I h) fun u s1 hh => ?_)
  obtain ⟨x, H1, I1, rx, a, C, fs, v, newId, bmB, ex, T, hno, ea, l, q⟩ := hh
  subst ex
  obtain rfl : u = Value.ref a := rx
  obtain ⟨t1, dd, od, mA, J, hns, rel, hl⟩ := inst_of I1.hok ea
  obtain ⟨u, hu, ru⟩ := RelO.some_of (v := v) (o := mA n) (by rw [← l]; exact rel n)
  exact HandSPX.exc_get I1.kIn J T.ga T.gg T.sub (findObj_own T.hd hno rfl (hl n u hu)) (handed_of ru) ⟨v, H1, I1.tok _, ru, q⟩
/-- what the written part says of object's __class__ -/
structure KCls (K : Frag) : Prop where
  gt : specialIn K (.builtin "object.__class__") "__get__" = some (some (.builtin "getset_descriptor.__get__"))
  tk : takesIn K (.builtin "object.__class__") = some true
theorem kit_exc {K : Frag} {a C : Addr} {bmB : List Value} {newId : String} {ox : Obj} {od : Option Obj} (Z : KCls K) (T : XC K C bmB newId) : KitX K (.ref a) (.ref C) (fun h => InstAt h a ox C od) :=
  kitx_exc (by obtain ⟨cd, hc, _⟩ := any_some T.hd; rw [hc]; rfl) T.ga T.gg T.sub T.ca Z.gt Z.tk T.ob
theorem call_xis (Z : KCls X.K) : CallR X (.builtin "isinstance") (rXis X.K) := by
  intro pins s σ H xs us Q I r h
  obtain ⟨a, C, c, u, fs, newId, bmB, b, rfl, k, T, ea, e, q⟩ := h
  obtain ⟨u1, u2, rfl, r1, r2⟩ := vals2 r
  have e2 := k.eq r2
  subst e2
  obtain rfl : u1 = Value.ref a := r1
  obtain ⟨t1, dd, od, mA, J, _⟩ := inst_of I.hok ea
  exact kia_one (kit_exc Z T) I.kIn J e (fun z => nomatch z) fun tk => ⟨.bl b, H, I.tok tk, rfl, q⟩
theorem call_xisT (Z : KCls X.K) : CallR X (.builtin "isinstance") (rXisT X.K) := by
  intro pins s σ H xs us Q I r h
  obtain ⟨a, C, tp, cs, ws, fs, newId, bmB, b, rfl, hT, k, T, ea, e, q⟩ := h
  obtain ⟨u1, u2, rfl, r1, r2⟩ := vals2 r
  obtain rfl : u1 = Value.ref a := r1
  cases (show u2 = Value.ref tp from r2)
  obtain ⟨t1, dd, od, mA, J, _⟩ := inst_of I.hok ea
  obtain ⟨_, its, rv, o, h1, h2, n, h3⟩ := (show ObjOk X.prog X.w H s.heap tp (.tup cs) from I.hok tp _ hT)
  have e3 := ClsV.all k rv
  subst e3
  obtain ⟨oc, od', dt, sl⟩ := o
  simp only at h2 h3
  subst h2 h3
  exact kia_tup (kit_exc Z T) I.kIn J h1 e (fun z => nomatch z) fun tk => ⟨.bl b, H, I.tok tk, rfl, q⟩
end
end L2.TT

namespace L2.TT
open PySem PySem.Spec PyProof.Rows PySem.W

/-! ### data that may be shown: dicts too -/
def keyD : Key → PyData
  | .inl i => .int i
  | .inr x => .str x
/-- a flat value -/
inductive FlatD : V → PyData → Prop
  | non : FlatD .non .none
  | bl (b : Bool) : FlatD (.bl b) (.bool b)
  | int (i : Int) : FlatD (.int i) (.int i)
  | str (x : Str) : FlatD (.str x) (.str x)
abbrev KvD : List (Key × V) → List (PyData × PyData) → Prop := Paired fun p q => q.1 = keyD p.1 ∧ FlatD p.2 q.2
/-- flat, or a dict of flat things -/
inductive FD (H : Hp) : V → PyData → Prop
  | flat {v : V} {d : PyData} : FlatD v d → FD H v d
  | dic {a : Addr} {kvs : List (Key × V)} {es : List (PyData × PyData)} : H a = some (.dK kvs) → KvD kvs es → FD H (.ref a) (.dict es)
inductive DS (K : Frag) (H : Hp) : V → PyData → Prop
  | fd {v : V} {d : PyData} : FD H v d → DS K H v d
  | tup {a : Addr} {xs : List V} {ds : List PyData} : SqT K H a xs → Paired (FD H) xs ds → DS K H (.ref a) (.tuple ds)
/-- the items of a list that may be shown -/
def DL (K : Frag) (H : Hp) (vs : List V) (ds : List PyData) : Prop := (DpAll K H vs ds ∧ PyData.canLayAll0 ds = true) ∨ Paired (DS K H) vs ds

section
variable {X : Cx} {pins : List (Addr × Obj)} {σ : St} {H : Hp} {s : Shared}
theorem FlatD.reads {v : V} {d : PyData} {u : Value} (f : FlatD v d) (r : RelV v u) (h : Heap) : Reads h u d [] := by
  cases f with
  | non => cases r; exact .none
  | bl b => cases r; exact .bool b
  | int i => obtain ⟨t, rfl⟩ := r; exact .int i t
  | str x => obtain ⟨t, rfl⟩ := r; exact .str x t
theorem reads_vals : ∀ {kvs : List (Key × V)} {es : List (PyData × PyData)} {vs : List (Key × Value)} {ds : List DictEntry} {h : Heap} {P : Program} {w : World}, KvD kvs es → KV kvs vs → Pairs (mixKind P w) ds vs →
    ReadsAll h (ds.map (·.key)) (es.map (·.1)) [] ∧ ReadsAll h (ds.map (·.val)) (es.map (·.2)) []
  | _, _, _, _, _, _, _, .nil, .nil, .nil => ⟨.nil, .nil⟩
  | _, _, _, _, h, _, _, .cons (a := p) (b := q) ⟨e1, f⟩ t, .cons (b := z) ⟨e2, r⟩ t2, .cons (e := e) (kv := _) i v t3 => by
    obtain ⟨h1, h2⟩ := reads_vals (h := h) t t2 t3
    have rk : Reads h e.key q.1 [] := by
      rw [e1, e2]
      have i' : keyIs z.1 e.key = true := i
      rcases keyIs_shape i' with ⟨n, tk, ek, ev⟩ | ⟨x, tk, ek, ev⟩
      · rw [ek, ev]; exact .int n tk
      · rw [ek, ev]; exact .str x tk
    have rv : Reads h e.val q.2 [] := by rw [v]; exact f.reads r h
    exact ⟨ReadsAll.cons rk h1, ReadsAll.cons rv h2⟩
theorem FD.reads (I : Inv X pins σ H s) {v : V} {d : PyData} {u : Value} (f : FD H v d) (r : RelV v u) : ∃ as, Reads s.heap u d as ∧ sysModules ∉ as := by
  cases f with
  | flat f => exact ⟨[], f.reads r _, fun z => nomatch z⟩
  | dic e k =>
    rename_i a kvs es
    cases r
    obtain ⟨_, hs, vs, rel, o, eo, ep, ho, hx, hd, _, hp, _⟩ := dk_of I.hok e
    obtain ⟨h1, h2⟩ := reads_vals (h := s.heap) k rel hp
    refine ⟨_, Reads.dict ho hx.1 hd h1 h2, ?_⟩
    intro z
    have z' : sysModules = a := by simpa using z
    rw [← z'] at hs
    simp at hs
theorem FD.readsAll (I : Inv X pins σ H s) : ∀ {vs : List V} {ds : List PyData} {us : List Value}, Paired (FD H) vs ds → Vals vs us → ∃ as, ReadsAll s.heap us ds as ∧ sysModules ∉ as
  | _, _, _, .nil, .nil => ⟨[], .nil, fun z => nomatch z⟩
  | _, _, _, .cons f t, .cons r t2 => by
    obtain ⟨as, h1, n1⟩ := f.reads I r
    obtain ⟨bs, h2, n2⟩ := FD.readsAll I t t2
    exact ⟨as ++ bs, .cons h1 h2, fun z => (List.mem_append.mp z).elim n1 n2⟩
theorem DS.reads (I : Inv X pins σ H s) {v : V} {d : PyData} {u : Value} (f : DS X.K H v d) (r : RelV v u) : ∃ as, Reads s.heap u d as ∧ sysModules ∉ as := by
  cases f with
  | fd f => exact f.reads I r
  | tup hs ha =>
    cases r
    obtain ⟨its, rv, ⟨o, ho, hc, n, hd⟩, _⟩ := I.tuple hs
    obtain ⟨as, q, n⟩ := FD.readsAll I ha rv
    exact ⟨_, .tuple ho hc hd q, n⟩
theorem DS.readsAll (I : Inv X pins σ H s) : ∀ {vs : List V} {ds : List PyData} {us : List Value}, Paired (DS X.K H) vs ds → Vals vs us → ∃ as, ReadsAll s.heap us ds as ∧ sysModules ∉ as
  | _, _, _, .nil, .nil => ⟨[], .nil, fun z => nomatch z⟩
  | _, _, _, .cons f t, .cons r t2 => by
    obtain ⟨as, h1, n1⟩ := f.reads I r
    obtain ⟨bs, h2, n2⟩ := DS.readsAll I t t2
    exact ⟨as ++ bs, .cons h1 h2, fun z => (List.mem_append.mp z).elim n1 n2⟩
theorem DL.reads (I : Inv X pins σ H s) {vs : List V} {ds : List PyData} {us : List Value} (f : DL X.K H vs ds) (r : Vals vs us) : ∃ as, ReadsAll s.heap us ds as ∧ (PyData.hasDictAll ds = true → sysModules ∉ as) := by
  rcases f with ⟨f, c⟩ | f
  · obtain ⟨as, q⟩ := Dp.readsAll I ds vs us f r
    refine ⟨as, q, fun z => ?_⟩
    rw [PyData.hasDictAll_of_canLayAll ds c] at z
    exact absurd z Bool.false_ne_true
  · obtain ⟨as, q, n⟩ := DS.readsAll I f r
    exact ⟨as, q, fun _ => n⟩
/-- repr(xs), xs a list -/
def rRepr (K : Frag) : List V → Hp → VK → Prop := fun xs H Q => ∃ (a : Addr) (vs : List V) (ds : List PyData), xs = [.ref a] ∧ SqL K H a vs ∧ DL K H vs ds ∧ PyData.showableAll ds = true ∧ PyData.leavesShortAll 13 ds = true ∧ PyData.weightAll ds ≤ 1000000 ∧ PyData.depthAll ds ≤ 20 ∧
  Q (.str (PyData.shown (.list ds))) H
theorem call_repr (hg : X.A.guards = some []) (hu : X.A.units + 64 < cLine) : CallR X (.builtin "repr") (rRepr X.K) := by
  intro pins s σ H xs us Q I r h
  obtain ⟨a, vs, ds, rfl, hl, hd, hs, hb, hw, hp, q⟩ := h
  obtain rfl := Vals.ref1 r
  obtain ⟨its, rv, ⟨o, n, ho, hc, hdn, hda⟩, hz⟩ := I.list hl
  obtain ⟨as, h4, hsm⟩ := hd.reads I rv
  have fit : (PyData.shown (.list ds)).length ≤ sizeLine := PyData.shown_fits (B := 13) (by decide) (by decide) (by simpa only [PyData.leavesShort] using hb) (by
    simp only [PyData.weight]
    omega)
  have hz' : (listText (PyData.shownAll ds)).length ≤ sizeLine := by simpa only [PyData.shown] using fit
  obtain ⟨bs, hbs, hk⟩ := ReprAllK.of_readsAll (prog := X.prog) (w := X.w) h4 hs hsm (fun t ht => Nat.le_trans (listText_mem_le ht) hz')
  have hna : a ∉ bs := not_mem_of_deeper (.list ho hc hda h4) (by simp only [PyData.depth]; omega) hbs
  simp only [PyData.shown] at q
  refine call_repr_slot (by omega) ⟨o, ho, hc⟩ F.slot_list_repr.toG ?_
  cases its with
  | nil =>
    cases h4
    simp only [PyData.shownAll, listText_nil] at q
    refine call_list_repr_empty (s := s) ⟨o, ho, hc⟩ ho hda ?_
    exact ⟨_, _, rfl, .str "[]", H, I.tok _, ⟨_, rfl⟩, q⟩
  | cons x l =>
    refine call_list_reprK ho hc hda hna (by simpa using hk.length_eq) (fun i y e => hk.item i y (by simpa using e)) hg (fun b _ => Clear.nil b) (by show X.A.units + 1 + _ < cLine; omega) (fun _ _ e => e) (fun h' u tk k => ?_) hz'
    exact ⟨_, _, rfl, .str (listText (PyData.shownAll ds)), H, I.kept k, ⟨u, rfl⟩, q⟩
end
end L2.TT

namespace L2.TT
open PySem PySem.Spec PyProof.Rows

/-! ### a def's promise where no repr is under way: repr asks the guards -/
def NoGuard (A : Around) : Prop := A.guards = some []
structure FnG (P : Program) (w : World) (K : PySem.W.Frag) (mg : Str → Option Value) (base : Heap) (CX : CXT) (k : Nat) (f : Addr) (fd : FuncData) (ps : List Str) (sp : Sp) : Prop where
  len : ∀ vs H Q E, sp vs H Q E → vs.length = ps.length
  run : ∀ (A : Around) (outer : List Env) (s : Shared) (H : Hp) (args : Args) (us : List Value) (vs : List V) (Q : VK) (E : XK), NoGuard A → Room k A → Env0 P w K mg base A outer s H → BindsTo s fd args (ps.zip us) → Vals vs us → sp vs H Q E →
    codeAny (model P w) A (.call (.ref f) args) (CR CX outer P w H s Q E) s

/-- a def by its body, where no repr is under way -/
theorem fnG_of {CX : CXT} {P : Program} {w : World} {K : PySem.W.Frag} {mg : Str → Option Value} {base : Heap} {k : Nat} {f : Addr} {name qual : Str} {params : Arguments} {body : List Stmt} {scope : Scope} {dV kV doc pm cdv ct oc : Value} {an od : Option Addr}
    {osl : Array (Option Value)} {N ps : List Str} {sp : Sp} (lk : K.lookup f = some ⟨oc, od, .func (PySem.W.fnOf name qual params body scope dV kV doc pm an cdv ct), osl⟩) (hcd : PySem.W.codeIn K cdv qual = true) (S : FnScope N ps scope)
    (len : ∀ vs H Q E, sp vs H Q E → vs.length = ps.length)
    (hbody : ∀ (A : Around) (outer : List Env) (s : Shared) (H : Hp) (vs : List V) (Q : VK) (E : XK), NoGuard (A.deeper (envOfC qual scope s.heap.objs.size f cdv)) → Room k (A.deeper (envOfC qual scope s.heap.objs.size f cdv)) → sp vs H Q E →
      ∃ t, PSs (cxOf CX P w K mg base N qual scope f cdv A outer s H E) body t ∧ t { nx := fun _ H' => Q .non H', rt := Q } (start N vs) H) :
    FnG P w K mg base CX (k + 1) f (PySem.W.fnOf name qual params body scope dV kV doc pm an cdv ct) ps sp := by
  refine ⟨len, fun A outer s H args us vs Q E hG hr e0 hb r hsp => ?_⟩
  have KX : K.In s.heap := e0.mod.kin.keeps fun b o e => (e0.bs b o e).1
  have lim : s.heap.NoLimit := e0.mod.nolimit.keeps fun b o e => (e0.bs b o e).1
  refine codeAny_call_function hr.depth (KX _ _ lk) rfl S.co S.gen rfl (PySem.W.codeRec_of KX hcd) (hb _ _ _ _ ?_)
  refine wpAny_newFunctionEnv_cells S.kind (fun ⟨n, v⟩ hy => ?_) fun env he s1 x => ?_
  · rcases S.par n (List.of_mem_zip hy).1 with q | q
    · exact .inl q
    · exact .inr ⟨q, PySem.W.cellsFrom_some _ _ _ (.inl q)⟩
  · subst he
    refine ⟨lim.keeps x.toInCall.keep, codeAny_func ?_⟩
    obtain ⟨t, ht, hq⟩ := hbody A outer s H vs Q E hG (hr.deeper _) hsp
    have I : Inv (cxOf CX P w K mg base N qual scope f cdv A outer s H E) [] (start N vs) H s1 := inv_start S hr.hd e0 (len _ _ _ _ hsp) r x
    refine wpAny_mono (ht.run [] s1 (start N vs) H _ I hq) (fun fl s' hs => ?_) fun e s' hs => hs
    cases fl with
    | ret u =>
      obtain ⟨v, σ', H', J, rv, q⟩ := hs
      exact ⟨v, H', J.os, J.bare, J.base, J.hok, rv, q⟩
    | next =>
      obtain ⟨σ', H', J, q⟩ := hs
      exact ⟨.non, H', J.os, J.bare, J.base, J.hok, rfl, q⟩
    | brk => exact hs.elim fun _ z => z.elim fun _ y => y.2.elim
    | cont => exact hs.elim fun _ z => z.elim fun _ y => y.2.elim
section
variable {P : Program} {w : World} {K : PySem.W.Frag} {mg : Str → Option Value} {base : Heap}
theorem Fun.okG {x qual : Str} {st : Stmt} {f : Addr} {fd : FuncData} {N ps : List Str} {k : Nat} {sp : Sp} (F : Fun K x qual st f fd) (S : FnScope N ps (defScope st)) (len : ∀ vs H Q E, sp vs H Q E → vs.length = ps.length)
    (hbody : ∀ (cdv : Value) (A : Around) (outer : List Env) (s : Shared) (H : Hp) (vs : List V) (Q : VK) (E : XK), NoGuard (A.deeper (envOfC qual (defScope st) s.heap.objs.size f cdv)) → Room k (A.deeper (envOfC qual (defScope st) s.heap.objs.size f cdv)) → sp vs H Q E →
      ∃ t, PSs (cxOf CX0 P w K mg base N qual (defScope st) f cdv A outer s H E).nox (defBody st) t ∧ t { nx := fun _ H' => Q .non H', rt := Q } (start N vs) H) : FnG P w K mg base CX0 (k + 1) f fd ps sp := by
  obtain ⟨oc, od, kV, doc, pm, an, cdv, ct, osl, rfl, lk, hcd⟩ := F.ex
  refine fnG_of lk hcd S len fun A outer s H vs Q E hG hr hsp => ?_
  obtain ⟨t, h, q⟩ := hbody cdv A outer s H vs Q E hG hr hsp
  exact ⟨t, h.nox, q⟩
end

/-- what the script's object is taken for: known, or an object of the module -/
def scriptHp (K : PySem.W.Frag) (a : Addr) (o : Obj) (xs : List V) : Hp := fun b => if b = a ∧ K.lookup a = none then some (.frz o (.lst xs)) else none
theorem lawG_call {P : Program} {w : World} {K : PySem.W.Frag} {mg mb : Str → Option Value} {k : Nat} {fa a : Addr} {fd : FuncData} {x : Str} {sp : Sp} {s₁ : Shared} {vs : List Value} {ns : List Int}
    (KX : K.In s₁.heap) (hns : s₁.heap.Ns mainGlobals mg) (hb : s₁.heap.Ns builtinsNs mb) (hbb : ∀ x : Str, x ≠ "__name__" → mb x = bootBuiltins x) (hlim : s₁.heap.NoLimit) (hg : s₁.gens = #[])
    (ha : s₁.heap.get? a = some { cls := .type "list", data := .seq vs.toArray }) (hi : IntsAre vs ns) (hl : ns.length ≤ sizeLine) (hr : Room k callerA)
    (F : ∀ base : Heap, K.In base → base.Ns mainGlobals mg → FnG P w K mg base CX0 k fa fd [x] sp) (hbind : ∀ (s : Shared) (u : Value), BindsTo s fd ⟨[u], []⟩ [(x, u)])
    (hsp : ∀ H : Hp, Only H → SqL K H a (ns.map V.int) → sp [.ref a] H (fun v _ => v = .bl true) fun _ _ _ => False) :
    codeAny (model P w) callerA (.call (.ref fa) ⟨[.ref a], []⟩) (fun r s' => r = .ok (.ret (.bool true)) ∧ OldK s₁.heap s'.heap ∧ s'.os = s₁.os ∧ AllBare s'.gens) s₁ := by
  have rv := vals_ints hi
  have lenV := hi.length
  generalize eH : scriptHp K a { cls := .type "list", data := .seq vs.toArray } (ns.map V.int) = H
  have at_ : ∀ b u, H b = some u → b = a ∧ K.lookup a = none ∧ u = .frz { cls := .type "list", data := .seq vs.toArray } (.lst (ns.map V.int)) := fun b u z => by
    rw [← eH] at z
    unfold scriptHp at z
    by_cases c : b = a ∧ K.lookup a = none
    · rw [if_pos c] at z
      exact ⟨c.1, c.2, (Option.some.inj z).symm⟩
    · rw [if_neg c] at z
      cases z
  have hO : Only H := fun b => by
    cases q : H b with
    | none => exact .inl rfl
    | some u =>
      obtain ⟨_, _, e⟩ := at_ b u q
      exact .inr ⟨_, _, by rw [e]⟩
  have hok : HOk P w H s₁.heap := fun b u z => by
    obtain ⟨e1, _, e2⟩ := at_ b u z
    subst e1 e2
    exact ⟨ha, by rw [List.length_map]; exact hl, vs, _, rv, ha⟩
  have hS : SqL K H a (ns.map V.int) := by
    cases hk : K.lookup a with
    | some o =>
      have e := KX a o hk
      rw [ha] at e
      cases e
      exact .inr ⟨_, vs.toArray, _, hk, rfl, rfl, rfl, by rw [List.size_toArray, lenV]; exact hl, by simpa using rv⟩
    | none => exact .inl (.inr ⟨{ cls := .type "list", data := .seq vs.toArray }, by rw [← eH]; exact if_pos ⟨rfl, hk⟩⟩)
  -- the base: what is not tracked
  have off : ∀ {b : Addr} {o : Obj}, s₁.heap.get? b = some o → (b = a → K.lookup a ≠ none ∨ o.data ≠ .seq vs.toArray) → H b = none := fun {b o} e n => by
    cases q : H b with
    | none => rfl
    | some u =>
      obtain ⟨e1, e2, _⟩ := at_ b u q
      rcases n e1 with z | z
      · exact absurd e2 z
      · rw [e1, ha] at e
        cases e
        exact absurd rfl z
  have ns0 : ∀ {b : Addr} {m : Str → Option Value}, s₁.heap.Ns b m → (hidT s₁.heap H).Ns b m := fun {b m} ⟨o, es, ep, e, d, r⟩ =>
    ⟨o, es, ep, hidT_get e (off e fun _ => .inr (by rw [d]; intro z; cases z)), d, r⟩
  have hKb : K.In (hidT s₁.heap H) := fun b o e => hidT_get (KX b o e) (off (KX b o e) fun z => .inl (by rw [← z, e]; intro y; cases y))
  have hM : Mod K mg (hidT s₁.heap H) := ⟨hKb, ns0 hns, ⟨mb, ns0 hb, hbb⟩, let ⟨mc, h1, h2⟩ := hlim; ⟨mc, ns0 h1, h2⟩⟩
  have e0 : Env0 P w K mg (hidT s₁.heap H) callerA [] s₁ H := ⟨rfl, hM, fun b o e => of_hidT e, Nat.le_of_eq (hidT_size _ _), trivial, fun b hb => absurd (show b ∈ ([] : List Addr) from hb) (by simp), hok, .of_eq hg⟩
  refine codeAny_mono ((F _ hKb (ns0 hns)).run callerA [] s₁ H ⟨[.ref a], []⟩ [.ref a] [.ref a] _ _ rfl hr e0 (hbind s₁ (.ref a)) (.cons rfl .nil) (hsp H hO hS)) fun r s' h => ?_
  cases r with
  | error e => exact h.elim
  | ok fl =>
    cases fl with
    | next => exact False.elim h
    | brk => exact False.elim h
    | cont => exact False.elim h
    | ret u =>
      obtain ⟨v, H', os, bare, un, hok', r', q⟩ := h
      have q' : v = .bl true := q
      subst q'
      obtain rfl : u = Value.bool true := r'
      refine ⟨rfl, OldK.of_keep fun b o e => ?_, os, bare⟩
      cases q : H b with
      | none => exact un.keep b o e q (fun z => absurd (show b ∈ ([] : List Addr) from z) (by simp)) (by simp)
      | some u =>
        obtain ⟨e1, _, e2⟩ := at_ b u q
        rw [e2] at q
        obtain ⟨z, _⟩ := hok' b _ (un.frzs b _ _ q)
        rw [e1, ha] at e
        cases e
        rw [e1]
        rw [e1] at z
        exact z
theorem walkG_of {l : PySem.W.OpenLaw} {n k : Nat} {q : Program} {loose : List Str} {XP : (Str → Option Value) → Heap → Prop} {YP : World → Heap → Prop} {d : DefRec} {K : Params → PySem.W.Frag} {sp : World → Sp} {x : Str}
    (hn : l.most = some n) (hn2 : n ≤ sizeLine) (hdf : d.params.defaults = []) (hr : Room k callerA)
    (hY : ∀ (w : World) (h : Heap), YP w h → (K w.params).In h)
    (F : ∀ (w : World) (mg : Str → Option Value) (fa : Addr) (h : Heap), (K w.params).In h → h.Ns mainGlobals mg → mg d.name = some (.ref fa) →
      ∃ fd : FuncData, (∀ (s : Shared) (u : Value), BindsTo s fd ⟨[u], []⟩ [(x, u)]) ∧
        ∀ base : Heap, (K w.params).In base → base.Ns mainGlobals mg → FnG l.prog w (K w.params) mg base CX0 k fa fd [x] (sp w))
    (hsp : ∀ (w : World) (H : Hp) (a : Addr) (ns : List Int), ns.length ≤ n → Only H → SqL (K w.params) H a (ns.map V.int) → sp w [.ref a] H (fun v _ => v = .bl true) fun _ _ _ => False) :
    PySem.W.WalkO q loose XP YP l.row.toRowW d [] (fun f vs => PySem.call f vs) := by
  refine Att.attach_call hn hdf fun w s₀ s₁ mg mb fa o pm cd doc a vs ns G Y ho hd hcd hmg hobj hints hlen hg => ?_
  obtain ⟨fd, hb, hF⟩ := F w mg fa _ (hY w _ Y) G.T.g hmg
  exact lawG_call (hY w _ Y) G.T.g G.T.b G.T.builtins G.T.nolimit hg hobj hints (Nat.le_trans hlen hn2) hr hF hb fun H hO hS => hsp w H a ns hlen hO hS
end L2.TT

namespace TR
open PySem PySem.Spec PyProof.Rows L2 L2.TT
abbrev sBegin : Stmt := s_law_begin
abbrev sMixed : Stmt := s_law_mixed
abbrev sNext : Stmt := s_law_next
/-- the drawn values' state: a dict, its list of cells; no counter beyond n -/
def drawKvs (cl : Addr) (i j k : Int) : List (Key × V) := [(Sum.inr "cells", .ref cl), (Sum.inr "at", .int i), (Sum.inr "left", .int j), (Sum.inr "used", .int k)]
def DrawAt (H : Hp) (dr cl : Addr) (n : Nat) : Prop := ∃ (cs : List Int) (i j k : Int), H dr = some (.dK (drawKvs cl i j k)) ∧ H cl = some (.lst (cs.map V.int)) ∧ cs ≠ [] ∧ cs.length ≤ 64 ∧ 0 ≤ i ∧ i ≤ n ∧ 0 ≤ j ∧ 0 ≤ k ∧ k ≤ n
def spBegin (K : PySem.W.Frag) : Sp := fun vs H Q _ => ∃ (a : Addr) (ns : List Int), vs = [.ref a] ∧ SqL K H a (ns.map V.int) ∧ ns.length ≤ 63 ∧ ∀ (p c : Addr) (H' : Hp), H p = none → H c = none → Same H H' → DrawAt H' p c 0 → Q (.ref p) H'
def spMixed : Sp := fun vs H Q _ => ∃ (c k : Int), vs = [.int c, .int k] ∧ 0 ≤ k ∧ k ≤ 1000000000 ∧ ∀ r : Int, Q (.int r) H
def spNext : Sp := fun vs H Q _ => ∃ (dr cl : Addr) (b : Int) (n : Nat), vs = [.ref dr, .int b] ∧ DrawAt H dr cl n ∧ n ≤ 900000000 ∧ 0 < b ∧ b < 1073741824 ∧
  ∀ (r : Int) (H' : Hp), 0 ≤ r → r < b → DrawAt H' dr cl (n + 1) → (∀ q, q ≠ dr → H' q = H q) → Q (.int r) H'
theorem modb (x : Int) {m : Int} (h : 0 < m) : 0 ≤ x % m ∧ x % m < m := ⟨Int.emod_nonneg _ (by omega), Int.emod_lt_of_pos _ h⟩
theorem n1 : ¬ (("cells" : Str) = "at") := by decide +kernel
theorem n2 : ¬ (("cells" : Str) = "left") := by decide +kernel
theorem n3 : ¬ (("cells" : Str) = "used") := by decide +kernel
theorem n4 : ¬ (("at" : Str) = "left") := by decide +kernel
theorem n5 : ¬ (("at" : Str) = "used") := by decide +kernel
theorem n6 : ¬ (("left" : Str) = "used") := by decide +kernel
theorem dg_cells {cl : Addr} {i j k : Int} : valV (drawKvs cl i j k) (Sum.inr "cells") = some (.ref cl) := by simp [valV, drawKvs]
theorem dg_at {cl : Addr} {i j k : Int} : valV (drawKvs cl i j k) (Sum.inr "at") = some (.int i) := by simp [valV, drawKvs, n1]
theorem dg_left {cl : Addr} {i j k : Int} : valV (drawKvs cl i j k) (Sum.inr "left") = some (.int j) := by simp [valV, drawKvs, n2, n4]
theorem dg_used {cl : Addr} {i j k : Int} : valV (drawKvs cl i j k) (Sum.inr "used") = some (.int k) := by simp [valV, drawKvs, n3, n5, n6]
theorem dp_at {cl : Addr} {i j k x : Int} : putK (drawKvs cl i j k) (Sum.inr "at") (.int x) = drawKvs cl x j k := by simp [putK, drawKvs, n1, n4, n5, Ne.symm n4, Ne.symm n5]
theorem dp_left {cl : Addr} {i j k x : Int} : putK (drawKvs cl i j k) (Sum.inr "left") (.int x) = drawKvs cl i x k := by simp [putK, drawKvs, n2, n4, n6, Ne.symm n6]
theorem dp_used {cl : Addr} {i j k x : Int} : putK (drawKvs cl i j k) (Sum.inr "used") (.int x) = drawKvs cl i j x := by simp [putK, drawKvs, n3, n5, n6]
theorem atI_pos {α : Type} {xs : List α} {i : Int} {v : α} (h0 : 0 ≤ i) (h : xs[i.toNat]? = some v) : atI xs i = some v := by
  have := atI_nat h
  rwa [Int.toNat_of_nonneg h0] at this
structure TxtD (K : PySem.W.Frag) (mg : Str → Option Value) (fM : Addr) : Prop where
  len : mg "len" = none
  gM : mg "_law_mixed" = some (.ref fM)
section
variable {P : Program} {w : World} {K : PySem.W.Frag} {mg : Str → Option Value} {base : Heap}
theorem scB : FnScope ["script"] ["script"] (defScope sBegin) := ⟨rfl, rfl, rfl, by decide +kernel, rfl, by decide +kernel, by decide +kernel⟩
theorem ok_begin {f : Addr} {fd : FuncData} (F : Fun K "_law_begin" "_law_begin" sBegin f fd) : FnOk P w K mg base CX0 1 f fd ["script"] (spBegin K) := by
  refine F.ok scB (fun vs H Q E h => ?_) (fun cdv A outer s H vs Q E hr h => ?_)
  · obtain ⟨a, ns, rfl, _⟩ := h
    rfl
  · obtain ⟨a, ns, rfl, hS, hl, k⟩ := h
    refine ⟨_, pss_one (ps_ret (pe_disp (pps_cons pe_str (pe_op op_catL (pv 0) (pe_lst (pa_cons pe_int pa_nil))) (pps_cons pe_str pe_int (pps_cons pe_str pe_int (pps_cons pe_str pe_int pps_nil)))) (by rfl) (by rfl) (fun z => by cases z) (by decide))), ?_⟩
    intro p hp
    have s1 : Same H (upd H p (.dK [])) := fun b o e => by rw [upd_ne (ne_of_none e hp)]; exact e
    refine ⟨_, rfl, by rw [sizeLine_eq]; decide, fun l hl2 => ?_⟩
    have npl : p ≠ l := ne_of_none upd_same hl2
    have s2 : Same H (upd (upd H p (.dK [])) l (.lst [V.int 0])) := fun b o e => by rw [upd_ne (ne_of_none (s1 b o e) hl2)]; exact s1 b o e
    refine ⟨a, l, ns.map V.int, [V.int 0], rfl, rfl, s2.seq hS, .inl (.inl upd_same), ?_⟩
    rw [sizeLine_eq, List.length_map]
    refine ⟨by simp only [List.length_singleton]; omega, fun c hc => ?_⟩
    have ncp : p ≠ c := ne_of_none (by rw [upd_ne npl]; exact upd_same) hc
    have s3 : Same H (upd (upd (upd H p (.dK [])) l (.lst [V.int 0])) c (.lst (ns.map V.int ++ [V.int 0]))) := fun b o e => by rw [upd_ne (ne_of_none (s2 b o e) hc)]; exact s2 b o e
    refine ⟨by rw [upd_ne ncp, upd_ne npl, upd_same], drawKvs c 0 0 0, rfl, (by show 4 ≤ 15; decide), ?_⟩
    refine k p c _ hp (s2.free hc) (fun b o e => by rw [upd_ne (ne_of_none e hp)]; exact s3 b o e) ⟨ns ++ [0], 0, 0, 0, ?_, ?_, by simp, by simp; omega, by decide, by decide, by decide, by decide, by decide⟩
    · rw [upd_same]
      rfl
    · rw [upd_ne ncp.symm, upd_same, List.map_append]
      rfl
theorem scM : FnScope ["cell", "k", "mixed"] ["cell", "k"] (defScope sMixed) := ⟨rfl, rfl, rfl, by decide +kernel, rfl, by decide +kernel, by decide +kernel⟩
theorem ok_mixed {f : Addr} {fd : FuncData} (F : Fun K "_law_mixed" "_law_mixed" sMixed f fd) : FnOk P w K mg base CX0 1 f fd ["cell", "k"] spMixed := by
  refine F.ok scM (fun vs H Q E h => ?_) (fun cdv A outer s H vs Q E hr h => ?_)
  · obtain ⟨a, ns, rfl, _⟩ := h
    rfl
  · obtain ⟨c, n, rfl, h0, hn, k⟩ := h
    refine ⟨_, pss_cons (ps_set (i := 2) scM.nd rfl (Or.inl rfl) (pe_op op_mod (pe_op op_add (pe_op op_add (pe_op op_add (pe_op op_mod (pv 0) pe_int) (pe_op op_mul (pe_op op_mul pe_int (pv 1)) (pv 1))) (pe_op op_mul pe_int (pv 1))) pe_int) pe_int))
      (pss_cons (ps_set (i := 2) scM.nd rfl (Or.inl rfl) (pe_op op_mod (pe_op op_mul (pe_op op_mod (pe_op op_mul (pv 2) (pv 2)) pe_int) (pv 2)) pe_int))
      (pss_one (ps_ret (pe_op op_fdiv (pe_op op_mod (pe_op op_mul (pv 2) (pe_op op_add pe_int (pe_op op_mul pe_int (pe_op op_mod (pv 1) pe_int)))) pe_int) pe_int)))), ?_⟩
    refine ⟨_, rfl, _, _, rfl, rfl, (by show (0 : Int) < 1000000007; decide), ?_⟩
    refine ⟨_, rfl, _, _, rfl, rfl, .inl ⟨by decide, by decide⟩, _, rfl, _, _, rfl, rfl, .inr ⟨by omega, by omega⟩, _, _, rfl, rfl, ?_⟩
    refine ⟨_, rfl, _, _, rfl, rfl, .inl ⟨by decide, by decide⟩, _, _, rfl, rfl, _, _, rfl, rfl, _, _, rfl, rfl, (by show (0 : Int) < 2147483647; decide), ?_⟩
    have hm := modb (c % 1000000007 + 7919 * n * n + 31 * n + 7) (m := 2147483647) (by decide)
    generalize (c % 1000000007 + 7919 * n * n + 31 * n + 7) % 2147483647 = m at hm
    refine ⟨_, rfl, _, rfl, _, _, rfl, rfl, .inl ⟨by omega, by omega⟩, _, _, rfl, rfl, (by show (0 : Int) < 2147483647; decide), ?_⟩
    have hm2 := modb (m * m) (m := 2147483647) (by decide)
    generalize (m * m) % 2147483647 = m2 at hm2
    refine ⟨_, rfl, _, _, rfl, rfl, .inl ⟨by omega, by omega⟩, _, _, rfl, rfl, (by show (0 : Int) < 2147483629; decide), ?_⟩
    have hm3 := modb (m2 * m) (m := 2147483629) (by decide)
    generalize (m2 * m) % 2147483629 = m3 at hm3
    refine ⟨_, rfl, _, rfl, _, _, rfl, rfl, (by show (0 : Int) < 1000; decide), _, _, rfl, rfl, .inl ⟨by decide, by decide⟩, _, _, rfl, rfl, _, _, rfl, rfl, .inl ⟨by omega, by omega⟩, _, _, rfl, rfl, (by show (0 : Int) < 2147483647; decide), _, _, rfl, rfl, ⟨by decide, by decide⟩, ?_⟩
    exact k _
theorem scN : FnScope ["draw", "bound", "found", "cells", "cell"] ["draw", "bound"] (defScope sNext) := ⟨rfl, rfl, rfl, by decide +kernel, rfl, by decide +kernel, by decide +kernel⟩
theorem ok_next {f fM : Addr} {fd fdM : FuncData} (F : Fun K "_law_next" "_law_next" sNext f fd) (T : TxtD K mg fM) (FM : Fun K "_law_mixed" "_law_mixed" sMixed fM fdM) (bM : Binds K fdM ["cell", "k"] []) : FnOk P w K mg base CX0 2 f fd ["draw", "bound"] spNext := by
  have GM : FnOk P w K mg base CX0 1 fM fdM ["cell", "k"] spMixed := ok_mixed FM
  refine F.ok scN (fun vs H Q E h => ?_) (fun cdv A outer s H vs Q E hr h => ?_)
  · obtain ⟨a, cl0, ns, n, rfl, _⟩ := h
    rfl
  · obtain ⟨dr, cl, b, n, rfl, ⟨cs, i, j, k, hd, hc, hne, hcl, hi0, hin, hj0, hk0, hkn⟩, hn, hb0, hb1, q⟩ := h
    have hu := hu_of hr
    refine ⟨_, pss_cons (ps_if (pt_cmpR op_gt (pe_dget hu (pv 0) pe_str (fun _ _ => rfl)) pe_int (nomark _))
        (pss_cons (ps_set (i := 2) scN.nd rfl (Or.inl rfl) (pe_op op_modN (pe_dget hu (pv 0) pe_str (fun _ _ => rfl)) (pv 1)))
        (pss_cons (ps_dput hu (pv 0) pe_str (pe_op op_fdivN (pe_dget hu (pv 0) pe_str (fun _ _ => rfl)) (pv 1)) rfl)
        (pss_one (ps_ret (pv 2))))) pss_nil)
      (pss_cons (ps_set (i := 3) scN.nd rfl (Or.inl rfl) (pe_dget hu (pv 0) pe_str (fun _ _ => rfl)))
      (pss_cons (ps_set (i := 4) scN.nd rfl (Or.inl rfl) (pe_ix ix_list (pv 3) (pe_op op_modN (pe_dget hu (pv 0) pe_str (fun _ _ => rfl)) (pe_callB call_len_seq (by rfl) T.len PySem.boot_len (pa_cons (pv 3) pa_nil))) (fun _ _ => rfl)))
      (pss_cons (ps_dput hu (pv 0) pe_str (pe_op op_add (pe_dget hu (pv 0) pe_str (fun _ _ => rfl)) pe_int) rfl)
      (pss_cons (ps_if (PW.pt (pw_and (pt_cmpR op_ge (pv 4) (pe_op op_pow pe_int pe_int) (nomark _)) (pw_and1 (pt_cmpR op_le (pe_dget hu (pv 0) pe_str (fun _ _ => rfl)) (pe_callB call_len_seq (by rfl) T.len PySem.boot_len (pa_cons (pv 3) pa_nil)) (nomark _)))))
        (pss_cons (ps_dput hu (pv 0) pe_str (pe_op op_fdivN (pv 4) (pv 1)) rfl)
        (pss_one (ps_ret (pe_op op_modN (pv 4) (pv 1))))) pss_nil)
      (pss_cons (ps_dput hu (pv 0) pe_str (pe_op op_add (pe_dget hu (pv 0) pe_str (fun _ _ => rfl)) pe_int) rfl)
      (pss_one (ps_ret (pe_op op_modN (pe_call GM hr rfl T.gM FM.kp bM .nil pass0 (pa_cons (pe_call GM hr rfl T.gM FM.kp bM .nil pass0 (pa_cons (pv 4) (pa_cons (pe_dget hu (pv 0) pe_str (fun _ _ => rfl)) pa_nil))) (pa_cons (pe_dget hu (pv 0) pe_str (fun _ _ => rfl)) pa_nil))) (pv 1))))))))), ?_⟩
    have gA : DGet H dr (kV (Sum.inr "at")) (some (.int i)) := by rw [← dg_at]; exact DGet.k hd
    have gL : DGet H dr (kV (Sum.inr "left")) (some (.int j)) := by rw [← dg_left]; exact DGet.k hd
    have gC : DGet H dr (kV (Sum.inr "cells")) (some (.ref cl)) := by rw [← dg_cells]; exact DGet.k hd
    have ncd : cl ≠ dr := ne_of hc hd (by intro z; cases z)
    -- if draw["left"] > 0
    refine ⟨_, rfl, dr, _, rfl, gL, _, _, rfl, rfl, _, rfl, ?_⟩
    refine ite2 (fun hj => ?_) (fun hj => ?_)
    · refine ⟨_, rfl, dr, _, rfl, gL, _, rfl, _, _, rfl, rfl, by omega, ?_⟩
      refine ⟨_, rfl, dr, _, rfl, gL, _, rfl, _, _, rfl, rfl, ⟨by omega, by omega⟩, _, rfl, dr, _, rfl, DPut.k (k := Sum.inr "left") hd (by show 4 < sizeLine; rw [sizeLine_eq]; decide), ?_⟩
      refine ⟨_, rfl, ?_⟩
      rw [dp_left]
      refine q _ _ ?_ ?_ ⟨cs, i, _, k, upd_same, by rw [upd_ne ncd]; exact hc, hne, hcl, hi0, by omega, ?_, hk0, by omega⟩ fun z hz => upd_ne hz
      · rw [Int.fmod_eq_emod_of_nonneg _ (by omega)]
        exact (modb _ hb0).1
      · rw [Int.fmod_eq_emod_of_nonneg _ (by omega)]
        exact (modb _ hb0).2
      · rw [Int.fdiv_eq_ediv_of_nonneg _ (by omega)]
        exact Int.ediv_nonneg hj0 (by omega)
    · -- the next cell
      have hlp : 0 < cs.length := List.length_pos_iff.mpr hne
      have hmz : (0 : Int) ≤ i.fmod (cs.length : Int) ∧ i.fmod (cs.length : Int) < cs.length := by
        rw [Int.fmod_eq_emod_of_nonneg _ (by omega)]
        exact modb _ (by omega)
      obtain ⟨c, hcx⟩ : ∃ c, (cs.map V.int)[(i.fmod (cs.length : Int)).toNat]? = some (V.int c) := by
        have hlt : (i.fmod (cs.length : Int)).toNat < cs.length := by omega
        exact ⟨cs[(i.fmod (cs.length : Int)).toNat], by rw [List.getElem?_map, List.getElem?_eq_getElem hlt]; rfl⟩
      refine ⟨_, rfl, dr, _, rfl, gC, ?_⟩
      refine ⟨_, rfl, _, rfl, dr, _, rfl, gA, _, rfl, cl, _, rfl, .inl (SqL.of hc), _, _, rfl, rfl, by rw [List.length_map]; omega, ?_⟩
      rw [List.length_map]
      refine ⟨cl, _, _, _, rfl, rfl, SqL.of hc, atI_pos hmz.1 hcx, ?_⟩
      -- draw["at"] = draw["at"] + 1
      refine ⟨_, rfl, dr, _, rfl, gA, _, _, rfl, rfl, _, rfl, dr, _, rfl, DPut.k (k := Sum.inr "at") hd (by show 4 < sizeLine; rw [sizeLine_eq]; decide), ?_⟩
      rw [dp_at]
      have hd1 : upd H dr (.dK (drawKvs cl (i + 1) j k)) dr = some (.dK (drawKvs cl (i + 1) j k)) := upd_same
      have hc1 : upd H dr (.dK (drawKvs cl (i + 1) j k)) cl = some (.lst (cs.map V.int)) := by rw [upd_ne ncd]; exact hc
      have ke1 : ∀ z, z ≠ dr → upd H dr (.dK (drawKvs cl (i + 1) j k)) z = H z := fun z hz => upd_ne hz
      generalize upd H dr (.dK (drawKvs cl (i + 1) j k)) = H1 at hd1 hc1 ke1
      have gA1 : DGet H1 dr (kV (Sum.inr "at")) (some (.int (i + 1))) := by rw [← dg_at]; exact DGet.k hd1
      have gU1 : DGet H1 dr (kV (Sum.inr "used")) (some (.int k)) := by rw [← dg_used]; exact DGet.k hd1
      refine ⟨_, rfl, _, _, rfl, rfl, ⟨by decide, by decide, by decide⟩, _, _, rfl, rfl, _, rfl, ?_⟩
      refine ite2 (fun hg => ?_) (fun hg => ?_)
      · refine ⟨_, rfl, dr, _, rfl, gA1, _, rfl, cl, _, rfl, .inl (SqL.of hc1), _, _, rfl, rfl, _, rfl, ?_⟩
        refine ite2 (fun hg2 => ?_) (fun hg2 => ?_)
        · have hc0 : (0 : Int) ≤ c := by
            have := of_decide_eq_true hg
            have e : (10 : Int) ^ (18 : Int).toNat = 1000000000000000000 := by decide
            rw [e] at this
            omega
          refine ⟨_, rfl, _, rfl, _, _, rfl, rfl, ⟨by omega, by omega⟩, _, rfl, dr, _, rfl, DPut.k (k := Sum.inr "left") hd1 (by show 4 < sizeLine; rw [sizeLine_eq]; decide), ?_⟩
          rw [dp_left]
          refine ⟨_, rfl, _, rfl, _, _, rfl, rfl, by omega, ?_⟩
          show Q (.int (Int.fmod c b)) _
          rw [Int.fmod_eq_emod_of_nonneg _ (by omega)]
          refine q _ _ (modb _ hb0).1 (modb _ hb0).2 ⟨cs, i + 1, _, k, upd_same, by rw [upd_ne ncd]; exact hc1, hne, hcl, by omega, by omega, ?_, hk0, by omega⟩ fun z hz => by rw [upd_ne hz]; exact ke1 z hz
          rw [Int.fdiv_eq_ediv_of_nonneg _ (by omega)]
          exact Int.ediv_nonneg hc0 (by omega)
        · skip
          refine ⟨_, rfl, dr, _, rfl, gU1, _, _, rfl, rfl, _, rfl, dr, _, rfl, DPut.k (k := Sum.inr "used") hd1 (by show 4 < sizeLine; rw [sizeLine_eq]; decide), ?_⟩
          rw [dp_used]
          have hd2 : upd H1 dr (.dK (drawKvs cl (i + 1) j (k + 1))) dr = some (.dK (drawKvs cl (i + 1) j (k + 1))) := upd_same
          have hc2 : upd H1 dr (.dK (drawKvs cl (i + 1) j (k + 1))) cl = some (.lst (cs.map V.int)) := by rw [upd_ne ncd]; exact hc1
          have ke2 : ∀ z, z ≠ dr → upd H1 dr (.dK (drawKvs cl (i + 1) j (k + 1))) z = H z := fun z hz => by rw [upd_ne hz]; exact ke1 z hz
          generalize upd H1 dr (.dK (drawKvs cl (i + 1) j (k + 1))) = H2 at hd2 hc2 ke2
          have gA2 : DGet H2 dr (kV (Sum.inr "at")) (some (.int (i + 1))) := by rw [← dg_at]; exact DGet.k hd2
          have gU2 : DGet H2 dr (kV (Sum.inr "used")) (some (.int (k + 1))) := by rw [← dg_used]; exact DGet.k hd2
          refine ⟨_, rfl, _, rfl, dr, _, rfl, gA2, c, i + 1, rfl, by omega, by omega, fun r1 => ?_⟩
          refine ⟨_, rfl, dr, _, rfl, gU2, r1, k + 1, rfl, by omega, by omega, fun r2 => ?_⟩
          refine ⟨_, rfl, _, _, rfl, rfl, by omega, ?_⟩
          have hr2 := modb r2 hb0
          show Q (.int (Int.fmod r2 b)) _
          rw [Int.fmod_eq_emod_of_nonneg _ (by omega)]
          exact q _ _ hr2.1 hr2.2 ⟨cs, i + 1, j, k + 1, hd2, hc2, hne, hcl, by omega, by omega, hj0, by omega, by omega⟩ ke2
      · refine iteF ?_
        refine ⟨_, rfl, dr, _, rfl, gU1, _, _, rfl, rfl, _, rfl, dr, _, rfl, DPut.k (k := Sum.inr "used") hd1 (by show 4 < sizeLine; rw [sizeLine_eq]; decide), ?_⟩
        rw [dp_used]
        have hd2 : upd H1 dr (.dK (drawKvs cl (i + 1) j (k + 1))) dr = some (.dK (drawKvs cl (i + 1) j (k + 1))) := upd_same
        have hc2 : upd H1 dr (.dK (drawKvs cl (i + 1) j (k + 1))) cl = some (.lst (cs.map V.int)) := by rw [upd_ne ncd]; exact hc1
        have ke2 : ∀ z, z ≠ dr → upd H1 dr (.dK (drawKvs cl (i + 1) j (k + 1))) z = H z := fun z hz => by rw [upd_ne hz]; exact ke1 z hz
        generalize upd H1 dr (.dK (drawKvs cl (i + 1) j (k + 1))) = H2 at hd2 hc2 ke2
        have gA2 : DGet H2 dr (kV (Sum.inr "at")) (some (.int (i + 1))) := by rw [← dg_at]; exact DGet.k hd2
        have gU2 : DGet H2 dr (kV (Sum.inr "used")) (some (.int (k + 1))) := by rw [← dg_used]; exact DGet.k hd2
        refine ⟨_, rfl, _, rfl, dr, _, rfl, gA2, c, i + 1, rfl, by omega, by omega, fun r1 => ?_⟩
        refine ⟨_, rfl, dr, _, rfl, gU2, r1, k + 1, rfl, by omega, by omega, fun r2 => ?_⟩
        refine ⟨_, rfl, _, _, rfl, rfl, by omega, ?_⟩
        have hr2 := modb r2 hb0
        show Q (.int (Int.fmod r2 b)) _
        rw [Int.fmod_eq_emod_of_nonneg _ (by omega)]
        exact q _ _ hr2.1 hr2.2 ⟨cs, i + 1, j, k + 1, hd2, hc2, hne, hcl, by omega, by omega, hj0, by omega, by omega⟩ ke2
end
end TR

namespace TR
open PySem PySem.Spec PyProof.Rows L2 L2.TT StX ClX
theorem DrawAt.mono {H : Hp} {dr cl : Addr} {n m : Nat} (d : DrawAt H dr cl n) (h : n ≤ m) : DrawAt H dr cl m := by
  obtain ⟨cs, i, j, k, h1, h2, h3, h4, h5, h6, h7, h8, h9⟩ := d
  exact ⟨cs, i, j, k, h1, h2, h3, h4, h5, by omega, h7, h8, by omega⟩
theorem DrawAt.keep {H H' : Hp} {dr cl : Addr} {n : Nat} (d : DrawAt H dr cl n) (e1 : H' dr = H dr) (e2 : H' cl = H cl) : DrawAt H' dr cl n := by
  obtain ⟨cs, i, j, k, h1, h2, r⟩ := d
  exact ⟨cs, i, j, k, e1.trans h1, e2.trans h2, r⟩
theorem DrawAt.same {H H' : Hp} {dr cl : Addr} {n : Nat} (d : DrawAt H dr cl n) (s : Same H H') : DrawAt H' dr cl n := by
  obtain ⟨cs, i, j, k, h1, h2, r⟩ := d
  exact ⟨cs, i, j, k, s _ _ h1, s _ _ h2, r⟩
theorem DrawAt.some1 {H : Hp} {dr cl : Addr} {n : Nat} (d : DrawAt H dr cl n) : ∃ kvs, H dr = some (.dK kvs) := by
  obtain ⟨cs, i, j, k, h1, h2, r⟩ := d
  exact ⟨_, h1⟩
theorem DrawAt.some2 {H : Hp} {dr cl : Addr} {n : Nat} (d : DrawAt H dr cl n) : ∃ xs, H cl = some (.lst xs) := by
  obtain ⟨cs, i, j, k, h1, h2, r⟩ := d
  exact ⟨_, h2⟩
/-- all but the draw stands as before -/
def Fr (dr : Addr) (H H' : Hp) : Prop := ∀ b o, H b = some o → b ≠ dr → H' b = some o
theorem Fr.refl {dr : Addr} {H : Hp} : Fr dr H H := fun _ _ e _ => e
theorem Fr.trans {dr : Addr} {H H1 H2 : Hp} (a : Fr dr H H1) (b : Fr dr H1 H2) : Fr dr H H2 := fun c o e n => b _ _ (a _ _ e n) n
theorem Fr.of {dr : Addr} {H H' : Hp} (h : ∀ q, q ≠ dr → H' q = H q) : Fr dr H H' := fun b o e n => by rw [h b n]; exact e
theorem Fr.sm {dr : Addr} {H H' : Hp} (h : Same H H') : Fr dr H H' := fun b o e _ => h b o e
theorem Prs.fr {dr : Addr} {H H' : Hp} {ps : List Addr} {tr : List E2} {kvs : List (Key × V)} (h : Prs H ps tr) (k : Fr dr H H') (hd : H dr = some (.dK kvs)) : Prs H' ps tr :=
  ⟨h.1, fun i p e a b => k _ _ (h.2 i p e a b) (ne_of (h.2 i p e a b) hd (by intro z; cases z))⟩
theorem Fr.free {dr : Addr} {H H' : Hp} (k : Fr dr H H') {b : Addr} (hb : b ≠ dr) (h : H' b = none) : H b = none := by
  cases e : H b with
  | none => rfl
  | some o =>
    rw [k _ _ e hb] at h
    cases h
structure TI (H H' : Hp) (dr cl fl : Addr) (i n : Nat) (ps : List Addr) (tr : List E2) : Prop where
  D : DrawAt H' dr cl n
  fr : Fr dr H H'
  hf : H' fl = some (.lst (ps.map V.ref))
  P : Prs H' ps tr
  len : tr.length = i
  mxs : tr.map mx = List.range' 1 i
  ne : ∀ e ∈ tr, e.1 ≠ e.2
theorem TI.step {H H' : Hp} {dr cl fl : Addr} {i n m : Nat} {ps : List Addr} {tr : List E2} (t : TI H H' dr cl fl i n ps tr) (nf : H fl = none) (fd : fl ≠ dr) (fc : fl ≠ cl) {H3 : Hp} (D3 : DrawAt H3 dr cl m) (k : Fr dr H' H3) {p : Addr} (np : H3 p = none)
    {e : E2} (he : mx e = i + 1) (hne : e.1 ≠ e.2) : TI H (upd (upd H3 p (.tup [iv e.1, iv e.2])) fl (.lst (ps.map V.ref ++ [.ref p]))) dr cl fl (i + 1) m (ps ++ [p]) (tr ++ [e]) := by
  obtain ⟨kvs, hd0⟩ := t.D.some1
  obtain ⟨kv3, hd3⟩ := D3.some1
  obtain ⟨xs3, hc3⟩ := D3.some2
  have hf3 := k _ _ t.hf fd
  have npf : p ≠ fl := fun z => by rw [z, hf3] at np; cases np
  have npd : p ≠ dr := fun z => by rw [z, hd3] at np; cases np
  have npc : p ≠ cl := fun z => by rw [z, hc3] at np; cases np
  have P3 := t.P.fr k hd0
  refine ⟨D3.keep (by rw [upd_ne fd.symm, upd_ne npd.symm]) (by rw [upd_ne fc.symm, upd_ne npc.symm]), fun b o eb nb => ?_, by rw [upd_same, List.map_append]; rfl, ?_, by rw [List.length_append, t.len]; rfl, ?_, ?_⟩
  · have h1 := k _ _ (t.fr _ _ eb nb) nb
    rw [upd_ne (ne_of_none eb nf), upd_ne (ne_of_none h1 np)]
    exact h1
  · have P4 : Prs (upd H3 p (.tup [iv e.1, iv e.2])) (ps ++ [p]) (tr ++ [e]) := (P3.same (same_upd np _)).snoc upd_same
    refine ⟨P4.1, fun j q d hq hd => ?_⟩
    have h1 := P4.2 j q d hq hd
    have hf4 : upd H3 p (.tup [iv e.1, iv e.2]) fl = some (.lst (ps.map V.ref)) := by rw [upd_ne npf.symm]; exact hf3
    rw [upd_ne (ne_of h1 hf4 (by intro z; cases z))]
    exact h1
  · rw [List.map_append, t.mxs, List.range'_concat]
    show _ ++ [mx e] = _ ++ [1 + 1 * i]
    rw [he]
    congr 2
    omega
  · intro d hd
    rcases List.mem_append.mp hd with hd | hd
    · exact t.ne d hd
    · rw [List.mem_singleton] at hd
      rw [hd]
      exact hne
theorem pick5 {r i : Int} (h0 : 0 ≤ r) (h1 : r < 5) {a b c d e : Int} (ha : 0 ≤ a ∧ a ≤ i) (hb : 0 ≤ b ∧ b ≤ i) (hc : 0 ≤ c ∧ c ≤ i) (hd : 0 ≤ d ∧ d ≤ i) (he : 0 ≤ e ∧ e ≤ i) : ∃ x, atI [V.int a, V.int b, V.int c, V.int d, V.int e] r = some (.int x) ∧ 0 ≤ x ∧ x ≤ i := by
  have : r = 0 ∨ r = 1 ∨ r = 2 ∨ r = 3 ∨ r = 4 := by omega
  rcases this with rfl | rfl | rfl | rfl | rfl
  · exact ⟨a, rfl, ha⟩
  · exact ⟨b, rfl, hb⟩
  · exact ⟨c, rfl, hc⟩
  · exact ⟨d, rfl, hd⟩
  · exact ⟨e, rfl, he⟩
theorem Prs.rot {H : Hp} {ps : List Addr} {tr : List E2} (h : Prs H ps tr) (k : Nat) : Prs H (ps.drop k ++ ps.take k) (tr.drop k ++ tr.take k) := by
  have hl : (ps.drop k).length = (tr.drop k).length := by rw [List.length_drop, List.length_drop, h.1]
  refine ⟨by rw [List.length_append, List.length_append, hl, List.length_take, List.length_take, h.1], fun i p e hp he => ?_⟩
  by_cases c : i < (ps.drop k).length
  · rw [List.getElem?_append_left c, List.getElem?_drop] at hp
    rw [List.getElem?_append_left (by omega), List.getElem?_drop] at he
    exact h.2 _ p e hp he
  · rw [List.getElem?_append_right (by omega)] at hp
    rw [List.getElem?_append_right (by omega)] at he
    rw [← hl] at he
    have c2 : i - (ps.drop k).length < k := by
      have := (List.getElem?_eq_some_iff.mp hp).1
      rw [List.length_take] at this
      omega
    rw [List.getElem?_take_of_lt c2] at hp he
    exact h.2 _ p e hp he
theorem tree_rot {tr : List E2} (ne : ∀ e ∈ tr, e.1 ≠ e.2) (hm : tr.map mx = List.range' 1 tr.length) (k : Nat) : TreeL (tr.drop k ++ tr.take k) := by
  have hp : (tr.drop k ++ tr.take k).Perm tr := by
    have h1 : (tr.drop k ++ tr.take k).Perm (tr.take k ++ tr.drop k) := List.perm_append_comm
    rw [List.take_append_drop] at h1
    exact h1
  refine tree_drawn (fun e he => ne e (hp.mem_iff.mp he)) ?_
  rw [hp.length_eq, ← hm]
  exact hp.map mx
def spTracks : Sp := fun vs H Q _ => ∃ (dr cl : Addr) (m : Int) (n : Nat), vs = [.ref dr, .int m] ∧ DrawAt H dr cl n ∧ n ≤ 800000000 ∧ 0 < m ∧ m ≤ 100 ∧
  ∀ (a : Addr) (ps : List Addr) (tr : List E2) (H' : Hp), DrawAt H' dr cl (n + 400) → Fr dr H H' → H' a = some (.tup (ps.map V.ref)) → Prs H' ps tr → TreeL tr → (tr.length : Int) < m → Q (.ref a) H'
section
variable {P : Program} {w : World} {K : PySem.W.Frag} {mg : Str → Option Value} {base : Heap}
theorem sc_trk : FnScope NTr ["draw", "most"] (defScope s_law_tracks) := ⟨rfl, rfl, rfl, by decide +kernel, rfl, by decide +kernel, by decide +kernel⟩
theorem ok_trk {f fn : Addr} {fd fdn : FuncData} (F : Fun K "_law_tracks" "_law_tracks" s_law_tracks f fd) (N : Nm mg) (U : Use P w K mg base CX0 2 "_law_next" fn fdn ["draw", "bound"] spNext) : FnOk P w K mg base CX0 3 f fd ["draw", "most"] spTracks := by
  refine F.ok sc_trk (fun vs H Q E h => ?_) (fun cdv A outer s H vs Q E hr h => ?_)
  · obtain ⟨dr, cl, m, n, rfl, _⟩ := h
    rfl
  · obtain ⟨dr, cl, m, n, rfl, D, hn, hm0, hm1, k⟩ := h
    refine ⟨_, pss_cons (ps_par3 (i := 2) (j := 3) (l := 4) (by rfl) sc_trk.nd rfl rfl rfl (by decide) (by decide) (by decide) rfl rfl rfl (pa_cons (pe_op op_add pe_int (pe_use U hr rfl (pa_cons (pv 0) (pa_cons (pv 1) pa_nil)))) (pa_cons (pe_use U hr rfl (pa_cons (pv 0) (pa_cons pe_int pa_nil))) (pa_cons (pe_lst pa_nil) pa_nil))) (by rfl))
      (pss_cons (ps_for PassesOwn.never rfl (pi_range2 (by rfl) N.range (pa_cons pe_int (pa_cons (pv 2) pa_nil))) (pg_name (i := 5) sc_trk.nd rfl (.inl rfl))
        (pss_cons (ps_set (i := 6) sc_trk.nd rfl (.inl rfl) (pe_ix ix_list (pe_lst (pa_cons (pe_op op_sub (pv 5) pe_int) (pa_cons pe_int (pa_cons (pe_callB (call_max2 rfl) (by rfl) N.max PyProof.Rows.boot_max (pa_cons pe_int (pa_cons (pe_op op_sub (pv 5) pe_int) pa_nil)))
            (pa_cons (pe_callB (call_max2 rfl) (by rfl) N.max PyProof.Rows.boot_max (pa_cons pe_int (pa_cons (pe_op op_sub (pv 5) pe_int) pa_nil))) (pa_cons (pe_op op_fdiv (pv 5) pe_int) pa_nil)))))) (pv 3) (fun _ _ => rfl)))
        (pss_cons (ps_set (i := 7) sc_trk.nd rfl (.inl rfl) (pe_ifExp (pt_cmpR op_gt (pe_use U hr rfl (pa_cons (pv 0) (pa_cons pe_int pa_nil))) pe_int (nomark _)) (pv 6) (pe_use U hr rfl (pa_cons (pv 0) (pa_cons (pv 5) pa_nil)))))
        (pss_one (ps_expr (pe_bm PySem.F.plainAttrs_list PySem.F.slot_list_append PySem.F.type_list_append mt_append (pv 4) (pa_cons
          (pe_ifExp (pt_cmpR op_eq (pe_use U hr rfl (pa_cons (pv 0) (pa_cons pe_int pa_nil))) pe_int (nomark _)) (pe_tup (pa_cons (pv 7) (pa_cons (pv 5) pa_nil))) (pe_tup (pa_cons (pv 5) (pa_cons (pv 7) pa_nil)))) pa_nil))))))
      )
      (pss_cons (ps_set (i := 8) sc_trk.nd rfl (.inl rfl) (pe_use U hr rfl (pa_cons (pv 0) (pa_cons (pe_op op_add (pe_callB call_len_seq (by rfl) N.len PySem.boot_len (pa_cons (pv 4) pa_nil)) pe_int) pa_nil))))
      (pss_one (ps_ret (pe_callTy call_tuple_of (by rfl) N.tuple boot_tuple (pa_cons (pe_op op_cat (pe_slice sl_list (pv 4) (po_some (pv 8)) po_none) (pe_slice sl_list (pv 4) po_none (po_some (pv 8)))) pa_nil)))))), ?_⟩
    obtain ⟨kvs0, hd0⟩ := D.some1
    obtain ⟨xs0, hc0⟩ := D.some2
    refine ⟨_, rfl, _, rfl, dr, cl, m, n, rfl, D, by omega, hm0, by omega, fun c0 Ha c00 c01 Da ka => ?_⟩
    refine ⟨_, _, rfl, rfl, _, rfl, dr, cl, 5, _, rfl, Da, by omega, by decide, by decide, fun sh Hb sh0 sh1 Db kb => ?_⟩
    refine ⟨by show 0 ≤ sizeLine; exact Nat.zero_le _, fun fl nfl => ?_⟩
    have frb : Fr dr H Hb := (Fr.of ka).trans (Fr.of kb)
    obtain ⟨kvb, hdb⟩ := Db.some1
    obtain ⟨xsb, hcb⟩ := Db.some2
    have fd : fl ≠ dr := fun z => by rw [z, hdb] at nfl; cases nfl
    have fc : fl ≠ cl := fun z => by rw [z, hcb] at nfl; cases nfl
    have nf : H fl = none := frb.free fd nfl
    refine ⟨_, _, _, rfl, ?_⟩
    have T0 : TI H (upd Hb fl (.lst [])) dr cl fl 0 (n + 2) [] [] := ⟨Db.same (same_upd nfl _), frb.trans (Fr.sm (same_upd nfl _)), upd_same, ⟨rfl, fun _ _ _ h => nomatch h⟩, rfl, rfl, fun _ h => nomatch h⟩
    have e62 : (2 : Int) ^ 62 = 4611686018427387904 := by decide
    refine ⟨_, rfl, 1, _, rfl, ⟨by rw [e62]; omega, by rw [e62]; omega, by rw [e62]; omega, by rw [e62]; omega⟩, ?_⟩
    refine for_range (lo := 1) (fun i σ H1 => ∃ (ps : List Addr) (tr : List E2) (x5 x6 x7 x8 : Option V) (q : Nat), σ = [some (.ref dr), some (.int m), some (.int (1 + c0)), some (.int sh), some (.ref fl), x5, x6, x7, x8] ∧ q ≤ n + 2 + 3 * i ∧ TI H H1 dr cl fl i q ps tr) ⟨[], [], _, _, _, _, _, rfl, by omega, T0⟩ ?_ ?_
    · rintro i σ H1 hi ⟨ps, tr, x5, x6, x7, x8, q, rfl, hq, t⟩
      have hi2 : (i : Int) < 1 + c0 - 1 := by omega
      have lenb : (ps.map V.ref).length < sizeLine := by
        rw [List.length_map, t.P.1, t.len, sizeLine_eq]
        omega
      obtain ⟨b, hb, b0, b1⟩ := pick5 (r := sh) (i := i) sh0 sh1 (a := 1 + (i : Int) - 1) (b := 0) (c := if 1 + (i : Int) - 2 > 0 then 1 + (i : Int) - 2 else 0) (d := if 1 + (i : Int) - 3 > 0 then 1 + (i : Int) - 3 else 0) (e := (1 + (i : Int)) / 2) (by omega) (by omega) (by split <;> omega) (by split <;> omega) (by omega)
      refine ⟨_, rfl, _, _, rfl, rfl, _, rfl, _, _, rfl, rfl, _, _, rfl, _, rfl, _, _, rfl, rfl, _, _, rfl, _, rfl, _, _, rfl, rfl, ⟨by decide, by decide⟩, by show 5 ≤ sizeLine; rw [sizeLine_eq]; decide, fun lq nlq => ?_⟩
      refine ⟨_, rfl, lq, _, _, _, rfl, rfl, SqL.of upd_same, hb, ?_⟩
      have sL := same_upd (H := H1) nlq
      -- other
      refine ⟨_, rfl, dr, cl, 4, q, rfl, t.D.same (sL _), by omega, by decide, by decide, fun r4 H4 r40 r41 D4 k4 => ?_⟩
      have fr4 : Fr dr H1 H4 := (Fr.sm (sL _)).trans (Fr.of k4)
      refine ⟨_, _, rfl, rfl, _, rfl, ?_⟩
      refine ite2 (fun _ => ?_) (fun _ => ?_)
      · refine ⟨_, rfl, ?_⟩
        have o0 := b0
        have D2 := D4
        have k2 := fr4
        obtain ⟨on, rfl⟩ := Int.eq_ofNat_of_zero_le o0
        have fr2 : Fr dr H1 H4 := k2
        have hf2 := fr2 _ _ t.hf fd
        refine ⟨_, rfl, .inl ⟨rfl, _, SqL.of hf2⟩, _, rfl, dr, cl, 2, _, rfl, D2, by omega, by decide, by decide, fun z H3 z0 z1 D3 k3 => ?_⟩
        have fr3 : Fr dr H1 H3 := fr2.trans (Fr.of k3)
        have hf3 := fr3 _ _ t.hf fd
        refine ⟨rfl, _, rfl, ?_⟩
        refine ite2 (fun _ => ?_) (fun _ => ?_)
        · refine ⟨_, rfl, _, rfl, by show 2 ≤ sizeLine; rw [sizeLine_eq]; decide, fun p np => ⟨fl, _, _, rfl, rfl, same_upd np _ _ _ hf3, lenb, ?_⟩⟩
          have es : V.int (1 + (i : Int)) = iv (i + 1) := by show V.int _ = V.int _; congr 1; omega
          rw [es]
          exact ⟨_, _, _, _, _, _, q + 3, rfl, by omega, t.step nf fd fc (D3.mono (by omega)) fr3 np (e := (on, i + 1)) (by unfold mx; simp only; omega) (by show on ≠ i + 1; omega)⟩
        · refine ⟨_, rfl, _, rfl, by show 2 ≤ sizeLine; rw [sizeLine_eq]; decide, fun p np => ⟨fl, _, _, rfl, rfl, same_upd np _ _ _ hf3, lenb, ?_⟩⟩
          have es : V.int (1 + (i : Int)) = iv (i + 1) := by show V.int _ = V.int _; congr 1; omega
          rw [es]
          exact ⟨_, _, _, _, _, _, q + 3, rfl, by omega, t.step nf fd fc (D3.mono (by omega)) fr3 np (e := (i + 1, on)) (by unfold mx; simp only; omega) (by show i + 1 ≠ on; omega)⟩
      · refine ⟨_, rfl, _, rfl, dr, cl, _, _, rfl, D4, by omega, by omega, by omega, fun o H2 o0 o1 D2 k2' => ?_⟩
        have k2 : Fr dr H1 H2 := fr4.trans (Fr.of k2')
        obtain ⟨on, rfl⟩ := Int.eq_ofNat_of_zero_le o0
        have fr2 : Fr dr H1 H2 := k2
        have hf2 := fr2 _ _ t.hf fd
        refine ⟨_, rfl, .inl ⟨rfl, _, SqL.of hf2⟩, _, rfl, dr, cl, 2, _, rfl, D2, by omega, by decide, by decide, fun z H3 z0 z1 D3 k3 => ?_⟩
        have fr3 : Fr dr H1 H3 := fr2.trans (Fr.of k3)
        have hf3 := fr3 _ _ t.hf fd
        refine ⟨rfl, _, rfl, ?_⟩
        refine ite2 (fun _ => ?_) (fun _ => ?_)
        · refine ⟨_, rfl, _, rfl, by show 2 ≤ sizeLine; rw [sizeLine_eq]; decide, fun p np => ⟨fl, _, _, rfl, rfl, same_upd np _ _ _ hf3, lenb, ?_⟩⟩
          have es : V.int (1 + (i : Int)) = iv (i + 1) := by show V.int _ = V.int _; congr 1; omega
          rw [es]
          exact ⟨_, _, _, _, _, _, q + 3, rfl, by omega, t.step nf fd fc (D3.mono (by omega)) fr3 np (e := (on, i + 1)) (by unfold mx; simp only; omega) (by show on ≠ i + 1; omega)⟩
        · refine ⟨_, rfl, _, rfl, by show 2 ≤ sizeLine; rw [sizeLine_eq]; decide, fun p np => ⟨fl, _, _, rfl, rfl, same_upd np _ _ _ hf3, lenb, ?_⟩⟩
          have es : V.int (1 + (i : Int)) = iv (i + 1) := by show V.int _ = V.int _; congr 1; omega
          rw [es]
          exact ⟨_, _, _, _, _, _, q + 3, rfl, by omega, t.step nf fd fc (D3.mono (by omega)) fr3 np (e := (i + 1, on)) (by unfold mx; simp only; omega) (by show i + 1 ≠ on; omega)⟩
    · rintro σ H1 ⟨ps, tr, x5, x6, x7, x8, q, rfl, hq, t⟩
      have hcl : ((1 + c0 - 1).toNat : Int) = c0 := by omega
      have lps : (ps.map V.ref).length = ps.length := List.length_map _
      have lpt : ps.length = tr.length := t.P.1
      have ltr : tr.length = (1 + c0 - 1).toNat := t.len
      refine ⟨_, rfl, _, rfl, fl, _, rfl, .inl (SqL.of t.hf), _, _, rfl, rfl, dr, cl, _, q, rfl, t.D, by omega, by omega, by omega, fun z H2 z0 z1 D2 k2 => ?_⟩
      obtain ⟨zn, rfl⟩ := Int.eq_ofNat_of_zero_le z0
      obtain ⟨kv1, hd1⟩ := t.D.some1
      have hf2 := Fr.of k2 _ _ t.hf fd
      have P2 := t.P.fr (Fr.of k2) hd1
      have zl : zn ≤ ps.length := by omega
      refine ⟨_, rfl, _, rfl, _, rfl, fl, _, rfl, SqL.of hf2, fun p np => ?_⟩
      have s3 := same_upd np (.lst (cutV (ps.map V.ref) (some (zn : Int)) none))
      refine ⟨_, rfl, _, rfl, _, rfl, fl, _, rfl, SqL.of (s3 _ _ hf2), fun p2 np2 => ?_⟩
      have s4 := same_upd np2 (.lst (cutV (ps.map V.ref) none (some (zn : Int))))
      have e1 : cutV (ps.map V.ref) (some (zn : Int)) none = (ps.drop zn).map V.ref := by
        unfold cutV
        rw [HT.sIx_nat, HT.sIx_none, Nat.min_eq_left (by omega), List.map_drop]
        exact List.take_of_length_le (by rw [List.length_drop]; exact Nat.le_refl _)
      have e2 : cutV (ps.map V.ref) none (some (zn : Int)) = (ps.take zn).map V.ref := by
        unfold cutV
        rw [HT.sIx_nat, HT.sIx_none, Nat.min_eq_left (by omega), List.drop_zero, Nat.sub_zero, List.map_take]
      refine ⟨p, p2, _, _, rfl, rfl, s4 _ _ upd_same, upd_same, by rw [e1, e2, List.length_map, List.length_map, List.length_drop, List.length_take, sizeLine_eq]; omega, fun p3 np3 => ?_⟩
      have s5 := same_upd np3 (.lst (cutV (ps.map V.ref) (some (zn : Int)) none ++ cutV (ps.map V.ref) none (some (zn : Int))))
      refine ⟨p3, _, rfl, .inl ⟨SqL.of upd_same, fun p4 np4 => ?_⟩⟩
      have s6 := ((s3.trans s4).trans s5).trans (same_upd np4 (.tup (cutV (ps.map V.ref) (some (zn : Int)) none ++ cutV (ps.map V.ref) none (some (zn : Int)))))
      have e3 : cutV (ps.map V.ref) (some (zn : Int)) none ++ cutV (ps.map V.ref) none (some (zn : Int)) = (ps.drop zn ++ ps.take zn).map V.ref := by rw [e1, e2, List.map_append]
      have hl2 : (tr.drop zn ++ tr.take zn).length = tr.length := by
        rw [List.length_append, List.length_drop, List.length_take]
        omega
      refine k p4 (ps.drop zn ++ ps.take zn) (tr.drop zn ++ tr.take zn) _ ((D2.same s6).mono (by omega)) ((t.fr.trans (Fr.of k2)).trans (Fr.sm s6)) ?_ ((P2.rot zn).same s6) (tree_rot t.ne (by rw [t.mxs, t.len]) zn) (by rw [hl2]; omega)
      rw [upd_same, e3]
end
end TR

namespace L2.TT
open PySem PySem.Spec PyProof.Rows HT
section
variable {prog : Program} {w : World} {A : Around} {E : Value → Shared → Prop} {s : Shared}
theorem adjust_rev (n : Nat) : Builtin.Slice.sliceAdjust none none (-1) (n : Int) = ((n : Int) - 1, -1) := by
  unfold Builtin.Slice.sliceAdjust
  have h1 : ((-1 : Int) < 0) := by decide
  simp only [h1, if_true]
theorem places_rev (n : Nat) : Builtin.Slice.slicePlaces ((n : Int) - 1) (-1) (-1) = n := by
  unfold Builtin.Slice.slicePlaces
  have h1 : ¬ ((-1 : Int) > 0) := by decide
  have e : ((n : Int) - 1 - -1 - 1) / (- -1) = (n : Int) - 1 := by
    rw [show (- -1 : Int) = 1 by decide, Int.ediv_one]
    omega
  simp only [h1, if_false, e]
  split <;> omega
theorem applied_rev {sl : Addr} {vl vu vs : Value} {n : Nat} {Q : Int × Int × Nat → Shared → Prop} (hs : s.heap.IsSliceOf sl vl vu vs) (pl : IsPart vl none) (pu : IsPart vu none) (ps : IsPart vs (some (-1)))
    (h : Q ((n : Int) - 1, -1, n) s) : wpAny (model prog w) A (Builtin.Slice.sliceApplied (.ref sl) (pure (n : Int))) Q E s := by
  obtain ⟨os, hos, hcs, hds⟩ := id hs
  unfold Builtin.Slice.sliceApplied Builtin.Slice.sliceFields
  refine wpAny_bind (wpAny_bind (wpAny_field hos hds (x := vl) rfl (wpAny_bind (wpAny_field hos hds (x := vu) rfl (wpAny_bind (wpAny_field hos hds (x := vs) rfl (wpAny_pure ?_)))))))
  refine wpAny_bind (slicePart_ ps ?_)
  show wpAny _ _ (if ((-1 : Int) == 0) = true then _ else _) _ _ s
  rw [if_neg (by decide)]
  refine wpAny_bind (slicePart_ pl (wpAny_bind (slicePart_ pu (wpAny_bind (wpAny_pure ?_)))))
  show wpAny _ _ (match Builtin.Slice.sliceAdjust none none (-1) (n : Int) with | (lo, hi) => pure (lo, (-1 : Int), Builtin.Slice.slicePlaces lo hi (-1))) _ _ s
  rw [adjust_rev n]
  show wpAny _ _ (pure ((n : Int) - 1, (-1 : Int), Builtin.Slice.slicePlaces ((n : Int) - 1) (-1) (-1))) _ _ s
  rw [places_rev]
  exact wpAny_pure h
theorem fm_congr {α β : Type} {f g : α → Option β} : ∀ {l : List α}, (∀ x ∈ l, f x = g x) → l.filterMap f = l.filterMap g
  | [], _ => rfl
  | a :: l, h => by
    have ih := fm_congr (l := l) fun x hx => h x (List.mem_cons_of_mem _ hx)
    have ha := h a (by simp)
    cases e : g a with
    | none => rw [List.filterMap_cons_none (ha.trans e), List.filterMap_cons_none e, ih]
    | some b => rw [List.filterMap_cons_some (ha.trans e), List.filterMap_cons_some e, ih]
theorem pick_rev (xs : Array Value) : ((List.range xs.size).filterMap fun (m : Nat) => xs[(((xs.size : Nat) : Int) - 1 + (m : Int) * -1).toNat]?).toArray = xs.toList.reverse.toArray := by
  have e : (List.range xs.size).filterMap (fun (m : Nat) => xs[(((xs.size : Nat) : Int) - 1 + (m : Int) * -1).toNat]?) = ((List.range xs.size).map fun k => xs.size - 1 - k).filterMap (xs[·]?) := by
    rw [List.filterMap_map]
    apply fm_congr
    intro m hm
    have := List.mem_range.mp hm
    have e2 : (((xs.size : Nat) : Int) - 1 + (m : Int) * -1).toNat = xs.size - 1 - m := by omega
    rw [e2]
    rfl
  rw [e, PySem.W.krv_range, List.filterMap_reverse, PySem.W.krv_all]
theorem getItem_tuple_rev {t sl : Addr} {items : Array Value} {vl vu vs : Value} {Q : Value → Shared → Prop} (ht : IsTup s.heap t items) (hs : s.heap.IsSliceOf sl vl vu vs) (pl : IsPart vl none) (pu : IsPart vu none) (ps : IsPart vs (some (-1)))
    (h : Q (.ref s.heap.objs.size) { s with heap := s.heap.push { cls := .type "tuple", data := .seq items.toList.reverse.toArray } })
    (hsz : items.size ≤ sizeLine) : wpAny (model prog w) A (getItem (.ref t) (.ref sl)) Q E s := by
  have htake : sizeOk (.seq items.toList.reverse.toArray) := by
    show items.toList.reverse.toArray.size ≤ sizeLine
    rw [List.size_toArray, List.length_reverse, Array.length_toList]
    exact hsz
  obtain ⟨os, hos, hcs, hds⟩ := id hs
  have hTs : s.TypeIs (.ref sl) "slice" := ⟨os, hos, hcs⟩
  unfold getItem
  try with_reducible refine wpAny_holding ?_
  first | refine wpAny_bind (wpAny_pure ?_) | skip
  refine wpAny_bind (wpAny_sequenceKey ht.typeIs (by decide) ?_)
  refine wpAny_bind (wpAny_callSpecial?_slot (name := Str.ofString "__getitem__") ht.typeIs PyProof.Rows.slot_tuple_getitem
    (wpAny_call_entry PyProof.Rows.slot_tuple_getitem ht.typeIs entry_tuple_getitem ?_ (args_tuple_getitem _ _)))
  show wpAny _ _ (Builtin.Tuple.tupleItemsOf (.ref t) >>= _) _ _ s
  refine wpAny_bind (tupleItemsOf_ ht ?_)
  refine wpAny_bind (wpAny_typeOf hTs ?_)
  rw [if_pos (by decide)]
  refine wpAny_bind (applied_rev hs pl pu ps ?_)
  have hno : ¬ ((((items.size : Nat) : Int) - 1 == 0 && (-1 : Int) == 1 && items.size == items.size) = true) := by
    intro q
    rw [Bool.and_eq_true, Bool.and_eq_true] at q
    exact absurd q.1.2 (by decide)
  show wpAny _ _ (if (((items.size : Nat) : Int) - 1 == 0 && (-1 : Int) == 1 && items.size == items.size) = true then _ else _) _ _ s
  rw [if_neg hno, pick_rev]
  first
    | exact wpAny_bind (m := Builtin.Tuple.tupleExact _) (wpAny_newObj_type (wpAny_pure ⟨_, rfl, wpAny_pure h⟩) htake)
    | exact wpAny_bind (m := Builtin.Tuple.tupleExact _) (wpAny_newObj_type (wpAny_bind (wpAny_pure (wpAny_pure ⟨_, rfl, wpAny_pure h⟩))) htake)
    | exact wpAny_bind (wpAny_bind (m := Builtin.Tuple.tupleExact _) (wpAny_newObj_type (wpAny_pure (wpAny_pure ⟨_, rfl, wpAny_pure h⟩)) htake))
    | exact wpAny_bind (wpAny_bind (m := Builtin.Tuple.tupleExact _) (wpAny_newObj_type (wpAny_pure ⟨_, rfl, wpAny_pure h⟩) htake))
end
section
variable {X : Cx}
/-- t[::-1] -/
def tRevT (K : PySem.W.Frag) (te : TE) : TE := fun σ H Q => te σ H fun x H1 => ∃ a xs, x = .ref a ∧ SqT K H1 a xs ∧ ∀ p, H1 p = none → Q (.ref p) (upd H1 p (.tup xs.reverse))
theorem pe_revT {e : Expr} {te : TE} {k : Nat} {p1 p2 p3 pos : Pos} (he : PE X e te) : PE X (.Subscript e (.Slice none none (some (.UnaryOp .USub (.Constant (.int 1) k p1) p2)) p3) pos) (tRevT X.K te) := by
  refine ⟨fun pins s σ H Q I h => ?_⟩
  refine Subscript_ (thn (he.run pins s σ H _ I h) fun v s1 ⟨x, H1, I1, r1, q1⟩ => ?_)
  obtain ⟨a, xs, ex, hx, q⟩ := q1
  subst ex
  cases r1
  have hst : PO X (some (.UnaryOp .USub (.Constant (.int 1) k p1) p2)) (tPart (tUn (rU fun i => .int (-i)) (tC (.int 1)))) := po_some (pe_un un_neg pe_int)
  refine wpAny_Slice (thn (po_none.run pins s1 σ H1 (fun o H2 => o = none ∧ H2 = H1) I1 ⟨rfl, rfl⟩) fun vl s2 ⟨l, H2, I2, pl, el, e2⟩ => ?_)
  subst el e2
  refine thn (po_none.run pins s2 σ H2 (fun o H3 => o = none ∧ H3 = H2) I2 ⟨rfl, rfl⟩) fun vu s3 ⟨u, H3, I3, pu, eu, e3⟩ => ?_
  subst eu e3
  refine thn (hst.run pins s3 σ H3 (fun o H4 => o = some (-1) ∧ H4 = H3) I3 ⟨1, rfl, -1, rfl, rfl, rfl⟩) fun vs s4 ⟨o, H4, I4, ps, eo, e4⟩ => ?_
  subst eo e4
  have I5 : Inv X pins σ H4 { s4 with heap := s4.heap.push { cls := .type "slice", data := .fields #[vl, vu, vs] } } := I4.kept (t' := s4.toks) fun b ob q => Heap.get?_push_of_some _ q
  obtain ⟨its, r, ht, hz⟩ := I5.tuple hx
  have hlen := r.length
  show wpAny (model X.prog X.w) X.A (subscriptTail e (.Slice none none (some (.UnaryOp .USub (.Constant (.int 1) k p1) p2)) p3) (.ref a) (.ref s4.heap.objs.size)) (EP X pins σ Q) X.xe { s4 with heap := s4.heap.push { cls := .type "slice", data := .fields #[vl, vu, vs] } }
  refine tail_any (ops := [.ref a, .ref s4.heap.objs.size]) ht.typeIs PyProof.Rows.slot_tuple_getitem.lookup ?_ (by with_unfolding_all rfl)
  refine getItem_tuple_rev ht (Heap.IsSliceOf.new _ vl vu vs) pl pu ps ?_ (by rw [List.size_toArray]; omega)
  refine ⟨.ref _, _, I5.laid (t' := s4.toks) (o := .tup xs.reverse) (fun b ob q => Heap.get?_push_of_some _ q) (Nat.le_refl _) ?_, rfl, q _ (I5.hok.fresh (Nat.le_refl _))⟩
  exact ⟨by rw [List.length_reverse]; exact hz, _, r.reverse, IsTup.new _ _⟩
end
end L2.TT

namespace L2.TT
open PySem PySem.Spec PyProof.Rows PySem.W StX
section
variable {X : Cx} {CX : CXT} {k : Nat} {f C : Addr} {fd : FuncData} {ps ks : List Str} {sp : Sp} {E : XK} {x : Str} {p pos : Pos} {e : Expr} {es : List Expr} {kws : List Keyword} {t tk : TA}
/-- f(k = v, ..), all by name -/
def tKW (m : Nat) (sp : Sp) (gV : List V → List V) (E : XK) (tk : TA) : TE := fun σ H Q => tk σ H fun zs H1 => zs.length = m ∧ sp (gV zs) H1 Q E
theorem pe_callKW0 {gg : List Value → List Value} {hV : List V → List V} (F : FnOk X.prog X.w X.K X.mg X.base CX k f fd ps sp) (hr : Room k X.A)
    (hb : ∀ (s : Shared) (ws : List Value), X.K.In s.heap → ws.length = ks.length → BindsTo s fd ⟨[], ks.zip ws⟩ (ps.zip (gg ws))) (hrel : ∀ {zs : List V} {ws : List Value}, zs.length = ks.length → Vals zs ws → Vals (hV zs) (gg ws))
    (hx : Passes CX X E) (hg : Gl X x) (hm : X.mg x = some (.ref f)) (hk : keepIn X.K (.ref f) = true) (hkw : PK X kws tk)
    (hall : (backToKw pos (keywordEach kws X.env)).all (·.1.isSome) = true := by rfl) (hks : (backToKw pos (keywordEach kws X.env)).filterMap (·.1) = ks := by rfl) (hdb : (x == ("__debug__" : Str)) = false := by decide)
    (hpl : ((backTo pos (starEach [] X.env)).any (·.1) || (backToKw pos (keywordEach kws X.env)).any (·.1.isNone)) = false := by rfl) :
    PE X (.Call (.Name x p) [] kws pos) (tKW ks.length sp hV E tk) := by
  refine ⟨fun pins s σ H Q I h => ?_⟩
  refine wpAny_Call_Name_kw (ld_glob I hg hm ?_ hdb)
  refine callWith_KW0 (h₀ := X.base) I.ok.mod.kin hk hall ?_ hpl
  refine thn (hkw.run pos pins s σ H _ I h) fun ws s2 ⟨zs, H2, I2, rz, l2, q2⟩ => ⟨I2.kIn, ?_⟩
  rw [hks]
  have lw : ws.length = ks.length := rz.length.symm.trans l2
  refine wpAny_call (codeAny_mono (F.run X.A X.stack s2 H2 ⟨[], ks.zip ws⟩ (gg ws) (hV zs) Q E hr I2.env0 (hb s2 ws I2.kIn lw) (hrel l2 rz) q2) fun r s' hq => ?_)
  cases r with
  | error er => exact hx pins σ H2 s2 er s' I2 hq
  | ok fl =>
    cases fl with
    | ret u => exact I2.after hq
    | next => exact False.elim hq
    | brk => exact False.elim hq
    | cont => exact False.elim hq
/-- f(e, ..), f a def that asks that no repr is under way -/
theorem pe_callG (F : FnG X.prog X.w X.K X.mg X.base CX k f fd ps sp) (hG : NoGuard X.A) (hr : Room k X.A) (hg : Gl X x) (hm : X.mg x = some (.ref f)) (hk : keepIn X.K (.ref f) = true) (hb : Binds X.K fd ps []) (hx : Passes CX X E) (ha : PA X (e :: es) t)
    (hdb : (x == ("__debug__" : Str)) = false := by decide) (he : starEach (e :: es) X.env = (false, eval e X.env) :: starEach es X.env := by rfl) (hpl : (backTo pos (starEach es X.env)).any (·.1) = false := by rfl) :
    PE X (.Call (.Name x p) (e :: es) [] pos) (fun σ H Q => t σ H fun vs H1 => sp vs H1 Q E) := by
  refine ⟨fun pins s σ H Q I h => ?_⟩
  refine wpAny_Call_Name_kw (ld_glob I hg hm ?_ hdb)
  refine callWith_K (h₀ := X.base) I.ok.mod.kin hk (thn (ha.run pos pins s σ H _ I h) fun us s1 ⟨vs, H1, I1, r, q⟩ => ⟨I1.kIn, ?_⟩) he hpl
  have hl : (us ++ []).length = ps.length := by rw [List.append_nil, ← r.length]; exact F.len _ _ _ _ q
  have hb1 := hb s1 us I1.kIn hl
  rw [List.append_nil] at hb1
  refine wpAny_call (codeAny_mono (F.run X.A X.stack s1 H1 ⟨us, []⟩ us vs Q E hG hr I1.env0 hb1 r q) fun r s' hq => ?_)
  cases r with
  | error er => exact hx pins σ H1 s1 er s' I1 hq
  | ok fl =>
    cases fl with
    | ret u => exact I1.after hq
    | next => exact False.elim hq
    | brk => exact False.elim hq
    | cont => exact False.elim hq
/-- C(), C's __init__ told by its positional promise -/
theorem pe_makeR0 (M : Mk X.K C f) (F : FnR X.prog X.w X.K X.mg X.base CX k f sp) (hr : Room (k + 1) X.A) (hg : Gl X x) (hm : X.mg x = some (.ref C)) (hx : Passes CX X E) (hdb : (x == ("__debug__" : Str)) = false := by decide) :
    PE X (.Call (.Name x p) [] [] pos) (tMakeR C sp E tNil) := by
  refine ⟨fun pins s σ H Q I h => ?_⟩
  refine wpAny_Call_Name_kw (ld_glob I hg hm ?_ hdb)
  refine callWith_K0 I.kIn M.kp ?_
  exact run_makeR M F hr hx I .nil h
end
theorem Fun.kb {K : PySem.W.Frag} {x qual : Str} {st : Stmt} {f : Addr} {fd : FuncData} {ps ks : List Str} {gg : List Value → List Value} (F : Fun K x qual st f fd)
    (h : ∀ (kV doc pm : Value) (an : Option Addr) (cdv ct : Value) (ws : List Value), ws.length = ks.length → bindArgs (PySem.W.fnOf x qual (defArgs st) (defBody st) (defScope st) .none kV doc pm an cdv ct) ⟨[], ks.zip ws⟩ = pure (ps.zip (gg ws))) :
    ∀ (s : Shared) (ws : List Value), K.In s.heap → ws.length = ks.length → BindsTo s fd ⟨[], ks.zip ws⟩ (ps.zip (gg ws)) := by
  obtain ⟨oc, od, kV, doc, pm, an, cdv, ct, osl, rfl, lk, hcd⟩ := F.ex
  exact fun s ws _ hl => .of_eq (h kV doc pm an cdv ct ws hl)
end L2.TT

namespace L2.TT
open PySem PySem.Spec PyProof.Rows PySem.W
theorem sqT_same {K : Frag} {H H' : Hp} {a : Addr} {xs : List V} (h : SqT K H a xs) (e : Same H H') : SqT K H' a xs := by
  rcases h with (h | ⟨o, h⟩) | h
  · exact .inl (.inl (e _ _ h))
  · exact .inl (.inr ⟨o, e _ _ h⟩)
  · exact .inr h
section
variable {K : Frag} {H H' : Hp}
mutual
theorem dp_same (e : Same H H') : ∀ (d : PyData) (v : V), Dp K H v d → Dp K H' v d
  | .none, _, h => by cases h; exact .non
  | .bool b, _, h => by cases h; exact .bl b
  | .int i, _, h => by cases h; exact .int i
  | .str x, _, h => by cases h; exact .str x
  | .list ds, _, h => by
    cases h with
    | lst hs ha => exact .lst (e.seq hs) (dpAll_same e ds _ ha)
  | .tuple ds, _, h => by
    cases h with
    | tup hs ha => exact .tup (sqT_same hs e) (dpAll_same e ds _ ha)
  | .dict _, _, h => by cases h
theorem dpAll_same (e : Same H H') : ∀ (ds : List PyData) (vs : List V), DpAll K H vs ds → DpAll K H' vs ds
  | [], _, h => by cases h; exact .nil
  | d :: ds, _, h => by
    cases h with
    | cons h1 h2 => exact .cons (dp_same e d _ h1) (dpAll_same e ds _ h2)
end
theorem fd_same {v : V} {d : PyData} (e : Same H H') (f : FD H v d) : FD H' v d := by
  cases f with
  | flat f => exact .flat f
  | dic h k => exact .dic (e _ _ h) k
/-- a value that may be shown, by what it holds -/
structure ShowOk (K : Frag) (H : Hp) (v : V) (d : PyData) : Prop where
  is : (Dp K H v d ∧ d.canLay0 = true) ∨ FD H v d
  sh : d.showable = true
  lv : d.leavesShort 13 = true
  wt : d.weight ≤ 100
  dp : d.depth ≤ 10
theorem ShowOk.same {v : V} {d : PyData} (s : ShowOk K H v d) (e : Same H H') : ShowOk K H' v d :=
  ⟨s.is.elim (fun z => .inl ⟨dp_same e d v z.1, z.2⟩) fun z => .inr (fd_same e z), s.sh, s.lv, s.wt, s.dp⟩
theorem rep_dp {v : V} {d : PyData} (h : Dp K H v d) : ∀ n, DpAll K H (List.replicate n v) (List.replicate n d)
  | 0 => .nil
  | n + 1 => .cons h (rep_dp h n)
theorem rep_ds {v : V} {d : PyData} (h : FD H v d) : ∀ n, Paired (DS K H) (List.replicate n v) (List.replicate n d)
  | 0 => .nil
  | n + 1 => .cons (.fd h) (rep_ds h n)
theorem rep_lay {d : PyData} (h : d.canLay0 = true) : ∀ n, PyData.canLayAll0 (List.replicate n d) = true
  | 0 => by simp [PyData.canLayAll0]
  | n + 1 => by simp [List.replicate_succ, PyData.canLayAll0, h, rep_lay h n]
theorem rep_sh {d : PyData} (h : d.showable = true) : ∀ n, PyData.showableAll (List.replicate n d) = true
  | 0 => by simp [PyData.showableAll]
  | n + 1 => by simp [List.replicate_succ, PyData.showableAll, h, rep_sh h n]
theorem rep_lv {d : PyData} (h : d.leavesShort 13 = true) : ∀ n, PyData.leavesShortAll 13 (List.replicate n d) = true
  | 0 => by simp [PyData.leavesShortAll]
  | n + 1 => by simp [List.replicate_succ, PyData.leavesShortAll, h, rep_lv h n]
theorem rep_wt {d : PyData} (h : d.weight ≤ 100) : ∀ n, PyData.weightAll (List.replicate n d) ≤ 101 * n
  | 0 => by simp [PyData.weightAll]
  | n + 1 => by
    have := rep_wt h n
    simp only [List.replicate_succ, PyData.weightAll]
    omega
theorem rep_depth {d : PyData} (h : d.depth ≤ 10) : ∀ n, PyData.depthAll (List.replicate n d) ≤ 10
  | 0 => by simp [PyData.depthAll]
  | n + 1 => by
    have := rep_depth h n
    simp only [List.replicate_succ, PyData.depthAll]
    omega
/-- n times the same: what repr asks -/
theorem ShowOk.rep {v : V} {d : PyData} (s : ShowOk K H v d) {n : Nat} (hn : n ≤ 1000) : DL K H (List.replicate n v) (List.replicate n d) ∧ PyData.showableAll (List.replicate n d) = true ∧ PyData.leavesShortAll 13 (List.replicate n d) = true ∧ PyData.weightAll (List.replicate n d) ≤ 1000000 ∧ PyData.depthAll (List.replicate n d) ≤ 20 := by
  refine ⟨?_, rep_sh s.sh n, rep_lv s.lv n, ?_, ?_⟩
  · rcases s.is with ⟨z, c⟩ | z
    · exact .inl ⟨rep_dp z n, rep_lay c n⟩
    · exact .inr (rep_ds z n)
  · have := rep_wt s.wt n
    omega
  · have := rep_depth s.dp n
    omega
theorem flat_rep (v : V) (n : Nat) : (List.replicate n [v]).flatten = List.replicate n v := by
  induction n with
  | zero => rfl
  | succ n ih => rw [List.replicate_succ, List.flatten_cons, ih]; rfl
end
end L2.TT

namespace TR
open PySem PySem.Spec PyProof.Rows L2 L2.TT StX ClX
abbrev di (n : Nat) : PyData := .int (n : Int)
theorem dpAll_ints {K : PySem.W.Frag} {H : Hp} : ∀ (l : List Nat), DpAll K H (l.map iv) (l.map di)
  | [] => .nil
  | _ :: l => .cons (.int _) (dpAll_ints l)
theorem canLay_ints : ∀ (l : List Nat), PyData.canLayAll0 (l.map di) = true
  | [] => rfl
  | a :: l => by
    show (PyData.canLay0 (di a) && PyData.canLayAll0 (l.map di)) = true
    rw [canLay_ints l]
    rfl
theorem depth_ints : ∀ (l : List Nat), PyData.depthAll (l.map di) = 0
  | [] => rfl
  | a :: l => by
    show max (PyData.depth (di a)) (PyData.depthAll (l.map di)) = 0
    rw [depth_ints l]
    rfl
theorem shaped_ints (l : List Nat) : SeqAt.shaped (.list (l.map di)) = true := by
  unfold SeqAt.shaped
  rw [Bool.and_eq_true]
  refine ⟨canLay_ints l, decide_eq_true ?_⟩
  show PyData.depthAll (l.map di) + 1 ≤ 64
  rw [depth_ints]
  decide
theorem rg_iv (n : Nat) : rgV 0 (n : Int) = (List.range n).map iv := by
  unfold rgV
  have e : ((n : Int) - 0).toNat = n := by omega
  rw [e]
  refine List.map_congr_left fun i _ => ?_
  show V.int (0 + (i : Int)) = V.int (i : Int)
  rw [Int.zero_add]
theorem RailAt.fr {C dr : Addr} {H H' : Hp} {r : Addr} {tr : List E2} {kvs : List (Key × V)} (R : RailAt C H r tr) (k : Fr dr H H') (hd : H dr = some (.dK kvs)) : RailAt C H' r tr := by
  obtain ⟨T, few, dx, tt, na, A, L, ps, ts, h1, h2, h3, h4, h5, h6, h7, h8⟩ := R
  refine ⟨T, few, dx, tt, na, A, L, ps, ts, k _ _ h1 (ne_of h1 hd (by intro z; cases z)), k _ _ h2 (ne_of h2 hd (by intro z; cases z)), h3.fr k hd, k _ _ h4 (ne_of h4 hd (by intro z; cases z)), h5, fun v t h => k _ _ (h6 v t h) (ne_of (h6 v t h) hd (by intro z; cases z)), k _ _ h7 (ne_of h7 hd (by intro z; cases z)), k _ _ h8 (ne_of h8 hd (by intro z; cases z))⟩
theorem SW.unnorm {tr tr2 : List E2} (n : Norm tr tr2) {a b : Nat} {l : List Nat} (s : SW tr a b l) : SW tr2 a b l := by
  refine ⟨?_, s.nd, s.hd, s.lt⟩
  have : ∀ {l : List Nat}, Wk tr l → Wk tr2 l := by
    intro l
    induction l with
    | nil => exact fun _ => trivial
    | cons a r ih =>
      cases r with
      | nil => exact fun _ => trivial
      | cons b r => exact fun h => ⟨n.adj.mpr h.1, ih h.2⟩
  exact this s.wk
def swp {α : Type} : List α → List α
  | [a, b] => [b, a]
  | l => l
theorem swp_vals {zs : List V} {ws : List Value} (hl : zs.length = 2) (r : Vals zs ws) : Vals (swp zs) (swp ws) := by
  match zs, ws, hl, r with
  | [_, _], [_, _], _, .cons r1 (.cons r2 .nil) => exact .cons r2 (.cons r1 .nil)
theorem SW.rev {tr : List E2} {a b : Nat} {l : List Nat} (s : SW tr a b l) : SW tr b a l.reverse :=
  ⟨s.wk.rev, (List.reverse_perm l).nodup_iff.mpr s.nd, by rw [List.head?_reverse]; exact s.lt, by rw [List.getLast?_reverse]; exact s.hd⟩
theorem eqvAll_ints : ∀ (l : List Nat), PyData.eqvAll (l.map di) (l.map di) = true
  | [] => rfl
  | a :: l => by
    show (PyData.eqv (di a) (di a) && PyData.eqvAll (l.map di) (l.map di)) = true
    rw [eqvAll_ints l, Bool.and_true]
    show ((a : Int) == (a : Int)) = true
    simp
theorem shaped_tup (l : List Nat) : SeqAt.shaped (.tuple (l.map di)) = true := by
  unfold SeqAt.shaped
  rw [Bool.and_eq_true]
  refine ⟨canLay_ints l, decide_eq_true ?_⟩
  show PyData.depthAll (l.map di) + 1 ≤ 64
  rw [depth_ints]
  decide
theorem sw_le {tr : List E2} (T : TreeL tr) {a b : Nat} {l : List Nat} (s : SW tr a b l) (ha : a ≤ tr.length) : ∀ z ∈ l, z ≤ tr.length := by
  have key : ∀ {l : List Nat} {a : Nat}, Wk tr (a :: l) → a ≤ tr.length → ∀ z ∈ a :: l, z ≤ tr.length := by
    intro l
    induction l with
    | nil =>
      intro a _ h z hz
      rw [List.mem_singleton] at hz
      omega
    | cons c r ih =>
      intro a w h z hz
      rcases List.mem_cons.mp hz with rfl | hz
      · exact h
      · refine ih w.2 ?_ z hz
        exact (T.adj_le w.1).2
  cases l with
  | nil => cases s.hd
  | cons c r =>
    have e : c = a := Option.some.inj s.hd
    subst e
    exact key s.wk ha
theorem int_show {i : Int} (h1 : -1000 ≤ i) (h2 : i ≤ 1000) : (PyData.int i).showable = true ∧ (PyData.int i).leavesShort 13 = true ∧ (PyData.int i).weight ≤ 10 ∧ (PyData.int i).depth = 0 := by
  have hn : i.natAbs ≤ 1000 := by omega
  have hl : i.natAbs.log2 < 10 := by
    by_cases h0 : i.natAbs = 0
    · rw [h0]; decide
    · exact (Nat.log2_lt h0).mpr (by omega)
  refine ⟨?_, ?_, ?_, ?_⟩
  · simp only [PyData.showable, decide_eq_true_eq]
    omega
  · simp only [PyData.leavesShort, decide_eq_true_eq]
    exact PyData.shown_int_le (by omega)
  · simp only [PyData.weight]
    split <;> omega
  · simp only [PyData.depth]
structure Shw (l : List Nat) : Prop where
  sh : PyData.showableAll (l.map di) = true
  lv : PyData.leavesShortAll 13 (l.map di) = true
  wt : PyData.weightAll (l.map di) ≤ 11 * l.length
  dp : PyData.depthAll (l.map di) = 0
theorem shw_of : ∀ {l : List Nat}, (∀ z ∈ l, z ≤ 999) → Shw l
  | [], _ => ⟨rfl, rfl, Nat.le_refl _, rfl⟩
  | a :: l, h => by
    have ih := shw_of (l := l) fun z hz => h z (List.mem_cons_of_mem _ hz)
    have ha := h a (by simp)
    obtain ⟨i1, i2, i3, i4⟩ := int_show (i := (a : Int)) (by omega) (by omega)
    refine ⟨?_, ?_, ?_, ?_⟩
    · show (PyData.showable (di a) && PyData.showableAll (l.map di)) = true
      rw [ih.sh, i1]
      rfl
    · show (PyData.leavesShort 13 (di a) && PyData.leavesShortAll 13 (l.map di)) = true
      rw [ih.lv, i2]
      rfl
    · show PyData.weight (di a) + 1 + PyData.weightAll (l.map di) ≤ 11 * (l.length + 1)
      have := ih.wt
      have i3' : PyData.weight (di a) ≤ 10 := i3
      omega
    · show max (PyData.depth (di a)) (PyData.depthAll (l.map di)) = 0
      rw [ih.dp, i4]
      rfl
theorem pickAll {P : V → Prop} {xs : List V} {r : Int} (h0 : 0 ≤ r) (h1 : r < xs.length) (h : ∀ x ∈ xs, P x) : ∃ v, atI xs r = some v ∧ P v := by
  obtain ⟨n, rfl⟩ := Int.eq_ofNat_of_zero_le h0
  have hl : n < xs.length := by omega
  exact ⟨xs[n], atI_nat (List.getElem?_eq_getElem hl), h _ (List.getElem_mem hl)⟩
section
variable {tr : List E2}
theorem sw_climb (T : TreeL tr) {a b : Nat} : ∀ (n x y : Nat) (F B : List Nat), dep tr x + dep tr y = n → Clb tr a b x y F B → ∃ l, SW tr a b l ∧ l.length ≤ F.length + B.length + n + 1 := by
  intro n
  induction n using Nat.strongRecOn with
  | ind n ih =>
    intro x y F B e c
    by_cases h : x = y
    · subst h
      refine ⟨_, c.done, ?_⟩
      simp
      omega
    · by_cases h2 : dep tr y < dep tr x
      · obtain ⟨h3, h4, c2⟩ := c.up1 T h h2
        have d := dep_succ T h3
        obtain ⟨l, s, hl⟩ := ih (dep tr (par tr x) + dep tr y) (by omega) _ _ _ _ rfl c2
        refine ⟨l, s, ?_⟩
        rw [List.length_append] at hl
        have : [x].length = 1 := rfl
        omega
      · obtain ⟨h3, h4, c2⟩ := c.up2 T h h2
        have d := dep_succ T h3
        obtain ⟨l, s, hl⟩ := ih (dep tr x + dep tr (par tr y)) (by omega) _ _ _ _ rfl c2
        refine ⟨l, s, ?_⟩
        rw [List.length_append] at hl
        have : [y].length = 1 := rfl
        omega
theorem sw_ex (T : TreeL tr) {a b : Nat} (ha : a ≤ tr.length) (hb : b ≤ tr.length) : ∃ l, SW tr a b l ∧ l.length ≤ dep tr a + dep tr b + 1 := by
  obtain ⟨l, s, h⟩ := sw_climb T _ a b [] [] rfl (Clb.start ha hb)
  refine ⟨l, s, ?_⟩
  simp at h
  omega
theorem wk_pre : ∀ {l r : List Nat}, Wk tr (l ++ r) → Wk tr l
  | [], _, _ => trivial
  | [_], _, _ => trivial
  | a :: b :: l, r, h => ⟨h.1, wk_pre (l := b :: l) (r := r) h.2⟩
theorem wk_adj : ∀ {l : List Nat} {x g : Nat}, Wk tr (l ++ [x] ++ [g]) → Adj tr x g
  | [], _, _, h => h.1
  | [a], x, g, h => wk_adj (l := []) h.2
  | a :: b :: l, x, g, h => wk_adj (l := b :: l) h.2
theorem SW.cut {s g : Nat} {l : List Nat} (w : SW tr s g (l ++ [g])) (h : l ≠ []) : ∃ x, SW tr s x l ∧ Adj tr x g ∧ g ∉ l := by
  obtain ⟨p, x, rfl⟩ : ∃ p x, l = p ++ [x] := ⟨l.dropLast, l.getLast h, (List.dropLast_concat_getLast h).symm⟩
  refine ⟨x, ⟨wk_pre w.wk, ?_, ?_, by simp⟩, wk_adj w.wk, fun m => ?_⟩
  · have := w.nd
    exact (List.nodup_append.mp this).1
  · have := w.hd
    rw [List.head?_append] at this
    cases e : (p ++ [x]).head? with
    | none => simp at e
    | some z =>
      rw [e] at this
      exact this
  · exact (List.nodup_append.mp w.nd).2.2 g m g (by simp) rfl
noncomputable def pl (tr : List E2) (s g : Nat) : List Nat := open Classical in if h : ∃ l, SW tr s g l then h.choose else []
theorem pl_eq (T : TreeL tr) {s g : Nat} {l : List Nat} (w : SW tr s g l) : pl tr s g = l := by
  unfold pl
  rw [dif_pos ⟨l, w⟩]
  exact SW.uniq T (Exists.choose_spec (⟨l, w⟩ : ∃ l, SW tr s g l)) w
theorem SW.pre {a b v : Nat} {p r : List Nat} (s : SW tr a b (p ++ v :: r)) : SW tr a v (p ++ [v]) := by
  have e : p ++ v :: r = (p ++ [v]) ++ r := by simp
  refine ⟨?_, ?_, ?_, by simp⟩
  · have h := s.wk
    rw [e] at h
    exact wk_pre h
  · have h := s.nd
    rw [e] at h
    exact (List.nodup_append.mp h).1
  · have h := s.hd
    cases p with
    | nil => exact h
    | cons c p => exact h
/-- the distance of a station -/
noncomputable def dst (tr : List E2) (s v : Nat) : Nat := (pl tr s v).length - 1
theorem dst_eq (T : TreeL tr) {s v : Nat} {l : List Nat} (w : SW tr s v l) : dst tr s v + 1 = l.length := by
  unfold dst
  rw [pl_eq T w]
  have : l ≠ [] := by
    rintro rfl
    cases w.hd
  have := List.length_pos_iff.mpr this
  omega
theorem dst_self (T : TreeL tr) (s : Nat) : dst tr s s = 0 := by
  have := dst_eq T (SW.one (tr := tr) s)
  simp at this
  exact this
theorem dst_zero (T : TreeL tr) {s v : Nat} (hs : s ≤ tr.length) (hv : v ≤ tr.length) (h : dst tr s v = 0) : v = s := by
  obtain ⟨l, w, _⟩ := sw_ex T hs hv
  have e := dst_eq T w
  rw [h] at e
  obtain ⟨x, rfl⟩ := List.length_eq_one_iff.mp e.symm
  have e1 : x = s := Option.some.inj w.hd
  have e2 : x = v := Option.some.inj w.lt
  exact e2.symm.trans e1
theorem dst_le (T : TreeL tr) {s v : Nat} (hs : s ≤ tr.length) (hv : v ≤ tr.length) : dst tr s v ≤ tr.length := by
  obtain ⟨l, w, _⟩ := sw_ex T hs hv
  have e := dst_eq T w
  have := nd_len w.nd (sw_le T w hs)
  omega
theorem dst_adj (T : TreeL tr) {s u v : Nat} (hs : s ≤ tr.length) (hu : u ≤ tr.length) (h : Adj tr u v) : dst tr s v = dst tr s u + 1 ∨ dst tr s u = dst tr s v + 1 := by
  obtain ⟨l, w, _⟩ := sw_ex T hs hu
  have e := dst_eq T w
  by_cases c : v ∈ l
  · obtain ⟨p, r, rfl⟩ := List.append_of_mem c
    have wv := w.pre
    have hr : r ≠ [] := by
      rintro rfl
      have h2 := w.lt
      rw [List.getLast?_append] at h2
      have : v = u := by simpa using h2
      subst this
      rcases h with h | h
      · exact T.ne _ h rfl
      · exact T.ne _ h rfl
    have hu2 : u ∉ p ++ [v] := by
      intro hm
      have h3 : p ++ v :: r = (p ++ [v]) ++ r := by simp
      have nd := w.nd
      rw [h3] at nd
      have hl : r.getLast? = some u := by
        have := w.lt
        rw [h3, List.getLast?_append] at this
        cases e : r.getLast? with
        | none => exact absurd (List.getLast?_eq_none_iff.mp e) hr
        | some z => rw [e] at this; exact this
      exact (List.nodup_append.mp nd).2.2 u hm u (List.mem_of_getLast? hl) rfl
    have w2 := wv.snoc h.sym hu2
    have e2 := dst_eq T w2
    have e3 := dst_eq T wv
    rw [List.length_append] at e2
    right
    have : [u].length = 1 := rfl
    omega
  · have w2 := w.snoc h c
    have e2 := dst_eq T w2
    rw [List.length_append] at e2
    left
    have : [v].length = 1 := rfl
    omega
theorem dst_prev (T : TreeL tr) {s v : Nat} (hs : s ≤ tr.length) (hv : v ≤ tr.length) (ne : v ≠ s) : ∃ u, u ≤ tr.length ∧ Adj tr u v ∧ dst tr s u + 1 = dst tr s v := by
  obtain ⟨l, w, _⟩ := sw_ex T hs hv
  obtain ⟨l', rfl⟩ : ∃ l', l = l' ++ [v] := List.getLast?_eq_some_iff.mp w.lt
  have hl : l' ≠ [] := by
    rintro rfl
    exact ne (Option.some.inj w.hd)
  obtain ⟨x, w', adj, ng⟩ := w.cut hl
  have e1 := dst_eq T w
  have e2 := dst_eq T w'
  rw [List.length_append] at e1
  refine ⟨x, sw_le T w' hs x w'.mem, adj, ?_⟩
  have : [v].length = 1 := rfl
  omega
/-- the law's own list under way: round k, i tracks seen -/
structure Far (tr : List E2) (s k i : Nat) (g : Nat → Option Nat) : Prop where
  low : ∀ v, v ≤ tr.length → dst tr s v ≤ k → g v = some (dst tr s v)
  val : ∀ v x, v ≤ tr.length → g v = some x → x = dst tr s v ∧ x ≤ k + 1
  up : ∀ (j : Nat) (e : E2), j < i → tr[j]? = some e → (dst tr s e.1 = k → dst tr s e.2 = k + 1 → g e.2 = some (k + 1)) ∧ (dst tr s e.2 = k → dst tr s e.1 = k + 1 → g e.1 = some (k + 1))
theorem Far.start (T : TreeL tr) {s : Nat} (hs : s ≤ tr.length) : Far tr s 0 0 (fun v => if v = s then some 0 else none) := by
  refine ⟨fun v hv h => ?_, fun v x hv h => ?_, fun j e h => absurd h (Nat.not_lt_zero _)⟩
  · have := dst_zero T hs hv (by omega)
    subst this
    rw [if_pos rfl, dst_self T]
  · by_cases c : v = s
    · subst c
      rw [if_pos rfl] at h
      cases h
      exact ⟨(dst_self T _).symm, by omega⟩
    · rw [if_neg c] at h
      cases h
theorem Far.round (T : TreeL tr) {s k : Nat} {g : Nat → Option Nat} (hs : s ≤ tr.length) (f : Far tr s k tr.length g) : Far tr s (k + 1) 0 g := by
  refine ⟨fun v hv h => ?_, fun v x hv h => ?_, fun j e h => absurd h (Nat.not_lt_zero _)⟩
  · by_cases c : dst tr s v ≤ k
    · exact f.low v hv c
    · have hd : dst tr s v = k + 1 := by omega
      obtain ⟨u, hu, adj, e⟩ := dst_prev T hs hv (fun z => by rw [z, dst_self T] at hd; omega)
      have hdu : dst tr s u = k := by omega
      rcases adj with h | h
      · obtain ⟨j, hj, ej⟩ := List.mem_iff_getElem.mp h
        have := (f.up j _ hj (List.getElem?_eq_some_iff.mpr ⟨hj, ej⟩)).1 hdu hd
        rw [hd]
        exact this
      · obtain ⟨j, hj, ej⟩ := List.mem_iff_getElem.mp h
        have := (f.up j _ hj (List.getElem?_eq_some_iff.mpr ⟨hj, ej⟩)).2 hdu hd
        rw [hd]
        exact this
  · obtain ⟨h1, h2⟩ := f.val v x hv h
    exact ⟨h1, by omega⟩
/-- a track that sets the one end v from the other end u -/
theorem Far.set (T : TreeL tr) {s k i u v : Nat} {g : Nat → Option Nat} (hs : s ≤ tr.length) (f : Far tr s k i g) {e : E2} (he : tr[i]? = some e) (hu : u ≤ tr.length) (hv : v ≤ tr.length) (h : (e.1 = u ∧ e.2 = v) ∨ (e.1 = v ∧ e.2 = u)) (h1 : g u = some k) (h2 : g v = none) :
    Far tr s k (i + 1) (fun w => if w = v then some (k + 1) else g w) := by
  have hm := List.mem_of_getElem? he
  have du : dst tr s u = k := ((f.val u k hu h1).1).symm
  have adj : Adj tr u v := by
    rcases h with ⟨a, b⟩ | ⟨a, b⟩
    · exact .inl (by rw [← a, ← b]; exact hm)
    · exact .inr (by rw [← a, ← b]; exact hm)
  have dv : dst tr s v = k + 1 := by
    rcases dst_adj T hs hu adj with q | q
    · omega
    · have := f.low v hv (by omega)
      rw [h2] at this
      cases this
  refine ⟨fun w hw hd => ?_, fun w x hw hx => ?_, fun j e' hj he' => ?_⟩
  · by_cases c : w = v
    · subst c
      omega
    · show (if w = v then some (k + 1) else g w) = _
      rw [if_neg c]
      exact f.low w hw hd
  · have hx : (if w = v then some (k + 1) else g w) = some x := hx
    by_cases c : w = v
    · subst c
      rw [if_pos rfl] at hx
      cases hx
      exact ⟨dv.symm, Nat.le_refl _⟩
    · rw [if_neg c] at hx
      exact f.val w x hw hx
  · by_cases c : j = i
    · subst c
      rw [he] at he'
      cases he'
      rcases h with ⟨a, b⟩ | ⟨a, b⟩
      · refine ⟨fun _ _ => by show (if e.2 = v then some (k + 1) else g e.2) = _; rw [if_pos b], fun q1 q2 => ?_⟩
        rw [b, dv] at q1
        omega
      · refine ⟨fun q1 q2 => ?_, fun _ _ => by show (if e.1 = v then some (k + 1) else g e.1) = _; rw [if_pos a]⟩
        rw [a, dv] at q1
        omega
    · obtain ⟨q1, q2⟩ := f.up j e' (by omega) he'
      refine ⟨fun z1 z2 => ?_, fun z1 z2 => ?_⟩
      · show (if e'.2 = v then some (k + 1) else g e'.2) = _
        split
        · rfl
        · exact q1 z1 z2
      · show (if e'.1 = v then some (k + 1) else g e'.1) = _
        split
        · rfl
        · exact q2 z1 z2
/-- a track that sets nothing -/
theorem Far.keep (T : TreeL tr) {s k i : Nat} {g : Nat → Option Nat} (hs : s ≤ tr.length) (f : Far tr s k i g) {e : E2} (he : tr[i]? = some e) (h1 : ¬ (g e.1 = some k ∧ g e.2 = none)) (h2 : ¬ (g e.2 = some k ∧ g e.1 = none)) : Far tr s k (i + 1) g := by
  have hm := List.mem_of_getElem? he
  obtain ⟨b1, b2⟩ := T.lt1 hm
  refine ⟨f.low, f.val, fun j e' hj he' => ?_⟩
  by_cases c : j = i
  · subst c
    rw [he] at he'
    cases he'
    refine ⟨fun q1 q2 => ?_, fun q1 q2 => ?_⟩
    · have := f.low e.1 (by omega) (by omega)
      rw [q1] at this
      cases hg : g e.2 with
      | none => exact absurd ⟨this, hg⟩ h1
      | some x =>
        have := (f.val e.2 x (by omega) hg).1
        rw [this, q2]
    · have := f.low e.2 (by omega) (by omega)
      rw [q1] at this
      cases hg : g e.1 with
      | none => exact absurd ⟨this, hg⟩ h2
      | some x =>
        have := (f.val e.1 x (by omega) hg).1
        rw [this, q2]
  · exact f.up j e' (by omega) he'
theorem Far.done (T : TreeL tr) {s : Nat} {g : Nat → Option Nat} (hs : s ≤ tr.length) (f : Far tr s tr.length 0 g) {v : Nat} (hv : v ≤ tr.length) : g v = some (dst tr s v) := f.low v hv (dst_le T hs hv)
end
end TR

namespace L2.TT
open PySem PySem.Spec PyProof.Rows

/-! ### the exception classes of the program that keep one field -/
theorem PE.imp {X : Cx} {e : Expr} {t t' : TE} (h : PE X e t) (i : ∀ σ H Q, t' σ H Q → t σ H Q) : PE X e t' := ⟨fun pins s σ H Q I q => h.run pins s σ H Q I (i σ H Q q)⟩
section
variable {P : Program} {w : World} {K : PySem.W.Frag} {mg : Str → Option Value} {base : Heap} {C fI : Addr} {fd : FuncData} {f g : Str} {B newId initId qual : String} {bmB : List Value} {st : Stmt} {dvs : List V}
/-- an __init__ that stores its one argument -/
theorem ok_init1 {q : Str} (F : FunD K "__init__" q (defArgs st) (defBody st) (defScope st) dvs [] fI fd) (Y : XB B newId initId bmB) (T : XC K C bmB newId) (nF : PySem.W.findIn K (.ref C) f = some none)
    (hb : ∃ p1 p2 p3 p4, defBody st = [.Assign [.Attribute (.Name "self" p1) f p2] (.Name f p3) p4]) (sc : FnScope ["self", f] ["self", f] (defScope st)) (v0 : Vis (defScope st) "self") (v1 : Vis (defScope st) f)
    (h1 : (f == ("__debug__" : Str)) = false) (h2 : (f == ("__classdict__" : Str)) = false) : FnOk P w K mg base CX0 1 fI fd ["self", f] (spI1 C f) := by
  obtain ⟨p1, p2, p3, p4, hb⟩ := hb
  refine F.ok sc (fun vs H Q E h => ?_) (fun cdv A outer s H vs Q E hr h => ?_)
  · obtain ⟨a, y, rfl, _⟩ := h
    rfl
  · obtain ⟨a, y, rfl, ha, k⟩ := h
    rw [hb]
    refine ⟨_, pss_one (ps_xst (pe_var (i := 0) rfl v0) (pe_var (i := 1) rfl v1 h1 h2)), ?_⟩
    refine ⟨_, rfl, _, rfl, a, C, B, newId, initId, bmB, rfl, Y, T, nF, .inl ⟨ha, fun dx n ne => ?_⟩⟩
    exact k dx n ne
/-- .. its two arguments -/
theorem ok_init2 {q : Str} (F : FunD K "__init__" q (defArgs st) (defBody st) (defScope st) dvs [] fI fd) (Y : XB B newId initId bmB) (T : XC K C bmB newId) (nF : PySem.W.findIn K (.ref C) f = some none) (nG : PySem.W.findIn K (.ref C) g = some none)
    (hb : ∃ p1 p2 p3 p4 p5 p6 p7 p8, defBody st = [.Assign [.Attribute (.Name "self" p1) f p2] (.Name f p3) p4, .Assign [.Attribute (.Name "self" p5) g p6] (.Name g p7) p8]) (sc : FnScope ["self", f, g] ["self", f, g] (defScope st)) (v0 : Vis (defScope st) "self") (v1 : Vis (defScope st) f) (v2 : Vis (defScope st) g)
    (h1 : (f == ("__debug__" : Str)) = false) (h2 : (f == ("__classdict__" : Str)) = false) (h3 : (g == ("__debug__" : Str)) = false) (h4 : (g == ("__classdict__" : Str)) = false) : FnOk P w K mg base CX0 1 fI fd ["self", f, g] (spI2 C f g) := by
  obtain ⟨p1, p2, p3, p4, p5, p6, p7, p8, hb⟩ := hb
  refine F.ok sc (fun vs H Q E h => ?_) (fun cdv A outer s H vs Q E hr h => ?_)
  · obtain ⟨a, y, z, rfl, _⟩ := h
    rfl
  · obtain ⟨a, y, z, rfl, ha, k⟩ := h
    rw [hb]
    refine ⟨_, pss_cons (ps_xst (pe_var (i := 0) rfl v0) (pe_var (i := 1) rfl v1 h1 h2)) (pss_one (ps_xst (pe_var (i := 0) rfl v0) (pe_var (i := 2) rfl v2 h3 h4))), ?_⟩
    refine ⟨_, rfl, _, rfl, a, C, B, newId, initId, bmB, rfl, Y, T, nF, .inl ⟨ha, fun dx n ne => ?_⟩⟩
    refine ⟨_, rfl, _, rfl, a, C, B, newId, initId, bmB, rfl, Y, T, nG, .inr ⟨dx, [(f, y)], upd_same, by rw [upd_ne ne, upd_same], (by show 1 ≤ 900; decide), ?_⟩⟩
    have e : upd (upd (upd H dx (exd dx [(f, y)])) a (exo a C (some dx))) dx (exd dx [(g, z), (f, y)]) = upd (upd H dx (exd dx [(g, z), (f, y)])) a (exo a C (some dx)) := by
      funext b
      by_cases h1 : b = dx
      · rw [h1, upd_same, upd_ne ne, upd_same]
      · rw [upd_ne h1]
        by_cases h2 : b = a
        · rw [h2, upd_same, upd_same]
        · rw [upd_ne h2, upd_ne h1, upd_ne h2, upd_ne h1]
    show Q .non _
    rw [e]
    exact k dx n ne
end

/-- such a class, as the program has it -/
structure XCl (P : Program) (w : World) (K : PySem.W.Frag) (mg : Str → Option Value) (base : Heap) (x : Str) (C : Addr) (f : Str) : Prop where
  ex : ∃ (B newId initId : String) (bmB : List Value) (fI : Addr) (fd : FuncData), XB B newId initId bmB ∧ XC K C bmB newId ∧ PySem.W.findIn K (.ref C) "__init__" = some (some (.ref fI)) ∧ PySem.W.typeIn K (.ref fI) = some (.type "function") ∧
    FnOk P w K mg base CX0 1 fI fd ["self", f] (spI1 C f) ∧ (∀ (s : Shared) (a u : Value), K.In s.heap → BindsTo s fd ⟨[a, u], []⟩ [("self", a), (f, u)]) ∧ (∀ (s : Shared) (a u : Value), K.In s.heap → BindsTo s fd ⟨[a], [(f, u)]⟩ [("self", a), (f, u)])
  nF : PySem.W.findIn K (.ref C) f = some none
  mgC : mg x = some (.ref C)
/-- .. with None as the field's default -/
structure XCl0 (P : Program) (w : World) (K : PySem.W.Frag) (mg : Str → Option Value) (base : Heap) (x : Str) (C : Addr) (f : Str) : Prop where
  ex : ∃ (B newId initId : String) (bmB : List Value) (fI : Addr) (fd : FuncData), XB B newId initId bmB ∧ XC K C bmB newId ∧ PySem.W.findIn K (.ref C) "__init__" = some (some (.ref fI)) ∧ PySem.W.typeIn K (.ref fI) = some (.type "function") ∧
    FnOk P w K mg base CX0 1 fI fd ["self", f] (spI1 C f) ∧ (∀ (s : Shared) (a : Value), K.In s.heap → BindsTo s fd ⟨[a], []⟩ [("self", a), (f, .none)])
  mgC : mg x = some (.ref C)
/-- .. with two fields -/
structure XCl2 (P : Program) (w : World) (K : PySem.W.Frag) (mg : Str → Option Value) (base : Heap) (x : Str) (C : Addr) (f g : Str) : Prop where
  ex : ∃ (B newId initId : String) (bmB : List Value) (fI : Addr) (fd : FuncData), XB B newId initId bmB ∧ XC K C bmB newId ∧ PySem.W.findIn K (.ref C) "__init__" = some (some (.ref fI)) ∧ PySem.W.typeIn K (.ref fI) = some (.type "function") ∧
    FnOk P w K mg base CX0 1 fI fd ["self", f, g] (spI2 C f g) ∧ (∀ (s : Shared) (a u v : Value), BindsTo s fd ⟨[a, u, v], []⟩ [("self", a), (f, u), (g, v)]) ∧ (∀ (s : Shared) (a u v : Value), BindsTo s fd ⟨[a], [(g, v), (f, u)]⟩ [("self", a), (f, u), (g, v)]) ∧
    (∀ (s : Shared) (a u v : Value), BindsTo s fd ⟨[a], [(f, u), (g, v)]⟩ [("self", a), (f, u), (g, v)])
  nF : PySem.W.findIn K (.ref C) f = some none
  nG : PySem.W.findIn K (.ref C) g = some none
  mgC : mg x = some (.ref C)

/-- a new exception with the field y -/
def tMk1 (C : Addr) (f : Str) (te : TE) : TE := fun σ H Q => te σ H fun y H1 => ∀ a H2, H1 a = none → Same H1 H2 → ExcAt H2 a C [(f, y)] → Q (.ref a) H2
def tMk0 (C : Addr) (f : Str) : TE := fun _ H Q => ∀ a H2, H a = none → Same H H2 → ExcAt H2 a C [(f, .non)] → Q (.ref a) H2
def tMk2 (C : Addr) (f g : Str) (te tg : TE) : TE := fun σ H Q => te σ H fun y H1 => tg σ H1 fun z H2 => ∀ a H3, H2 a = none → Same H2 H3 → ExcAt H3 a C [(g, z), (f, y)] → Q (.ref a) H3
/-- the same, the second field's value first -/
def tMk2r (C : Addr) (f g : Str) (te tg : TE) : TE := fun σ H Q => tg σ H fun z H1 => te σ H1 fun y H2 => ∀ a H3, H2 a = none → Same H2 H3 → ExcAt H3 a C [(g, z), (f, y)] → Q (.ref a) H3
theorem made_at {H : Hp} {a C d : Addr} {fs : List (Str × V)} (na : H a = none) (nd : H d = none) (ne : d ≠ a) : Same H (upd (upd H d (exd d fs)) a (exo a C (some d))) ∧ ExcAt (upd (upd H d (exd d fs)) a (exo a C (some d))) a C fs :=
  ⟨fun b o e => by rw [upd_ne (ne_of_none e na), upd_ne (ne_of_none e nd)]; exact e, d, upd_same, by rw [upd_ne ne, upd_same]⟩
theorem upd_over {H : Hp} {a d : Addr} {o u v : HO} (ne : d ≠ a) : upd (upd (upd H a o) d u) a v = upd (upd H d u) a v := by
  funext b
  by_cases h : b = a
  · rw [h, upd_same, upd_same]
  · rw [upd_ne h, upd_ne h]
    by_cases h2 : b = d
    · rw [h2, upd_same, upd_same]
    · rw [upd_ne h2, upd_ne h2, upd_ne h]
theorem none_of_upd {H : Hp} {a d : Addr} {o : HO} (h : upd H a o d = none) : H d = none ∧ d ≠ a := by
  by_cases e : d = a
  · rw [e, upd_same] at h
    cases h
  · rw [upd_ne e] at h
    exact ⟨h, e⟩
/-- what is asked of one argument, of two -/
def one (φ : V → Hp → Prop) : List V → Hp → Prop
  | [y], H => φ y H
  | _, _ => False
def two (φ : V → V → Hp → Prop) : List V → Hp → Prop
  | [y, z], H => φ y z H
  | _, _ => False
theorem one_of {φ : V → Hp → Prop} {H : Hp} : ∀ {vs : List V}, one φ vs H → ∃ y, vs = [y] ∧ φ y H
  | [y], h => ⟨y, rfl, h⟩
  | [], h => h.elim
  | _ :: _ :: _, h => h.elim
theorem two_of {φ : V → V → Hp → Prop} {H : Hp} : ∀ {vs : List V}, two φ vs H → ∃ y z, vs = [y, z] ∧ φ y z H
  | [y, z], h => ⟨y, z, rfl, h⟩
  | [], h => h.elim
  | [_], h => h.elim
  | _ :: _ :: _ :: _, h => h.elim
theorem vals_one {y : V} {us : List Value} (r : Vals [y] us) : ∃ u, us = [u] ∧ RelV y u := by
  cases r with
  | cons r t =>
    cases t
    exact ⟨_, rfl, r⟩
theorem vals_two {y z : V} {us : List Value} (r : Vals [y, z] us) : ∃ u v, us = [u, v] ∧ RelV y u ∧ RelV z v := by
  cases r with
  | cons r t =>
    obtain ⟨v, rfl, r2⟩ := vals_one t
    exact ⟨_, v, rfl, r, r2⟩
theorem fit1 {u : Value} : [u].length ≤ sizeLine := by
  rw [sizeLine_eq]
  exact (by decide : 1 ≤ 16777216)
theorem fit2 {u v : Value} : [u, v].length ≤ sizeLine := by
  rw [sizeLine_eq]
  exact (by decide : 2 ≤ 16777216)
section
variable {X : Cx} {C : Addr} {f g x : Str} {p pos k1 k2 : Pos} {e e2 : Expr} {te tg : TE}
/-- C(e) -/
theorem pe_mk1 (Z : XCl X.prog X.w X.K X.mg X.base x C f) (hr : Room 2 X.A) (hg : Gl X x) (he : PE X e te)
    (hdb : (x == ("__debug__" : Str)) = false := by decide) (hs : starEach [e] X.env = (false, eval e X.env) :: starEach [] X.env := by rfl) (hpl : (backTo pos (starEach [] X.env)).any (·.1) = false := by rfl)
    (hxe : Passes CX0 X E0 := by exact pass0) : PE X (.Call (.Name x p) [e] [] pos) (tMk1 C f te) := by
  obtain ⟨B, newId, initId, bmB, fI, fd, Y, T, iC, tI, F, pb, kb⟩ := Z.ex
  refine ⟨fun pins s σ H Q I h => ?_⟩
  refine wpAny_Call_Name_kw (ld_glob I hg Z.mgC ?_ hdb)
  refine PySem.W.callWith_K (h₀ := X.base) I.ok.mod.kin T.kp (thn ((pa_cons he pa_nil hs).run pos pins s σ H (one fun y H1 => ∀ a H2, H1 a = none → Same H1 H2 → ExcAt H2 a C [(f, y)] → Q (.ref a) H2) I h) fun us s1 ⟨vs, H1, I1, r1, q1⟩ => ⟨I1.kIn, ?_⟩) hs hpl
  obtain ⟨y, rfl, q1⟩ := one_of q1
  obtain ⟨u, rfl, ru⟩ := vals_one r1
  · skip
    refine run_xmk (ks := []) (ws := []) (us := [u]) (its := [u]) (zs := [y]) Y T iC tI F hr hxe I1 fit1 (fun s a Z => pb s (.ref a) u Z) r1 fun a na => ⟨a, y, rfl, upd_same, fun d nd ne => ⟨rfl, ?_⟩⟩
    rw [upd_over ne]
    obtain ⟨nd', _⟩ := none_of_upd nd
    obtain ⟨h1, h2⟩ := made_at (C := C) (fs := [(f, y)]) na nd' ne
    exact q1 a _ na h1 h2
/-- C(f = e) -/
theorem pe_mk1k (Z : XCl X.prog X.w X.K X.mg X.base x C f) (hr : Room 2 X.A) (hg : Gl X x) (he : PE X e te)
    (hdb : (x == ("__debug__" : Str)) = false := by decide)
    (hall : (backToKw pos (keywordEach [⟨some f, e, k1⟩] X.env)).all (·.1.isSome) = true := by rfl) (hks : (backToKw pos (keywordEach [⟨some f, e, k1⟩] X.env)).filterMap (·.1) = [f] := by rfl)
    (hpl : ((backTo pos (starEach [] X.env)).any (·.1) || (backToKw pos (keywordEach [⟨some f, e, k1⟩] X.env)).any (·.1.isNone)) = false := by rfl)
    (hxe : Passes CX0 X E0 := by exact pass0) : PE X (.Call (.Name x p) [] [⟨some f, e, k1⟩] pos) (tMk1 C f te) := by
  obtain ⟨B, newId, initId, bmB, fI, fd, Y, T, iC, tI, F, pb, kb⟩ := Z.ex
  refine ⟨fun pins s σ H Q I h => ?_⟩
  refine wpAny_Call_Name_kw (ld_glob I hg Z.mgC ?_ hdb)
  refine PySem.W.callWith_KW0 (h₀ := X.base) I.ok.mod.kin T.kp hall ?_ hpl
  refine thn ((pk_cons (nm := some f) (kpos := k1) he pk_nil).run pos pins s σ H (one fun y H1 => ∀ a H2, H1 a = none → Same H1 H2 → ExcAt H2 a C [(f, y)] → Q (.ref a) H2) I h) fun us s1 ⟨vs, H1, I1, r1, q1⟩ => ⟨I1.kIn, ?_⟩
  rw [hks]
  obtain ⟨y, rfl, q1⟩ := one_of q1
  obtain ⟨u, rfl, ru⟩ := vals_one r1
  · skip
    refine run_xmk (ks := [f]) (ws := [u]) (us := []) (its := [u]) (zs := [y]) Y T iC tI F hr hxe I1 (Nat.zero_le _) (fun s a Z => kb s (.ref a) u Z) r1 fun a na => ⟨a, y, rfl, upd_same, fun d nd ne => ⟨rfl, ?_⟩⟩
    rw [upd_over ne]
    obtain ⟨nd', _⟩ := none_of_upd nd
    obtain ⟨h1, h2⟩ := made_at (C := C) (fs := [(f, y)]) na nd' ne
    exact q1 a _ na h1 h2
/-- C() -/
theorem pe_mk0 (Z : XCl0 X.prog X.w X.K X.mg X.base x C f) (hr : Room 2 X.A) (hg : Gl X x)
    (hdb : (x == ("__debug__" : Str)) = false := by decide) (hxe : Passes CX0 X E0 := by exact pass0) : PE X (.Call (.Name x p) [] [] pos) (tMk0 C f) := by
  obtain ⟨B, newId, initId, bmB, fI, fd, Y, T, iC, tI, F, db⟩ := Z.ex
  refine ⟨fun pins s σ H Q I h => ?_⟩
  refine wpAny_Call_Name_kw (ld_glob I hg Z.mgC ?_ hdb)
  refine PySem.W.callWith_K0 I.kIn T.kp ?_
  refine run_xmk (ks := []) (ws := []) (us := []) (its := [.none]) (zs := [.non]) Y T iC tI F hr hxe I (Nat.zero_le _) (fun s a Z => db s (.ref a) Z) (.cons rfl .nil) fun a na => ⟨a, .non, rfl, upd_same, fun d nd ne => ⟨rfl, ?_⟩⟩
  rw [upd_over ne]
  obtain ⟨nd', _⟩ := none_of_upd nd
  obtain ⟨h1, h2⟩ := made_at (C := C) (fs := [(f, V.non)]) na nd' ne
  exact h a _ na h1 h2
/-- C(e, e2) -/
theorem pe_mk2 (Z : XCl2 X.prog X.w X.K X.mg X.base x C f g) (hr : Room 2 X.A) (hg : Gl X x) (he : PE X e te) (he2 : PE X e2 tg)
    (hdb : (x == ("__debug__" : Str)) = false := by decide) (hs : starEach [e, e2] X.env = (false, eval e X.env) :: starEach [e2] X.env := by rfl) (hs2 : starEach [e2] X.env = (false, eval e2 X.env) :: starEach [] X.env := by rfl)
    (hpl : (backTo pos (starEach [e2] X.env)).any (·.1) = false := by rfl)
    (hxe : Passes CX0 X E0 := by exact pass0) : PE X (.Call (.Name x p) [e, e2] [] pos) (tMk2 C f g te tg) := by
  obtain ⟨B, newId, initId, bmB, fI, fd, Y, T, iC, tI, F, pb, kb, kb2⟩ := Z.ex
  refine ⟨fun pins s σ H Q I h => ?_⟩
  refine wpAny_Call_Name_kw (ld_glob I hg Z.mgC ?_ hdb)
  refine PySem.W.callWith_K (h₀ := X.base) I.ok.mod.kin T.kp (thn ((pa_cons he (pa_cons he2 pa_nil hs2) hs).run pos pins s σ H (two fun y z H1 => ∀ a H2, H1 a = none → Same H1 H2 → ExcAt H2 a C [(g, z), (f, y)] → Q (.ref a) H2) I h) fun us s1 ⟨vs, H1, I1, r1, q1⟩ => ⟨I1.kIn, ?_⟩) hs hpl
  obtain ⟨y, z, rfl, q1⟩ := two_of q1
  obtain ⟨u, v, rfl, ru, rv⟩ := vals_two r1
  · skip
    refine run_xmk (ks := []) (ws := []) (us := [u, v]) (its := [u, v]) (zs := [y, z]) Y T iC tI F hr hxe I1 fit2 (fun s a _ => pb s (.ref a) u v) r1 fun a na => ⟨a, y, z, rfl, upd_same, fun d nd ne => ⟨rfl, ?_⟩⟩
    rw [upd_over ne]
    obtain ⟨nd', _⟩ := none_of_upd nd
    obtain ⟨h1, h2⟩ := made_at (C := C) (fs := [(g, z), (f, y)]) na nd' ne
    exact q1 a _ na h1 h2
/-- C(g = e2, f = e) -/
theorem pe_mk2r (Z : XCl2 X.prog X.w X.K X.mg X.base x C f g) (hr : Room 2 X.A) (hg : Gl X x) (he : PE X e te) (he2 : PE X e2 tg)
    (hdb : (x == ("__debug__" : Str)) = false := by decide)
    (hall : (backToKw pos (keywordEach [⟨some g, e2, k1⟩, ⟨some f, e, k2⟩] X.env)).all (·.1.isSome) = true := by rfl) (hks : (backToKw pos (keywordEach [⟨some g, e2, k1⟩, ⟨some f, e, k2⟩] X.env)).filterMap (·.1) = [g, f] := by rfl)
    (hpl : ((backTo pos (starEach [] X.env)).any (·.1) || (backToKw pos (keywordEach [⟨some g, e2, k1⟩, ⟨some f, e, k2⟩] X.env)).any (·.1.isNone)) = false := by rfl)
    (hxe : Passes CX0 X E0 := by exact pass0) : PE X (.Call (.Name x p) [] [⟨some g, e2, k1⟩, ⟨some f, e, k2⟩] pos) (tMk2r C f g te tg) := by
  obtain ⟨B, newId, initId, bmB, fI, fd, Y, T, iC, tI, F, pb, kb, kb2⟩ := Z.ex
  refine ⟨fun pins s σ H Q I h => ?_⟩
  refine wpAny_Call_Name_kw (ld_glob I hg Z.mgC ?_ hdb)
  refine PySem.W.callWith_KW0 (h₀ := X.base) I.ok.mod.kin T.kp hall ?_ hpl
  refine thn ((pk_cons (nm := some g) (kpos := k1) he2 (pk_cons (nm := some f) (kpos := k2) he pk_nil)).run pos pins s σ H (two fun z y H1 => ∀ a H2, H1 a = none → Same H1 H2 → ExcAt H2 a C [(g, z), (f, y)] → Q (.ref a) H2) I h) fun us s1 ⟨vs, H1, I1, r1, q1⟩ => ⟨I1.kIn, ?_⟩
  rw [hks]
  obtain ⟨z, y, rfl, q1⟩ := two_of q1
  obtain ⟨v, u, rfl, rz, ry⟩ := vals_two r1
  · skip
    refine run_xmk (ks := [g, f]) (ws := [v, u]) (us := []) (its := [u, v]) (zs := [y, z]) Y T iC tI F hr hxe I1 (Nat.zero_le _) (fun s a _ => kb s (.ref a) u v) (.cons ry (.cons rz .nil)) fun a na => ⟨a, y, z, rfl, upd_same, fun d nd ne => ⟨rfl, ?_⟩⟩
    rw [upd_over ne]
    obtain ⟨nd', _⟩ := none_of_upd nd
    obtain ⟨h1, h2⟩ := made_at (C := C) (fs := [(g, z), (f, y)]) na nd' ne
    exact q1 a _ na h1 h2
/-- C(f = e, g = e2) -/
theorem pe_mk2k (Z : XCl2 X.prog X.w X.K X.mg X.base x C f g) (hr : Room 2 X.A) (hg : Gl X x) (he : PE X e te) (he2 : PE X e2 tg)
    (hdb : (x == ("__debug__" : Str)) = false := by decide)
    (hall : (backToKw pos (keywordEach [⟨some f, e, k1⟩, ⟨some g, e2, k2⟩] X.env)).all (·.1.isSome) = true := by rfl) (hks : (backToKw pos (keywordEach [⟨some f, e, k1⟩, ⟨some g, e2, k2⟩] X.env)).filterMap (·.1) = [f, g] := by rfl)
    (hpl : ((backTo pos (starEach [] X.env)).any (·.1) || (backToKw pos (keywordEach [⟨some f, e, k1⟩, ⟨some g, e2, k2⟩] X.env)).any (·.1.isNone)) = false := by rfl)
    (hxe : Passes CX0 X E0 := by exact pass0) : PE X (.Call (.Name x p) [] [⟨some f, e, k1⟩, ⟨some g, e2, k2⟩] pos) (tMk2 C f g te tg) := by
  obtain ⟨B, newId, initId, bmB, fI, fd, Y, T, iC, tI, F, pb, kb, kb2⟩ := Z.ex
  refine ⟨fun pins s σ H Q I h => ?_⟩
  refine wpAny_Call_Name_kw (ld_glob I hg Z.mgC ?_ hdb)
  refine PySem.W.callWith_KW0 (h₀ := X.base) I.ok.mod.kin T.kp hall ?_ hpl
  refine thn ((pk_cons (nm := some f) (kpos := k1) he (pk_cons (nm := some g) (kpos := k2) he2 pk_nil)).run pos pins s σ H (two fun y z H1 => ∀ a H2, H1 a = none → Same H1 H2 → ExcAt H2 a C [(g, z), (f, y)] → Q (.ref a) H2) I h) fun us s1 ⟨vs, H1, I1, r1, q1⟩ => ⟨I1.kIn, ?_⟩
  rw [hks]
  obtain ⟨y, z, rfl, q1⟩ := two_of q1
  obtain ⟨u, v, rfl, ru, rv⟩ := vals_two r1
  · skip
    refine run_xmk (ks := [f, g]) (ws := [u, v]) (us := []) (its := [u, v]) (zs := [y, z]) Y T iC tI F hr hxe I1 (Nat.zero_le _) (fun s a _ => kb2 s (.ref a) u v) r1 fun a na => ⟨a, y, z, rfl, upd_same, fun d nd ne => ⟨rfl, ?_⟩⟩
    rw [upd_over ne]
    obtain ⟨nd', _⟩ := none_of_upd nd
    obtain ⟨h1, h2⟩ := made_at (C := C) (fs := [(g, z), (f, y)]) na nd' ne
    exact q1 a _ na h1 h2
end
end L2.TT

namespace L2.TT
open PySem PySem.Spec PyProof.Rows
section
variable {X : Cx} {pins : List (Addr × Obj)} {σ : List (Option V)} {H : Hp} {s : Shared}
/-- an object that is new since the def was entered, from now on tracked -/
theorem inv_track {a : Addr} {o : Obj} {u : HO} (I : Inv X pins σ H s) (ha : s.heap.get? a = some o) (na : H a = none) (new : X.s_0.heap.get? a = none) (nL : a ≠ X.env.locals) (hd : ∀ v, o.data ≠ .cell v) (hp : ∀ p ∈ X.pn ++ pins, p.1 ≠ a)
    (ok : ObjOk X.prog X.w (upd H a u) s.heap a u) : Inv X pins σ (upd H a u) s := by
  have nt : ∀ {b : Addr} {v : HO}, H b = some v → b ≠ a := fun {b v} e z => by rw [z, na] at e; cases e
  refine ⟨I.ok, I.os, I.bare, ⟨I.base.keep, I.base.slot, fun b ob e n hx => ?_, I.base.there, fun b xs e => ?_, fun b ob v e => ?_, fun b ps e => ?_⟩, I.loc, I.cell, ?_, fun x c e => ?_, fun p hp' => ?_, fun b v e => ?_, I.len⟩
  · have nb : b ≠ a := fun z => by rw [z, new] at e; cases e
    rw [upd_ne nb]
    exact I.base.free b ob e n hx
  · have h1 := I.base.tups b xs e
    rw [upd_ne (nt h1)]
    exact h1
  · have h1 := I.base.frzs b ob v e
    rw [upd_ne (nt h1)]
    exact h1
  · obtain ⟨more, h1⟩ := I.base.tbls b ps e
    exact ⟨more, by rw [upd_ne (nt h1)]; exact h1⟩
  · rw [upd_ne nL.symm]
    exact I.free
  · have nc : c ≠ a := fun z => by
      obtain ⟨v, hv⟩ := I.cell x c e
      obtain ⟨oc, hoc, hdc⟩ := hv
      rw [z, ha] at hoc
      cases hoc
      exact hd v hdc
    rw [upd_ne nc]
    exact I.freeC x c e
  · obtain ⟨h1, h2, h3⟩ := I.pin p hp'
    exact ⟨h1, by rw [upd_ne (hp p hp')]; exact h2, h3⟩
  · by_cases hb : b = a
    · subst hb
      rw [upd_same] at e
      cases e
      exact ok
    · rw [upd_ne hb] at e
      exact (I.hok b v e).stay (fun c w _ q => q) (fun c q => by rw [upd_ne (nt q)]; exact q) fun c xs q => by rw [upd_ne (nt q)]; exact q
end
end L2.TT

namespace L2
open PySem PySem.Spec PyProof.Rows
/-- an error that has flown: its class, its dict, some fields -/
def exq (a : Addr) (cls : Value) (d : Option Addr) : HO := .ext fun h => ∃ (o : Obj) (vs : Array Value), h.get? a = some o ∧ o.cls = cls ∧ o.dict = d ∧ o.data = .fields vs
theorem exq_ok {P : Program} {w : World} {H : Hp} {h : Heap} {a : Addr} {cls : Value} {d : Option Addr} {o : Obj} {vs : Array Value} (he : h.get? a = some o) (h1 : o.cls = cls) (h2 : o.dict = d) (h3 : o.data = .fields vs) : ObjOk P w H h a (exq a cls d) :=
  ⟨⟨o, vs, he, h1, h2, h3⟩, ⟨_, he⟩, fun _ _ ⟨o', vs', e, q⟩ k => ⟨o', vs', k _ e, q⟩⟩
theorem exq_at {P : Program} {w : World} {H : Hp} {h : Heap} {a : Addr} {cls : Value} {d : Option Addr} (hok : HOk P w H h) (he : H a = some (exq a cls d)) : ∃ (o : Obj) (vs : Array Value), h.get? a = some o ∧ o.cls = cls ∧ o.dict = d ∧ o.data = .fields vs := by
  obtain ⟨z, _⟩ : ObjOk P w H h a (exq a cls d) := hok a _ he
  exact z
theorem flyZ_keeps {B h h' : Heap} {l : List Env} {e : Addr} {Z : Obj → Prop} (R : HandSPX.FlyingZ B l e Z h) (k : ∀ b o, h.get? b = some o → h'.get? b = some o) : HandSPX.FlyingZ B l e Z h' := by
  obtain ⟨f1, f2, f3, oe, ws, T, oT, ts, he, hc, hd, h1, hn, hne, hT, hdT, h3⟩ := R
  exact ⟨fun b o q => k b o (f1 b o q), f2, f3.of_keeps fun b o q _ => ⟨o, k b o q, rfl⟩, oe, ws, T, oT, ts, k _ _ he, hc, hd, h1, hn, hne, k _ _ hT, hdT, h3⟩
/-- the test of an except clause -/
def TestC (X : Cx) (t : Expr) (cls : Value) (b : Bool) : Prop :=
  ∀ {a : Addr} {oe : Obj} {pn : List (Addr × Obj)} {σ : St} {H : Hp} {s : Shared} {E : Value → Shared → Prop} {Q : Bool → Shared → Prop}, Inv (X.suite a ((a, oe) :: pn)) [] σ H s →
    PySem.W.Looks (model X.prog X.w) s.heap (typeOf (.ref a)) cls → (∀ h', (∀ q o, s.heap.get? q = some o → h'.get? q = some o) → Q b { s with heap := h' }) →
    wpAny (model X.prog X.w) (X.A.mark (some (.ref a))) (eval t X.env) (fun c s₁ => wpAny (model X.prog X.w) (X.A.mark (some (.ref a))) (excMatches (.ref a) c) Q E s₁) E s
/-- a class that is named -/
theorem names_ld {X : Cx} {x : Str} {c : Value} {np : Pos} (hc : Names X x c) {a : Addr} {oe : Obj} {pn : List (Addr × Obj)} {σ : St} {H : Hp} {s : Shared} {E : Value → Shared → Prop} {Q : Value → Shared → Prop} (I : Inv (X.suite a ((a, oe) :: pn)) [] σ H s) (q : Q c s) :
    wpAny (model X.prog X.w) (X.A.mark (some (.ref a))) (eval (.Name x np) X.env) Q E s := by
  obtain ⟨hg, hdbg, hm | ⟨hm, hv, hnn⟩⟩ := hc
  · exact ld_glob (X := X.suite a ((a, oe) :: pn)) I hg hm q hdbg
  · exact ld_blt (X := X.suite a ((a, oe) :: pn)) I hg hm hv q hnn hdbg
theorem test1 {X : Cx} {x : Str} {c cls : Value} {np : Pos} {b : Bool} (hc : Names X x c) (he : PySem.W.exmAny X.K cls [c] = some b) : TestC X (.Name x np) cls b := fun I LT q => by
  obtain ⟨b1, d1, x1, y1, z1⟩ := PySem.W.exmAny_cons he
  have e1 : d1 = false := by
    unfold PySem.W.exmAny at y1
    cases y1; rfl
  subst e1
  rw [Bool.or_false] at z1
  subst z1
  exact names_ld hc I ((PySem.W.exm_one I.kIn LT x1).here (q _ fun _ _ z => z))
theorem test3 {X : Cx} {x1 x2 x3 : Str} {c1 c2 c3 cls : Value} {p1 p2 p3 tpos : Pos} {kk} {b : Bool} (n1 : Names X x1 c1) (n2 : Names X x2 c2) (n3 : Names X x3 c3) (he : PySem.W.exmAny X.K cls [c1, c2, c3] = some b) :
    TestC X (.Tuple [.Name x1 p1, .Name x2 p2, .Name x3 p3] kk tpos) cls b := fun {a oe pn σ H s E Q} I LT q => by
  refine wpAny_Tuple ?_
  refine wpAny_items_cons (names_ld n1 I ?_)
  refine wpAny_items_cons (names_ld n2 I ?_)
  refine wpAny_items_cons (names_ld n3 I ?_)
  refine wpAny_items_nil ⟨by size_fits, ?_⟩
  have kp : ∀ q o, s.heap.get? q = some o → (s.heap.push { cls := .type "tuple", data := .seq [c1, c2, c3].toArray }).get? q = some o := fun _ _ z => Heap.get?_push_of_some _ z
  have kin : X.K.In s.heap := I.kIn
  exact (PySem.W.exm_tup3 (kin.keeps kp) (LT.keeps kp) (Heap.get?_push_size s.heap rfl) he).here (q _ kp)

/-- what the clause 'except (..) as n' wishes of an exception of the body; the error is tracked behind it -/
def wKp (K : PySem.W.Frag) (cs : List Value) (i : Nat) (ts : Addr → Value → Option Addr → TS) (Wout : WX) (D : Ends) : WX := fun cls d σ H =>
  ∃ b, PySem.W.exmAny K cls cs = some b ∧ (b = true → ∀ a, H a = none → ts a cls d { nx := fun σ' H' => D.nx (σ'.set i none) (upd H' a (exq a cls d)), rt := fun v H' => D.rt v (upd H' a (exq a cls d)), bk := fun σ' H' => D.bk (σ'.set i none) (upd H' a (exq a cls d)), ct := fun σ' H' => D.ct (σ'.set i none) (upd H' a (exq a cls d)) } (σ.set i (some (.ref a))) H) ∧
    (b = false → Wout cls d σ H)

section
variable {X : Cx} {t : Expr} {n : Str} {cs : List Value} {i : Nat} {body suite : List Stmt} {b₀ : Stmt} {pos pos' : Pos} {tb : WX → TS} {ts : Addr → Value → Option Addr → TS} {Wout : WX}
theorem ps_try_kp (hs : X.stack = X.env :: X.outer) (hf : X.env.frame = some X.env.locals) (hex : X.ex = []) (hN : X.N.Nodup) (hi : X.N[i]? = some n) (hln : X.env.kindOf n = some .local) (hc : ∀ cls b, PySem.W.exmAny X.K cls cs = some b → TestC X t cls b) (tk : Takes X Wout)
    (hb : ∀ (W : WX) (pn : List (Addr × Obj)) (xe : Value → Shared → Prop), Takes (X.tr pn xe) W → PassesOwn (model X.prog X.w) X.A X.env xe → PSs (X.tr pn xe) body (tb W))
    (hsu : ∀ (a : Addr) (oe : Obj) (cls : Value) (d : Option Addr) (pn : List (Addr × Obj)), Zc cls d oe → (∃ vs, oe.data = .fields vs) → PSs (X.suite a ((a, oe) :: pn)) (b₀ :: suite) (ts a cls d)) :
    PS X (.Try body [.ExceptHandler (some t) (some n) (b₀ :: suite) pos'] [] [] pos) (fun D σ H => tb (wKp X.K cs i ts Wout D) D σ H) := by
  refine ⟨fun pins s σ H D I h => ?_⟩
  have ok := I.ok
  have hfr : X.A.frames = some (X.env :: X.outer) := by rw [ok.frames, hs]
  have hloc : Loc X.env.scope n := .inl hln
  refine wpAny_Try_except ?_
  refine wpAny_mono ((hb (wKp X.K cs i ts Wout D) (X.pn ++ pins) (fun e s₁ => wpAny (model X.prog X.w) X.A (noteFrame e X.env) (fun _ s₂ => wpAny (model X.prog X.w) X.A (setFlight e none) (fun _ s₃ =>
    wpAny (model X.prog X.w) X.A (handleBy e X.env [.ExceptHandler (some t) (some n) (b₀ :: suite) pos']) (SP X pins D) X.xe s₃) X.xe s₂) X.xe s₁) (fun u s' xx => ?_) PassesOwn.looking).run [] s σ H D (I.toTry _) h) (fun f s1 hsp => ?_) (fun e s1 he => he)
  · -- the catch
    obtain ⟨a, B, sI, pins', σ', H', cls, d, rfl, J', nb, up, sky, na, os, ag, b, hb1, hyes, hno⟩ := xx
    have J : Inv X pins σ' H' sI := J'.ofTry ok
    have sky' : Sky B (X.env :: X.outer) a (Zc cls d) X.env.locals s'.heap := by rw [← hs]; exact sky
    show wpAny (model X.prog X.w) X.A (noteFrame (.ref a) X.env) _ _ _
    refine Sky.land Zc.steady hfr hf sky' fun h3 fl3 up3 => ?_
    have J3 : Inv X pins σ' H' { s' with heap := h3 } := J.landed nb fl3.1 (up.trans up3) os ag
    obtain ⟨oe3, vs3, he3, hz3, hd3⟩ := fl3.there
    have notFr : ∀ {h : Heap} {o : Obj} {vs : Array Value}, h.FunFrames B (X.env :: X.outer) → h.get? a = some o → o.data = .fields vs → a ∉ frs (X.env :: X.outer) := fun {h o vs} ff e dd hm => by
      obtain ⟨_, o', e', hnf⟩ := ff.mem hm
      rw [e] at e'; cases e'
      exact hnf _ dd
    have nfr := notFr fl3.2.2.1 he3 hd3
    have nL : a ≠ X.env.locals := fun z => nfr (List.mem_filterMap.mpr ⟨X.env, List.mem_cons_self, by rw [hf, z]⟩)
    have nF : a ∉ X.fs := fun hm => by
      obtain ⟨e, he, q⟩ := List.mem_filterMap.mp hm
      exact nfr (List.mem_filterMap.mpr ⟨e, List.mem_cons_of_mem _ he, q⟩)
    have S3 := J3.suite he3 hd3 na nL nF
    refine wpAny_handleBy_cons (codeAny_handlers_test ?_) (by intro q; cases q)
    have LT : PySem.W.Looks (model X.prog X.w) h3 (typeOf (.ref a)) cls := fun A Q E s k q => wpAny_typeOf_ref (k _ _ he3) (by rw [hz3.1]; exact q)
    have notI : ∀ o, sI.heap.get? a ≠ some o := fun o e => by
      have hB := nb a o e (by rw [hs]; exact nfr)
      rw [fl3.2.1] at hB
      cases hB
    have new0 : X.s_0.heap.get? a = none := by
      cases e : X.s_0.heap.get? a with
      | none => rfl
      | some o =>
        exfalso
        obtain ⟨o', e'⟩ := J.base.there a o e (by rw [hex]; exact List.not_mem_nil)
        exact notI _ e'
    have npin : ∀ p ∈ X.pn ++ pins, p.1 ≠ a := fun p hp z => by
      have := (J.pin p hp).1
      rw [z] at this
      exact notI _ this
    refine hc cls b hb1 S3 LT fun h3' kp => ?_
    have fl3' := flyZ_keeps fl3 kp
    have upk : h3.UpToSlots h3' := Heap.UpToSlots.of_keeps kp
    cases b with
    | true =>
      refine codeAny_handlers_suite_as ?_
      refine HandSPX.lands_againZ fl3' fun h4 fl4 up4 => ?_
      have J4 : Inv X pins σ' H' { s' with heap := h4 } := J.landed nb fl4.1 (((up.trans up3).trans upk).trans up4) os ag
      obtain ⟨oe4, vs4, he4, hz4, hd4⟩ := fl4.there
      have S4 := J4.suite he4 hd4 na nL nF
      refine store_ok (X := X.suite a ((a, oe4) :: (X.pn ++ pins))) (v := .ref a) S4 hN hi hloc rfl (fun s5 S5 => ?_) (.inr hln)
      refine wpAny_mono ((hsu a oe4 cls d (X.pn ++ pins) hz4 ⟨_, hd4⟩).run [] s5 _ H' _ S5 (hyes rfl a na)) (fun f s6 hsp => ?_) (fun _ _ z => False.elim z)
      have end_ : ∀ {σ6 : St} {H6 : Hp} {Q : Shared → Prop}, Inv (X.suite a ((a, oe4) :: (X.pn ++ pins))) [] σ6 H6 s6 → (∀ s7, Inv X pins (σ6.set i none) (upd H6 a (exq a cls d)) s7 → Q s7) →
          wpAny (model X.prog X.w) X.A (do bindName X.env n .none; unbindBehindTheSuite X.env n pos') (fun _ s7 => Q s7) X.xe s6 := fun {σ6 H6 Q} S6 hq => gone_ok (X := X.suite a ((a, oe4) :: (X.pn ++ pins))) S6 hN hi hln fun s7 S7 => by
        obtain ⟨p1, p2, p3, p4, p5⟩ := S7.pin (a, oe4) (List.mem_append_left _ List.mem_cons_self)
        exact hq _ (TT.inv_track (S7.unsuite ok) p1 p2 new0 nL (fun v z => p5 v z) npin (exq_ok p1 hz4.1 hz4.2 hd4))
      cases f with
      | next =>
        obtain ⟨σ6, H6, S6, q6⟩ := hsp
        exact end_ S6 fun s7 J7 => ⟨_, _, J7, q6⟩
      | brk =>
        obtain ⟨σ6, H6, S6, q6⟩ := hsp
        exact end_ S6 fun s7 J7 => ⟨_, _, J7, q6⟩
      | cont =>
        obtain ⟨σ6, H6, S6, q6⟩ := hsp
        exact end_ S6 fun s7 J7 => ⟨_, _, J7, q6⟩
      | ret u =>
        obtain ⟨v6, σ6, H6, S6, r6, q6⟩ := hsp
        exact end_ S6 fun s7 J7 => ⟨_, _, _, J7, r6, q6⟩
    | false =>
      show wpAny _ X.A (handleBy (.ref a) X.env []) _ _ _
      refine wpAny_handleBy_nil ?_
      obtain ⟨k1, k2, k3, oe, vs, T, oT, ts', he, hz, hd, h1, hr⟩ := id fl3'
      unfold PySem.passOn
      refine wpAny_bind (wpAny_field he hd h1 ?_)
      rw [if_neg (show ¬ ((Value.ref T == Value.none) = true) from by simp)]
      have fin : wpAny (model X.prog X.w) X.A (setFlight (.ref a) X.env.frame) (fun _ s4 => wpAny (model X.prog X.w) X.A (throw (.ref a) : Sem Flow) (SP X pins D) X.xe s4) X.xe { s' with heap := h3' } := by
        rw [hf]
        refine HandSPX.setFlight_upZ fl3' fun h4 hh4 up4 => wpAny_throw (tk _ _ ?_)
        exact ⟨a, B, sI, pins, σ', H', cls, d, rfl, J, nb, ((up.trans up3).trans upk).trans up4, .inr (.inr (by rw [hs]; exact hh4)), na, os, ag, hno rfl⟩
      first
        | exact wpAny_bind (wpAny_pure (wpAny_bind fin))
        | exact wpAny_bind fin
  · cases f with
    | next =>
      obtain ⟨σ', H', J', q⟩ := hsp
      exact wpAny_execs_nil ⟨σ', H', J'.ofTry ok, q⟩
    | brk =>
      obtain ⟨σ', H', J', q⟩ := hsp
      exact ⟨σ', H', J'.ofTry ok, q⟩
    | cont =>
      obtain ⟨σ', H', J', q⟩ := hsp
      exact ⟨σ', H', J'.ofTry ok, q⟩
    | ret u =>
      obtain ⟨v, σ', H', J', r, q⟩ := hsp
      exact ⟨v, σ', H', J'.ofTry ok, r, q⟩
end
end L2

namespace L2.TT
open PySem PySem.Spec PyProof.Rows PySem.W
/-- an error that has flown, with its fields -/
def FlownAt (H : Hp) (a C : Addr) (fs : List (Str × V)) : Prop := ∃ d, H a = some (exq a (.ref C) (some d)) ∧ H d = some (.xd fs)
theorem FlownAt.mk {H : Hp} {a C d : Addr} {fs : List (Str × V)} (na : H a = none) (e : H d = some (.xd fs)) : FlownAt (upd H a (exq a (.ref C) (some d))) a C fs :=
  ⟨d, upd_same, by
    rw [upd_ne (fun z => by rw [z, na] at e; cases e)]
    exact e⟩
theorem FlownAt.same {H H' : Hp} {a C : Addr} {fs : List (Str × V)} (e : FlownAt H a C fs) (s : Same H H') : FlownAt H' a C fs := by
  obtain ⟨d, h1, h2⟩ := e
  exact ⟨d, s _ _ h1, s _ _ h2⟩
theorem inst_fl {P : Program} {w : World} {H : Hp} {h : Heap} {a C : Addr} {fs : List (Str × V)} (hok : HOk P w H h) (e : FlownAt H a C fs) : ∃ (ob : Obj) (dd : Addr) (od : Obj) (mA : Str → Option Value),
    InstAt h a ob C (some od) ∧ h.Ns1 dd mA ∧ (∀ f, RelO (fs.lookup f) (mA f)) ∧ (∀ f v, mA f = some v → lookIn f od = some (some v)) := by
  obtain ⟨d, h1, h2⟩ := e
  obtain ⟨ob, vs, ho, hc, hd, hf⟩ := exq_at hok h1
  obtain ⟨mA, hns, rel⟩ := (show ObjOk P w H h d (.xd fs) from hok d _ h2)
  obtain ⟨od, hod, hl⟩ := lookIn_ns hns
  refine ⟨ob, d, od, mA, ⟨ho, hc, by rw [notCls, hf], by rw [hd]; exact hod⟩, hns, rel, fun f v e => by rw [hl, e]⟩
/-- e.f, e an exception that stands there -/
def tFget (K : Frag) (te : TE) (n : Str) : TE := fun σ H Q => te σ H fun x H1 => ∃ (a C : Addr) (fs : List (Str × V)) (v : V) (newId : String) (bmB : List Value), x = .ref a ∧ XC K C bmB newId ∧ findIn K (.ref C) n = some none ∧ FlownAt H1 a C fs ∧ fs.lookup n = some v ∧ Q v H1
/-- isinstance(e, c) -/
def rFis (K : Frag) : List V → Hp → VK → Prop := fun xs H Q => ∃ (a C : Addr) (c : V) (u : Value) (fs : List (Str × V)) (newId : String) (bmB : List Value) (b : Bool), xs = [.ref a, c] ∧ ClsV c u ∧ XC K C bmB newId ∧ FlownAt H a C fs ∧ kitOne K (.ref C) u = some b ∧ Q (.bl b) H
/-- isinstance(e, (c1, c2, ..)) -/
def rFisT (K : Frag) : List V → Hp → VK → Prop := fun xs H Q => ∃ (a C tp : Addr) (cs : List V) (us : List Value) (fs : List (Str × V)) (newId : String) (bmB : List Value) (b : Bool), xs = [.ref a, .ref tp] ∧ H tp = some (.tup cs) ∧ Paired ClsV cs us ∧ XC K C bmB newId ∧ FlownAt H a C fs ∧ kitAny K (.ref C) us = some b ∧ Q (.bl b) H
section
variable {X : Cx} {e : Expr} {te : TE} {n : Str} {pos : Pos}
theorem pe_fget (he : PE X e te) (hb : attributeBase e n X.env (eval e X.env) = eval e X.env := by rfl) : PE X (.Attribute e n pos) (tFget X.K te n) := by
  refine ⟨fun pins s σ H Q I h => ?_⟩
  refine attr_of hb (thn (he.run pins s σ H _ I h) fun u s1 hh => ?_)
  obtain ⟨x, H1, I1, rx, a, C, fs, v, newId, bmB, ex, T, hno, ea, l, q⟩ := hh
  subst ex
  obtain rfl : u = Value.ref a := rx
  obtain ⟨t1, dd, od, mA, J, hns, rel, hl⟩ := inst_fl I1.hok ea
  obtain ⟨u, hu, ru⟩ := RelO.some_of (v := v) (o := mA n) (by rw [← l]; exact rel n)
  exact HandSPX.exc_get I1.kIn J T.ga T.gg T.sub (findObj_own T.hd hno rfl (hl n u hu)) (handed_of ru) ⟨v, H1, I1.tok _, ru, q⟩
theorem call_fis (Z : KCls X.K) : CallR X (.builtin "isinstance") (rFis X.K) := by
  intro pins s σ H xs us Q I r h
  obtain ⟨a, C, c, u, fs, newId, bmB, b, rfl, k, T, ea, e, q⟩ := h
  obtain ⟨u1, u2, rfl, r1, r2⟩ := vals2 r
  have e2 := k.eq r2
  subst e2
  obtain rfl : u1 = Value.ref a := r1
  obtain ⟨t1, dd, od, mA, J, _⟩ := inst_fl I.hok ea
  exact kia_one (kit_exc Z T) I.kIn J e (fun z => nomatch z) fun tk => ⟨.bl b, H, I.tok tk, rfl, q⟩
theorem call_fisT (Z : KCls X.K) : CallR X (.builtin "isinstance") (rFisT X.K) := by
  intro pins s σ H xs us Q I r h
  obtain ⟨a, C, tp, cs, ws, fs, newId, bmB, b, rfl, hT, k, T, ea, e, q⟩ := h
  obtain ⟨u1, u2, rfl, r1, r2⟩ := vals2 r
  obtain rfl : u1 = Value.ref a := r1
  cases (show u2 = Value.ref tp from r2)
  obtain ⟨t1, dd, od, mA, J, _⟩ := inst_fl I.hok ea
  obtain ⟨_, its, rv, o, h1, h2, n, h3⟩ := (show ObjOk X.prog X.w H s.heap tp (.tup cs) from I.hok tp _ hT)
  have e3 := ClsV.all k rv
  subst e3
  obtain ⟨oc, od', dt, sl⟩ := o
  simp only at h2 h3
  subst h2 h3
  exact kia_tup (kit_exc Z T) I.kIn J h1 e (fun z => nomatch z) fun tk => ⟨.bl b, H, I.tok tk, rfl, q⟩
end
end L2.TT

namespace L2.TT
open PySem PySem.Spec PyProof.Rows PySem.W
/-- an own exception class over ValueError, RuntimeError or LookupError, to be raised -/
structure OexG (K : Frag) (C : Addr) : Prop where
  xc : ∃ (B newId initId : String) (bmB : List Value), XB B newId initId bmB ∧ XC K C bmB newId
  ty : typeIn K (.ref C) = some (.type "type")
section
variable {X : Cx} {p pos : Pos} {e : Expr} {es : List Expr} {ta : TA}
theorem pmk_oxg {CX : CXT} {x : Str} {C fI : Addr} {k : Nat} {fd : FuncData} {ps : List Str} {sp : Sp} {ds : List Value} {dvs : List V} (T : OexG X.K C) (iC : findIn X.K (.ref C) "__init__" = some (some (.ref fI))) (tI : typeIn X.K (.ref fI) = some (.type "function"))
    (F1 : FnOk X.prog X.w X.K X.mg X.base CX k fI fd ps sp) (hr : Room (k + 1) X.A) (hb : Binds X.K fd ps ds) (hd : Vals dvs ds) (hx : Passes CX X (fun _ _ _ => False)) (hg : Gl X x) (hm : X.mg x = some (.ref C)) (ha : PA X (e :: es) ta)
    (hdb : (x == ("__debug__" : Str)) = false := by decide) (he : starEach (e :: es) X.env = (false, eval e X.env) :: starEach es X.env := by rfl) (hpl : (backTo pos (starEach es X.env)).any (·.1) = false := by rfl) :
    PMk X (.Call (.Name x p) (e :: es) [] pos) (tMkO C sp dvs ta) := by
  intro pins s σ H Q I h
  obtain ⟨⟨B, newId, initId, bmB, Y, T0⟩, ty⟩ := T
  refine wpAny_Call_Name_kw (ld_glob I hg hm ?_ hdb)
  refine callWith_K (h₀ := X.base) I.ok.mod.kin T0.kp (thn (ha.run pos pins s σ H _ I h) fun us s1 ⟨vs, H1, I1, r1, hz, q1⟩ => ⟨I1.kIn, ?_⟩) he hpl
  obtain ⟨nm, N, qn, bs, bm, hdct, sn, sub, ab, col, dd, k0, k1, k2, k3, k5, hC, hT⟩ := excInit_of I1.kIn T0.ini
  show wpAny _ _ (call (.ref C) us) _ _ _
  obtain ⟨hp, g, dr, tk, os⟩ := s1
  have hsz : hp.objs.size ≤ hp.objs.size + 1 := Nat.le_succ _
  have hn : H1 (hp.objs.size + 1) = none := I1.hok.fresh hsz
  have hq := q1 (hp.objs.size + 1) hn
  have kk : ∀ b o, hp.get? b = some o → ((hp.push (kdv_tup us)).push (HandSPX.excO C hp.objs.size)).get? b = some o := fun b o e => Heap.get?_push_of_some _ (Heap.get?_push_of_some _ e)
  have hget : ((hp.push (kdv_tup us)).push (HandSPX.excO C hp.objs.size)).get? (hp.objs.size + 1) = some (HandSPX.excO C hp.objs.size) := by heap_get
  have I2 : Inv X pins σ (upd H1 (hp.objs.size + 1) (exo (hp.objs.size + 1) C none)) ⟨(hp.push (kdv_tup us)).push (HandSPX.excO C hp.objs.size), g, dr, tk, os⟩ :=
    I1.laid (t' := tk) (a := hp.objs.size + 1) (o := exo (hp.objs.size + 1) C none) (h' := (hp.push (kdv_tup us)).push (HandSPX.excO C hp.objs.size)) kk hsz (exo_ok hget)
  have r2 : Vals (V.ref (hp.objs.size + 1) :: (vs ++ dvs)) (Value.ref (hp.objs.size + 1) :: (us ++ ds)) := .cons rfl (r1.append hd)
  have hl : (Value.ref (hp.objs.size + 1) :: us ++ ds).length = ps.length := by
    have e := r2.length
    rw [F1.len _ _ _ _ hq] at e
    exact e.symm
  refine wpAny_call (call_exc Y.ex hT hC (looks_findIn I1.kIn iC) (fun self => bind_fn I1.kIn self tI) (small_of r1 hz)
    (codeAny_mono (F1.run _ X.stack _ _ ⟨Value.ref (hp.objs.size + 1) :: us, []⟩ (Value.ref (hp.objs.size + 1) :: (us ++ ds)) _ _ (fun _ _ _ => False) (hr.make C us []) (I2.env0.make C us []) (hb _ (Value.ref (hp.objs.size + 1) :: us) I2.kIn hl) r2 hq) fun r s' hq' => ?_))
  cases r with
  | error er => exact hx pins σ _ _ er s' I2 hq'
  | ok fl =>
    cases fl with
    | ret u =>
      obtain ⟨v, H2, os2, bare2, un2, hok2, rv, ev, d, fs, ea, ed, hd1, q2⟩ := hq'
      subst ev
      obtain ⟨h2, g2, d2, t2, os'⟩ := s'
      exact ⟨rv, mk_end (raises_own T0.sub ty) I1 hsz kk un2 hok2 os2 bare2 ea ed hd1 q2⟩
    | next => exact False.elim hq'
    | brk => exact False.elim hq'
    | cont => exact False.elim hq'
end
end L2.TT

namespace TR
open PySem PySem.Spec PyProof.Rows L2 L2.TT StX ClX
/-- an exception class of the program that keeps one field, to be raised -/
structure RzC (P : Program) (w : World) (K : PySem.W.Frag) (mg : Str → Option Value) (base : Heap) (x : Str) (C : Addr) (f : Str) : Prop where
  ox : OexG K C
  mgC : mg x = some (.ref C)
  ex : ∃ (fI : Addr) (fd : FuncData), PySem.W.findIn K (.ref C) "__init__" = some (some (.ref fI)) ∧ PySem.W.typeIn K (.ref fI) = some (.type "function") ∧ FnOk P w K mg base CX0 1 fI fd ["self", f] (spI1 C f) ∧ Binds K fd ["self", f] []
theorem rz_end {C : Addr} {f : Str} {y : V} {H : Hp} {Q : XK} (h : ∀ d, H d = none → Q (.ref C) (some d) (upd H d (.xd [(f, y)]))) :
    [y].length ≤ 1000 ∧ ∀ a, H a = none → spI1 C f (.ref a :: ([y] ++ [])) (upd H a (exo a C none))
      (fun v H2 => v = .non ∧ ∃ (d : Addr) (fs : List (Str × V)), H2 a = some (exo a C (some d)) ∧ H2 d = some (exd d fs) ∧ H d = none ∧ Q (.ref C) (some d) (upd (del H2 a) d (.xd fs))) (fun _ _ _ => False) := by
  refine ⟨by show 1 ≤ 1000; decide, fun a na => ⟨a, y, rfl, upd_same, fun d nd ne => ⟨rfl, d, [(f, y)], upd_same, by rw [upd_ne ne, upd_same], by rw [upd_ne ne] at nd; exact nd, ?_⟩⟩⟩
  have hd : H d = none := by
    rw [upd_ne ne] at nd
    exact nd
  have e : upd (del (upd (upd (upd H a (exo a C none)) d (exd d [(f, y)])) a (exo a C (some d))) a) d (.xd [(f, y)]) = upd H d (.xd [(f, y)]) := by
    funext b
    by_cases h1 : b = d
    · rw [h1, upd_same, upd_same]
    · rw [upd_ne h1, upd_ne h1]
      by_cases h2 : b = a
      · rw [h2, del_same, na]
      · rw [del_ne h2, upd_ne h2, upd_ne h1, upd_ne h2]
  rw [e]
  exact h d hd
section
variable {X : Cx} {CX : CXT} {k : Nat} {f C : Addr} {fd : FuncData} {ps : List Str} {sp : Sp} {E : L2.St → XK} {m : Str} {apos pos' : Pos} {o e : Expr} {es : List Expr} {ta : TE} {t : TA}
/-- o.m(e, ..), the wish about exceptions by the slots -/
def tMethS (C : Addr) (m : Str) (sp : Sp) (E : L2.St → XK) (ta : TE) (t : TA) : TE := fun σ H Q => ta σ H fun x H1 => ∃ a dx fs, x = .ref a ∧ H1 a = some (.ins C dx fs) ∧ fs.lookup m = none ∧ t σ H1 fun vs H2 => sp (x :: vs) H2 Q (E σ)
theorem pe_methS {pl : Sem Bool} (he : PE X o ta) (c : Cls X.K C) (hm : Meth X.K C m f) (F : FnOk X.prog X.w X.K X.mg X.base CX k f fd ps sp) (hr : Room k X.A) (hb : Binds X.K fd ps []) (hx : ∀ σ, PassesAt CX X σ (E σ)) (ha : PA X (e :: es) t)
    (hst : starEach (e :: es) X.env = (false, eval e X.env) :: starEach es X.env := by rfl) (hpl : (backTo pos' (starEach es X.env)).any (·.1) = false := by rfl)
    (ht : eval (.Call (.Attribute o m apos) (e :: es) [] pos') X.env = (do
      let ov ← eval o X.env
      standAt apos.atName
      let (f, first) ← holding [ov] (getMethod ov m pl)
      callWith pos' f first (backTo pos' (starEach (e :: es) X.env)) (backToKw pos' (keywordEach [] X.env))) := by rfl) :
    PE X (.Call (.Attribute o m apos) (e :: es) [] pos') (tMethS C m sp E ta t) := by
  refine ⟨fun pins s σ H Q I h => ?_⟩
  refine PySem.W.methodCall_KW (pl := pl) (thn (he.run pins s σ H _ I h) fun u s1 ⟨x, H1, I1, rx, a, dx, fs, ex, ea, l, q⟩ => ?_) ht
  subst ex
  obtain rfl : u = Value.ref a := rx
  refine getmeth_ok I1 ea c hm l ?_
  refine PySem.W.callWith_K (first := [.ref a]) (h₀ := X.base) I.ok.mod.kin hm.kp (thn (ha.run pos' pins s1 σ H1 _ I1 q) fun us s2 ⟨vs, H2, I2, r, q2⟩ => ⟨I2.kIn, ?_⟩) hst hpl
  exact run_fnS (us := .ref a :: us) (vs := .ref a :: vs) F hr hb (hx σ) I2 (.cons rfl r) q2
end
def spChkX (C CI : Addr) (K : PySem.W.Frag) : Sp := fun vs H _ E => ∃ (r : Addr) (tr : List E2) (v : V), vs = [.ref r, v] ∧ RailAt C H r tr ∧ IV K H v ∧ inR v 0 tr.length = false ∧ ∀ d, H d = none → E (.ref CI) (some d) (upd H d (.xd [("value", v)]))
def spPathX (C CI : Addr) (K : PySem.W.Frag) : Sp := fun vs H _ E => ∃ (r : Addr) (tr : List E2) (u v : V), vs = [.ref r, u, v] ∧ RailAt C H r tr ∧
  ((IV K H u ∧ inR u 0 tr.length = false ∧ ∀ d, H d = none → E (.ref CI) (some d) (upd H d (.xd [("value", u)]))) ∨
    ∃ a : Nat, u = iv a ∧ a ≤ tr.length ∧ IV K H v ∧ inR v 0 tr.length = false ∧ ∀ d, H d = none → E (.ref CI) (some d) (upd H d (.xd [("value", v)])))
section
variable {P : Program} {w : World} {K : PySem.W.Frag} {mg : Str → Option Value} {base : Heap}
theorem ok_chkX {f fI C CI : Addr} {fd fdI : FuncData} (F : Fun K "check_station" "check_station" s_check_station f fd) (U : Use P w K mg base CX0 3 "is_station" fI fdI ["railway", "value"] (spIsSt C K)) (Z : RzC P w K mg base "InvalidStation" CI "value") :
    FnOk P w K mg base (L2.CX P w) 4 f fd ["railway", "station"] (spChkX C CI K) := by
  refine L2.Fun.okX F sc_chk (fun vs H Q E h => ?_) (fun cdv A outer s H vs Q E hr h => ?_)
  · obtain ⟨r, tr, v, rfl, _⟩ := h
    rfl
  · obtain ⟨r, tr, v, rfl, R, hv, hn, k⟩ := h
    obtain ⟨fI, fdI, i1, i2, F1, b1⟩ := Z.ex
    refine ⟨_, pss_one (ps_if (pt_not (pt_val (pe_use U hr rfl (pa_cons (pv 0) (pa_cons (pv 1) pa_nil))))) (pss_one (ps_raise rfl (takes_of rfl rfl rfl rfl) (pmk_oxg Z.ox i1 i2 F1 (hr.mono (by decide)) b1 .nil pass0 rfl Z.mgC (pa_cons (pv 1) pa_nil)))) pss_nil), ?_⟩
    refine ⟨_, rfl, _, rfl, r, tr, _, rfl, R, hv, _, rfl, ?_⟩
    rw [hn]
    refine iteT ?_
    exact ⟨_, rfl, rz_end k⟩
theorem sc_nbr0 : FnScope ["self", "station"] ["self", "station"] (defScope s_Railway_neighbours) := ⟨rfl, rfl, rfl, by decide +kernel, rfl, by decide +kernel, by decide +kernel⟩
/-- check_station, as a def that may raise -/
structure UseX (P : Program) (w : World) (K : PySem.W.Frag) (mg : Str → Option Value) (base : Heap) (k : Nat) (x : Str) (f : Addr) (fd : FuncData) (ps : List Str) (sp : Sp) : Prop where
  G : FnOk P w K mg base (L2.CX P w) k f fd ps sp
  m : mg x = some (.ref f)
  kp : PySem.W.keepIn K (.ref f) = true
  b : Binds K fd ps []
theorem ok_nbrX {f fc C CI : Addr} {fd fdc : FuncData} (F : Fun K "neighbours" "Railway.neighbours" s_Railway_neighbours f fd) (U : UseX P w K mg base 4 "check_station" fc fdc ["railway", "station"] (spChkX C CI K)) : FnOk P w K mg base (L2.CX P w) 5 f fd ["self", "station"] (spChkX C CI K) := by
  refine L2.Fun.okX F sc_nbr0 (fun vs H Q E h => ?_) (fun cdv A outer s H vs Q E hr h => ?_)
  · obtain ⟨r, tr, v, rfl, _⟩ := h
    rfl
  · obtain ⟨r, tr, v, rfl, R, hv, hn, k⟩ := h
    refine ⟨_, pss_cons (ps_expr (pe_call U.G hr rfl U.m U.kp U.b .nil (passes_call (takes_of rfl rfl rfl rfl) (fun _ _ _ _ h => h)) (pa_cons (pv 0) (pa_cons (pv 1) pa_nil)))) L2.pss_never, ?_⟩
    exact ⟨_, rfl, _, rfl, r, tr, v, rfl, R, hv, hn, k⟩
theorem ok_pathX {f fc C CI : Addr} {fd fdc : FuncData} (F : Fun K "path" "Railway.path" s_Railway_path f fd) (U : UseX P w K mg base 4 "check_station" fc fdc ["railway", "station"] (spChkX C CI K)) (U0 : Use P w K mg base CX0 4 "check_station" fc fdc ["railway", "station"] (spChkSt C)) :
    FnOk P w K mg base (L2.CX P w) 5 f fd ["self", "one", "other"] (spPathX C CI K) := by
  refine L2.Fun.okX F sc_path (fun vs H Q E h => ?_) (fun cdv A outer s H vs Q E hr h => ?_)
  · obtain ⟨r, tr, u, v, rfl, _⟩ := h
    rfl
  · obtain ⟨r, tr, u, v, rfl, R, h | ⟨a, rfl, ha, hv, hn, k⟩⟩ := h
    · obtain ⟨hv, hn, k⟩ := h
      refine ⟨_, pss_cons (ps_expr (pe_call U.G hr rfl U.m U.kp U.b .nil (passes_call (takes_of rfl rfl rfl rfl) (fun _ _ _ _ h => h)) (pa_cons (pv 0) (pa_cons (pv 1) pa_nil)))) L2.pss_never, ?_⟩
      exact ⟨_, rfl, _, rfl, r, tr, u, rfl, R, hv, hn, k⟩
    · refine ⟨_, pss_cons (ps_expr (pe_use U0 hr rfl (pa_cons (pv 0) (pa_cons (pv 1) pa_nil)))) (pss_cons (ps_expr (pe_call U.G hr rfl U.m U.kp U.b .nil (passes_call (takes_of rfl rfl rfl rfl) (fun _ _ _ _ h => h)) (pa_cons (pv 0) (pa_cons (pv 2) pa_nil)))) L2.pss_never), ?_⟩
      refine ⟨_, rfl, _, rfl, r, tr, a, rfl, R, ha, ?_⟩
      exact ⟨_, rfl, _, rfl, r, tr, v, rfl, R, hv, hn, k⟩
theorem sc_dist : FnScope ["self", "one", "other"] ["self", "one", "other"] (defScope s_Railway_distance) := ⟨rfl, rfl, rfl, by decide +kernel, rfl, by decide +kernel, by decide +kernel⟩
def spDist (C : Addr) : Sp := fun vs H Q _ => ∃ (r : Addr) (tr : List E2) (a b : Nat), vs = [.ref r, iv a, iv b] ∧ RailAt C H r tr ∧ a ≤ tr.length ∧ b ≤ tr.length ∧
  ∀ (l : List Nat) (H' : Hp), SW tr a b l → Same H H' → Q (.int ((l.length : Int) - 1)) H'
theorem ok_dist {f fp C : Addr} {fd fdp : FuncData} (F : Fun K "distance" "Railway.distance" s_Railway_distance f fd) (N : Nm mg) (X : TxtR K mg C) (m : Meth K C "path" fp) (G : FnOk P w K mg base CX0 5 fp fdp ["self", "one", "other"] (spPath C)) (bp : Binds K fdp ["self", "one", "other"] []) :
    FnOk P w K mg base CX0 6 f fd ["self", "one", "other"] (spDist C) := by
  refine F.ok sc_dist (fun vs H Q E h => ?_) (fun cdv A outer s H vs Q E hr h => ?_)
  · obtain ⟨r, tr, a, b, rfl, _⟩ := h
    rfl
  · obtain ⟨r, tr, a, b, rfl, R, ha, hb, k⟩ := h
    refine ⟨_, pss_one (ps_ret (pe_op op_sub (pe_callB call_len_seq (by rfl) N.len PySem.boot_len (pa_cons (pe_meth (pv 0) X.cl m G hr bp .nil pass0 (pa_cons (pv 1) (pa_cons (pv 2) pa_nil))) pa_nil)) pe_int)), ?_⟩
    obtain ⟨T, few, dx, tt, na, Aa, L, ps, ts, h1, h2⟩ := id R
    refine ⟨_, rfl, r, dx, _, rfl, h1, flR_no (by decide +kernel) (by decide +kernel) (by decide +kernel) (by decide +kernel), _, rfl, _, rfl, r, tr, a, b, rfl, R, ha, hb, fun l p H' sw s1 np hp => ?_⟩
    refine ⟨p, _, rfl, .inr (SqT.of hp), _, _, rfl, rfl, ?_⟩
    have q := k l H' sw s1
    rw [List.length_map]
    exact q
theorem ok_distX {f fp C CI : Addr} {fd fdp : FuncData} (F : Fun K "distance" "Railway.distance" s_Railway_distance f fd) (N : Nm mg) (X : TxtR K mg C) (m : Meth K C "path" fp) (G : FnOk P w K mg base (L2.CX P w) 5 fp fdp ["self", "one", "other"] (spPathX C CI K)) (bp : Binds K fdp ["self", "one", "other"] []) :
    FnOk P w K mg base (L2.CX P w) 6 f fd ["self", "one", "other"] (spPathX C CI K) := by
  refine L2.Fun.okX F sc_dist (fun vs H Q E h => ?_) (fun cdv A outer s H vs Q E hr h => ?_)
  · obtain ⟨r, tr, u, v, rfl, _⟩ := h
    rfl
  · obtain ⟨r, tr, u, v, rfl, R, h⟩ := h
    refine ⟨_, pss_one (ps_ret (pe_op op_sub (pe_callB call_len_seq (by rfl) N.len PySem.boot_len (pa_cons (pe_meth (pv 0) X.cl m G hr bp .nil (passes_call (takes_of rfl rfl rfl rfl) (fun _ _ _ _ h => h)) (pa_cons (pv 1) (pa_cons (pv 2) pa_nil))) pa_nil)) pe_int)), ?_⟩
    obtain ⟨T, few, dx, tt, na, Aa, L, ps, ts, h1, h2⟩ := id R
    exact ⟨_, rfl, r, dx, _, rfl, h1, flR_no (by decide +kernel) (by decide +kernel) (by decide +kernel) (by decide +kernel), _, rfl, _, rfl, r, tr, u, v, rfl, R, h⟩
end
end TR

namespace L2.TT
open PySem PySem.Spec PyProof.Rows PySem.W
/-- repr(t), t a tuple -/
def rReprT (K : Frag) : List V → Hp → VK → Prop := fun xs H Q => ∃ (a : Addr) (vs : List V) (ds : List PyData), xs = [.ref a] ∧ SqT K H a vs ∧ DL K H vs ds ∧ PyData.showableAll ds = true ∧ PyData.leavesShortAll 13 ds = true ∧ PyData.weightAll ds ≤ 1000000 ∧ PyData.depthAll ds ≤ 20 ∧
  Q (.str (PyData.shown (.tuple ds))) H
theorem call_reprT {X : Cx} (hg : X.A.guards = some []) (hu : X.A.units + 64 < cLine) : CallR X (.builtin "repr") (rReprT X.K) := by
  intro pins s σ H xs us Q I r h
  obtain ⟨a, vs, ds, rfl, hl, hd, hs, hb, hw, hp, q⟩ := h
  obtain rfl := Vals.ref1 r
  obtain ⟨its, rv, ⟨o, ho, hc, n, hda⟩, hz⟩ := I.tuple hl
  obtain ⟨as, h4, hsm⟩ := hd.reads I rv
  have fit : (PyData.shown (.tuple ds)).length ≤ sizeLine := PyData.shown_fits (B := 13) (by decide) (by decide) (by simpa only [PyData.leavesShort] using hb) (by
    simp only [PyData.weight]
    omega)
  have hz' : (tupleText (PyData.shownAll ds)).length ≤ sizeLine := by simpa only [PyData.shown] using fit
  obtain ⟨bs, hbs, hk⟩ := ReprAllK.of_readsAll (prog := X.prog) (w := X.w) h4 hs hsm (fun t ht => Nat.le_trans (tupleText_mem_le ht) hz')
  have hna : a ∉ bs := not_mem_of_deeper (.tuple ho hc hda h4) (by simp only [PyData.depth]; omega) hbs
  simp only [PyData.shown] at q
  refine call_repr_slot (by omega) ⟨o, ho, hc⟩ F.slot_tuple_repr ?_
  refine call_tuple_reprK ho hc hda hna (by simpa using hk) hg (fun b _ => Clear.nil b) (by show X.A.units + 1 + _ < cLine; omega) (fun _ _ e => e) (fun h' u tk k => ?_) hz'
  exact ⟨_, _, rfl, .str (tupleText (PyData.shownAll ds)), H, I.kept k, ⟨u, rfl⟩, q⟩
/-- repr(xs), xs a short list with longer leaves -/
def rRepr60 (K : Frag) : List V → Hp → VK → Prop := fun xs H Q => ∃ (a : Addr) (vs : List V) (ds : List PyData), xs = [.ref a] ∧ SqL K H a vs ∧ DL K H vs ds ∧ PyData.showableAll ds = true ∧ PyData.leavesShortAll 60 ds = true ∧ PyData.weightAll ds ≤ 1000 ∧ PyData.depthAll ds ≤ 20 ∧
  Q (.str (PyData.shown (.list ds))) H
theorem call_repr60 {X : Cx} (hg : X.A.guards = some []) (hu : X.A.units + 64 < cLine) : CallR X (.builtin "repr") (rRepr60 X.K) := by
  intro pins s σ H xs us Q I r h
  obtain ⟨a, vs, ds, rfl, hl, hd, hs, hb, hw, hp, q⟩ := h
  obtain rfl := Vals.ref1 r
  obtain ⟨its, rv, ⟨o, n, ho, hc, hdn, hda⟩, hz⟩ := I.list hl
  obtain ⟨as, h4, hsm⟩ := hd.reads I rv
  have fit : (PyData.shown (.list ds)).length ≤ sizeLine := by
    have h := PyData.shown_le 60 (by decide) (.list ds) (by simpa only [PyData.leavesShort] using hb)
    have hw2 : (PyData.list ds).weight ≤ 1010 := by
      simp only [PyData.weight]
      omega
    rw [sizeLine_eq]
    omega
  have hz' : (listText (PyData.shownAll ds)).length ≤ sizeLine := by simpa only [PyData.shown] using fit
  obtain ⟨bs, hbs, hk⟩ := ReprAllK.of_readsAll (prog := X.prog) (w := X.w) h4 hs hsm (fun t ht => Nat.le_trans (listText_mem_le ht) hz')
  have hna : a ∉ bs := not_mem_of_deeper (.list ho hc hda h4) (by simp only [PyData.depth]; omega) hbs
  simp only [PyData.shown] at q
  refine call_repr_slot (by omega) ⟨o, ho, hc⟩ F.slot_list_repr.toG ?_
  cases its with
  | nil =>
    cases h4
    simp only [PyData.shownAll, listText_nil] at q
    refine call_list_repr_empty (s := s) ⟨o, ho, hc⟩ ho hda ?_
    exact ⟨_, _, rfl, .str "[]", H, I.tok _, ⟨_, rfl⟩, q⟩
  | cons x l =>
    refine call_list_reprK ho hc hda hna (by simpa using hk.length_eq) (fun i y e => hk.item i y (by simpa using e)) hg (fun b _ => Clear.nil b) (by show X.A.units + 1 + _ < cLine; omega) (fun _ _ e => e) (fun h' u tk k => ?_) hz'
    exact ⟨_, _, rfl, .str (listText (PyData.shownAll ds)), H, I.kept k, ⟨u, rfl⟩, q⟩
/-- len(set(t)), t a tuple of different ints -/
def tLenSetT (K : Frag) (ta : TE) : TE := fun σ H Q => ta σ H fun x H1 => ∃ (l : Addr) (ns : List Int), x = .ref l ∧ SqT K H1 l (ns.map V.int) ∧ ns.Nodup ∧ ns.length ≤ 4000 ∧ Q (.int (ns.length : Nat)) H1
theorem pe_lenSetT {X : Cx} {a : Expr} {ta : TE} {p p2 q pos : Pos} (hg : Gl X "len") (hm : X.mg "len" = none) (hg2 : Gl X "set") (hm2 : X.mg "set" = none) (ha : PE X a ta) (hc : X.calm = true := by rfl)
    (na : starEach [a] X.env = (false, eval a X.env) :: starEach [] X.env := by rfl) : PE X (.Call (.Name "len" p) [.Call (.Name "set" p2) [a] [] q] [] pos) (tLenSetT X.K ta) := by
  refine ⟨fun pins s σ H Q I h => ?_⟩
  refine Call_ (ld_blt I hg hm boot_len ?_)
  refine PyProof.Rows.callWith_builtin1 (PyProof.Rows.args_cons ?_ rfl) rfl rfl
  refine Call_ (ld_blt I hg2 hm2 boot_set ?_)
  refine PyProof.Rows.callWith_type1 (PyProof.Rows.args_cons (thn (ha.run pins s σ H _ I h) fun v s1 ⟨x, H1, I1, r1, q1⟩ => PyProof.Rows.args_nil ?_) na) na rfl
  obtain ⟨l, ns, rfl, hq, hnd, hl, q1⟩ := q1
  cases r1
  obtain ⟨its, r, pt, hz⟩ := I1.tuple hq
  refine call_set_tupI ns (I1.ok.hd hc) (show s1.heap.IsTuple l its.toArray from pt) (by simpa using RZ.intsAre_vals r) (by unfold scanBound; omega) fun h' tk c R1 hcn hk => ?_
  refine PyProof.Rows.args_nil ?_
  obtain ⟨o, es, ep, t, ho, hex, hd, g, nd, hm3, hb, hf, hn, hr, hl2⟩ := R1
  have I2 : Inv X pins σ H1 { s1 with heap := h', toks := tk } := I1.kept fun b o e => hk b o e
  have he : es.size = ns.length := by
    have hp : (es.toList.map keyOf).Perm ns := (List.perm_ext_iff_of_nodup nd hnd).mpr fun j => by rw [← hm3 j, decide_eq_true_eq]
    have := hp.length_eq
    rw [List.length_map, Array.length_toList] at this
    exact this
  exact call_len_set ho hex hd hf (by rw [he] <;> omega) ⟨.int ns.length, H1, I2.tok _, ⟨_, by rw [he]⟩, q1⟩
section
variable {X : Cx} {CX : CXT} {k : Nat} {f C : Addr} {fd : FuncData} {ps ks : List Str} {sp : Sp} {E : XK} {m : Str} {apos pos : Pos} {o : Expr} {kws : List Keyword} {ta : TE} {tk : TA}
/-- o.m(k = v, ..), all by name -/
def tMethKW (C : Addr) (m : Str) (mm : Nat) (sp : Sp) (gV : List V → List V) (E : XK) (ta : TE) (tk : TA) : TE := fun σ H Q => ta σ H fun x H1 => ∃ a dx fs, x = .ref a ∧ H1 a = some (.ins C dx fs) ∧ fs.lookup m = none ∧ tk σ H1 fun zs H2 => zs.length = mm ∧ sp (x :: gV zs) H2 Q E
theorem pe_methKW0 {pl : Sem Bool} {gg : List Value → List Value} {hV : List V → List V} (he : PE X o ta) (c : Cls X.K C) (hm : Meth X.K C m f) (F : FnOk X.prog X.w X.K X.mg X.base CX k f fd ps sp) (hr : Room k X.A)
    (hb : ∀ (s : Shared) (a : Value) (ws : List Value), X.K.In s.heap → ws.length = ks.length → BindsTo s fd ⟨[a], ks.zip ws⟩ (ps.zip (a :: gg ws))) (hrel : ∀ {zs : List V} {ws : List Value}, zs.length = ks.length → Vals zs ws → Vals (hV zs) (gg ws))
    (hx : Passes CX X E) (hkw : PK X kws tk)
    (hall : (backToKw pos (keywordEach kws X.env)).all (·.1.isSome) = true := by rfl) (hks : (backToKw pos (keywordEach kws X.env)).filterMap (·.1) = ks := by rfl)
    (hpl : ((backTo pos (starEach [] X.env)).any (·.1) || (backToKw pos (keywordEach kws X.env)).any (·.1.isNone)) = false := by rfl)
    (ht : eval (.Call (.Attribute o m apos) [] kws pos) X.env = (do
      let ov ← eval o X.env
      standAt apos.atName
      let (f, first) ← holding [ov] (getMethod ov m pl)
      callWith pos f first (backTo pos (starEach [] X.env)) (backToKw pos (keywordEach kws X.env))) := by rfl) :
    PE X (.Call (.Attribute o m apos) [] kws pos) (tMethKW C m ks.length sp hV E ta tk) := by
  refine ⟨fun pins s σ H Q I h => ?_⟩
  refine PySem.W.methodCall_KW (pl := pl) (thn (he.run pins s σ H _ I h) fun u s1 ⟨x, H1, I1, rx, a, dx, fs, ex, ea, l, q⟩ => ?_) ht
  subst ex
  obtain rfl : u = Value.ref a := rx
  refine getmeth_ok I1 ea c hm l ?_
  refine PySem.W.callWith_KW0 (first := [.ref a]) (h₀ := X.base) I.ok.mod.kin hm.kp hall ?_ hpl
  refine thn (hkw.run pos pins s1 σ H1 _ I1 q) fun ws s2 ⟨zs, H2, I2, rz, l2, q2⟩ => ⟨I2.kIn, ?_⟩
  rw [hks]
  have lw : ws.length = ks.length := rz.length.symm.trans l2
  refine wpAny_call (codeAny_mono (F.run X.A X.stack s2 H2 ⟨[.ref a], ks.zip ws⟩ (.ref a :: gg ws) (.ref a :: hV zs) Q E hr I2.env0 (hb s2 _ ws I2.kIn lw) (.cons rfl (hrel l2 rz)) q2) fun r s' hq => ?_)
  cases r with
  | error er => exact hx pins σ H2 s2 er s' I2 hq
  | ok fl =>
    cases fl with
    | ret u => exact I2.after hq
    | next => exact False.elim hq
    | brk => exact False.elim hq
    | cont => exact False.elim hq
end
theorem Fun.kbM {K : PySem.W.Frag} {x qual : Str} {st : Stmt} {f : Addr} {fd : FuncData} {ps ks : List Str} {gg : List Value → List Value} (F : Fun K x qual st f fd)
    (h : ∀ (kV doc pm : Value) (an : Option Addr) (cdv ct : Value) (a : Value) (ws : List Value), ws.length = ks.length → bindArgs (PySem.W.fnOf x qual (defArgs st) (defBody st) (defScope st) .none kV doc pm an cdv ct) ⟨[a], ks.zip ws⟩ = pure (ps.zip (a :: gg ws))) :
    ∀ (s : Shared) (a : Value) (ws : List Value), K.In s.heap → ws.length = ks.length → BindsTo s fd ⟨[a], ks.zip ws⟩ (ps.zip (a :: gg ws)) := by
  obtain ⟨oc, od, kV, doc, pm, an, cdv, ct, osl, rfl, lk, hcd⟩ := F.ex
  exact fun s a ws _ hl => .of_eq (h kV doc pm an cdv ct a ws hl)
end L2.TT

namespace TR
open PySem PySem.Spec PyProof.Rows L2 L2.TT StX ClX
theorem pg_tupK {X : Cx} {K : PySem.W.Frag} {es : List Expr} {k n : Nat} {pos : Pos} {t : TGs} (hK : X.K = K) (hc : X.calm = true) (ht : PGs X es t) (hn : (assignEach es X.env).length = n) (hst : (assignEach es X.env).findIdx? (·.1) = none := by rfl) : PG X (.Tuple es k pos) (gTup K n t) := by
  subst hK
  exact pg_tup hc ht hn hst
theorem pi_tupK {X : Cx} {K : PySem.W.Frag} {tg l : Expr} {tl : TE} (hK : X.K = K) (hl : PE X l tl) : PI X tg l (iTup K tl) := by
  subst hK
  exact pi_tup hl
def spNbr (C : Addr) : Sp := fun vs H Q _ => ∃ (r : Addr) (tr : List E2) (v : Nat), vs = [.ref r, iv v] ∧ RailAt C H r tr ∧ v ≤ tr.length ∧ ∀ t, H t = some (.tup ((nb tr v).map iv)) → Q (.ref t) H
section
variable {P : Program} {w : World} {K : PySem.W.Frag} {mg : Str → Option Value} {base : Heap}
theorem sc_nbr : FnScope ["self", "station"] ["self", "station"] (defScope s_Railway_neighbours) := ⟨rfl, rfl, rfl, by decide +kernel, rfl, by decide +kernel, by decide +kernel⟩
theorem ok_nbr {f fc C : Addr} {fd fdc : FuncData} (F : Fun K "neighbours" "Railway.neighbours" s_Railway_neighbours f fd) (X : TxtR K mg C) (U : Use P w K mg base CX0 4 "check_station" fc fdc ["railway", "station"] (spChkSt C)) : FnOk P w K mg base CX0 5 f fd ["self", "station"] (spNbr C) := by
  refine F.ok sc_nbr (fun vs H Q E h => ?_) (fun cdv A outer s H vs Q E hr h => ?_)
  · obtain ⟨r, tr, v, rfl, _⟩ := h
    rfl
  · obtain ⟨r, tr, v, rfl, R, hv, k⟩ := h
    refine ⟨_, pss_cons (ps_expr (pe_use U hr rfl (pa_cons (pv 0) (pa_cons (pv 1) pa_nil)))) (pss_one (ps_ret (pe_ix ix_list (pe_fld (pv 0) rfl) (pv 1) (fun _ _ => rfl)))), ?_⟩
    obtain ⟨T, few, dx, tt, na, Aa, L, ps, ts, h1, h2, h3, h4, h5, h6, h7, h8⟩ := id R
    obtain ⟨t, ht⟩ : ∃ t, ts[v]? = some t := ⟨_, List.getElem?_eq_getElem (by omega)⟩
    exact ⟨_, rfl, _, rfl, r, tr, v, rfl, R, hv, _, rfl, r, C, dx, _, _, rfl, h1, X.cl, X.nN, flR_n, _, rfl, na, _, _, _, rfl, rfl, SqL.of h4, atN (map_get ht), k t (h6 v t ht)⟩
end
end TR

namespace L2.TT
open PySem PySem.Spec PyProof.Rows PySem.W
/-- the value v stands for d, and its repr is d's text -/
def SK (K : Frag) (H : Hp) (v : V) (d : PyData) : Prop := ∀ (X : Cx) (pins : List (Addr × Obj)) (σ : St) (s : Shared) (u : Value), X.K = K → Inv X pins σ H s → RelV v u →
  ∃ (bs as : List Addr), Reads s.heap u d as ∧ ReadAtMost s.heap d.depth bs ∧ ReprK X.prog X.w bs s.heap d.depth u d.shown
theorem SK.dp {K : Frag} {H : Hp} {v : V} {d : PyData} (h : Dp K H v d) (c : d.canLay0 = true) (hs : d.showable = true) (hz : d.shown.length ≤ sizeLine) : SK K H v d := fun X pins σ s u e I r => by
  subst e
  obtain ⟨as, q⟩ := Dp.reads I d v u h r
  obtain ⟨bs, h1, h2⟩ := ReprK.of_reads (prog := X.prog) (w := X.w) q hs (fun z => by rw [PyData.hasDict_of_canLay d c] at z; exact absurd z Bool.false_ne_true) hz
  exact ⟨bs, as, q, h1, h2⟩
theorem SK.fd {K : Frag} {H : Hp} {v : V} {d : PyData} (h : FD H v d) (hs : d.showable = true) (hz : d.shown.length ≤ sizeLine) : SK K H v d := fun X pins σ s u e I r => by
  subst e
  obtain ⟨as, q, n⟩ := FD.reads I h r
  obtain ⟨bs, h1, h2⟩ := ReprK.of_reads (prog := X.prog) (w := X.w) q hs (fun _ => n) hz
  exact ⟨bs, as, q, h1, h2⟩
theorem readMost_le {h : Heap} {n m : Nat} {bs : List Addr} (r : ReadAtMost h n bs) (l : n ≤ m) : ReadAtMost h m bs := fun b hb => let ⟨d, as, q, z⟩ := r b hb; ⟨d, as, q, Nat.le_trans z l⟩
theorem SK.all {K : Frag} {H : Hp} {X : Cx} {pins : List (Addr × Obj)} {σ : St} {s : Shared} (e : X.K = K) (I : Inv X pins σ H s) : ∀ {vs : List V} {ds : List PyData} {us : List Value}, Paired (SK K H) vs ds → Vals vs us →
    ∃ (bs as : List Addr), ReadsAll s.heap us ds as ∧ ReadAtMost s.heap (PyData.depthAll ds) bs ∧ ReprAllK X.prog X.w bs s.heap (PyData.depthAll ds) us (PyData.shownAll ds)
  | _, _, _, .nil, .nil => ⟨[], [], ReadsAll.nil, (fun _ hb => by cases hb), ReprAllK.nil⟩
  | _, _, _, @Paired.cons _ _ _ _ d _ ds f t, .cons r t2 => by
    obtain ⟨b1, a1, h1, h2, h3⟩ := f X pins σ s _ e I r
    obtain ⟨b2, a2, q1, q2, q3⟩ := SK.all e I t t2
    have l1 : d.depth ≤ PyData.depthAll (d :: ds) := by simp only [PyData.depthAll]; omega
    have l2 : PyData.depthAll ds ≤ PyData.depthAll (d :: ds) := by simp only [PyData.depthAll]; omega
    refine ⟨b1 ++ b2, a1 ++ a2, ReadsAll.cons h1 q1, fun b hb => ?_, ?_⟩
    · rcases List.mem_append.mp hb with hb | hb
      · exact readMost_le h2 l1 b hb
      · exact readMost_le q2 l2 b hb
    · exact ReprAllK.cons ((h3.more fun b hb => List.mem_append_left _ hb).level_le l1) (q3.more_le (fun b hb => List.mem_append_right _ hb) l2)
theorem SK.tup {K : Frag} {H : Hp} {a : Addr} {xs : List V} {ds : List PyData} (hx : SqT K H a xs) (h : Paired (SK K H) xs ds) (hz : (tupleText (PyData.shownAll ds)).length ≤ sizeLine) : SK K H (.ref a) (.tuple ds) := fun X pins σ s u e I r => by
  cases r
  subst e
  obtain ⟨its, rv, ⟨o, ho, hc, n, hda⟩, hl⟩ := I.tuple hx
  obtain ⟨bs, as, h1, h2, h3⟩ := SK.all rfl I h rv
  have R := Reads.tuple ho hc hda h1
  have hd : PyData.depth (.tuple ds) = PyData.depthAll ds + 1 := by simp only [PyData.depth]
  have hna : a ∉ bs := not_mem_of_deeper R (by rw [hd]; exact Nat.lt_succ_self _) h2
  refine ⟨a :: bs, as, R, fun b hb => ?_, ?_⟩
  · rcases List.mem_cons.mp hb with rfl | hb
    · exact ⟨_, _, R, Nat.le_refl _⟩
    · exact readMost_le h2 (by rw [hd]; exact Nat.le_succ _) b hb
  · rw [hd]
    simp only [PyData.shown]
    exact ReprK.tuple ho hc hda hna h3
/-- repr(xs), each item as said -/
def rReprS (K : Frag) : List V → Hp → VK → Prop := fun xs H Q => ∃ (a : Addr) (vs : List V) (ds : List PyData), xs = [.ref a] ∧ SqL K H a vs ∧ Paired (SK K H) vs ds ∧ (listText (PyData.shownAll ds)).length ≤ sizeLine ∧ PyData.depthAll ds ≤ 20 ∧ Q (.str (PyData.shown (.list ds))) H
theorem call_reprS {X : Cx} (hg : X.A.guards = some []) (hu : X.A.units + 64 < cLine) : CallR X (.builtin "repr") (rReprS X.K) := by
  intro pins s σ H xs us Q I r h
  obtain ⟨a, vs, ds, rfl, hl, hd, hz', hp, q⟩ := h
  obtain rfl := Vals.ref1 r
  obtain ⟨its, rv, ⟨o, n, ho, hc, hdn, hda⟩, hz⟩ := I.list hl
  obtain ⟨bs, as, h4, hbs, hk⟩ := SK.all rfl I hd rv
  have hna : a ∉ bs := not_mem_of_deeper (.list ho hc hda h4) (by simp only [PyData.depth]; omega) hbs
  simp only [PyData.shown] at q
  refine call_repr_slot (by omega) ⟨o, ho, hc⟩ F.slot_list_repr.toG ?_
  cases its with
  | nil =>
    cases h4
    simp only [PyData.shownAll, listText_nil] at q
    refine call_list_repr_empty (s := s) ⟨o, ho, hc⟩ ho hda ?_
    exact ⟨_, _, rfl, .str "[]", H, I.tok _, ⟨_, rfl⟩, q⟩
  | cons x l =>
    refine call_list_reprK ho hc hda hna (by simpa using hk.length_eq) (fun i y e => hk.item i y (by simpa using e)) hg (fun b _ => Clear.nil b) (by show X.A.units + 1 + _ < cLine; omega) (fun _ _ e => e) (fun h' u tk k => ?_) hz'
    exact ⟨_, _, rfl, .str (listText (PyData.shownAll ds)), H, I.kept k, ⟨u, rfl⟩, q⟩
end L2.TT

namespace TR
open PySem PySem.Spec PyProof.Rows L2 L2.TT StX ClX
/-- the list [t, t], t a tuple of such ints, may be shown -/
theorem shw_two {l m : List Nat} (h : Shw l) (h2 : Shw m) (hl : l.length ≤ 1000) (hm : m.length ≤ 1000) : PyData.canLayAll0 [.tuple (l.map di), .tuple (m.map di)] = true ∧ PyData.showableAll [.tuple (l.map di), .tuple (m.map di)] = true ∧ PyData.leavesShortAll 13 [.tuple (l.map di), .tuple (m.map di)] = true ∧
    PyData.weightAll [.tuple (l.map di), .tuple (m.map di)] ≤ 1000000 ∧ PyData.depthAll [.tuple (l.map di), .tuple (m.map di)] ≤ 20 := by
  refine ⟨?_, ?_, ?_, ?_, ?_⟩
  · show (PyData.canLayAll0 (l.map di) && (PyData.canLayAll0 (m.map di) && true)) = true
    rw [canLay_ints, canLay_ints]
    rfl
  · show (PyData.showableAll (l.map di) && (PyData.showableAll (m.map di) && true)) = true
    rw [h.sh, h2.sh]
    rfl
  · show (PyData.leavesShortAll 13 (l.map di) && (PyData.leavesShortAll 13 (m.map di) && true)) = true
    rw [h.lv, h2.lv]
    rfl
  · show PyData.weightAll (l.map di) + 1 + (PyData.weightAll (m.map di) + 1 + 0) ≤ 1000000
    have := h.wt
    have := h2.wt
    omega
  · show max (PyData.depthAll (l.map di) + 1) (max (PyData.depthAll (m.map di) + 1) 0) ≤ 20
    rw [h.dp, h2.dp]
    decide
theorem shw_ints {i j : Int} (h1 : -1000 ≤ i) (h2 : i ≤ 1000) (h3 : -1000 ≤ j) (h4 : j ≤ 1000) : PyData.canLayAll0 [.int i, .int j] = true ∧ PyData.showableAll [.int i, .int j] = true ∧ PyData.leavesShortAll 13 [.int i, .int j] = true ∧ PyData.weightAll [.int i, .int j] ≤ 1000000 ∧ PyData.depthAll [.int i, .int j] ≤ 20 := by
  obtain ⟨a1, a2, a3, a4⟩ := int_show h1 h2
  obtain ⟨b1, b2, b3, b4⟩ := int_show h3 h4
  refine ⟨rfl, ?_, ?_, ?_, ?_⟩
  · show (PyData.showable (.int i) && (PyData.showable (.int j) && true)) = true
    rw [a1, b1]
    rfl
  · show (PyData.leavesShort 13 (.int i) && (PyData.leavesShort 13 (.int j) && true)) = true
    rw [a2, b2]
    rfl
  · show PyData.weight (.int i) + 1 + (PyData.weight (.int j) + 1 + 0) ≤ 1000000
    omega
  · show max (PyData.depth (.int i)) (max (PyData.depth (.int j)) 0) ≤ 20
    rw [a4, b4]
    decide
section
variable {P : Program} {w : World} {K : PySem.W.Frag} {mg : Str → Option Value} {base : Heap}
/-- a def that is called by name too -/
structure UseK (P : Program) (w : World) (K : PySem.W.Frag) (mg : Str → Option Value) (base : Heap) (k : Nat) (x : Str) (f : Addr) (fd : FuncData) (ps ks : List Str) (gg : List Value → List Value) (sp : Sp) : Prop extends Use P w K mg base CX0 k x f fd ps sp where
  kb : ∀ (s : Shared) (ws : List Value), K.In s.heap → ws.length = ks.length → BindsTo s fd ⟨[], ks.zip ws⟩ (ps.zip (gg ws))
end
theorem passF {X : Cx} : Passes (CX X.prog X.w) X (fun _ _ _ => False) := fun _ _ _ _ _ _ _ c => by
  obtain ⟨_, _, _, _, _, _, _, _, _, _, _, _, h⟩ := c
  exact h.elim
def rLenK (K : PySem.W.Frag) : List V → Hp → VK → Prop := fun xs H Q => ∃ p ys, xs = [V.ref p] ∧ (SqL K H p ys ∨ SqT K H p ys) ∧ Q (V.int (ys.length : Int)) H
theorem cl_K {X : Cx} {K : PySem.W.Frag} (h : X.K = K) : CallR X (.builtin "len") (rLenK K) := by
  subst h
  exact call_len_seq
def dpr (e : E2) : PyData := .tuple ([e.1, e.2].map di)
theorem dpAll_prs {K : PySem.W.Frag} {H : Hp} : ∀ {ps : List Addr} {l : List E2}, Prs H ps l → DpAll K H (ps.map V.ref) (l.map dpr)
  | [], [], _ => .nil
  | [], _ :: _, h => by cases h.1
  | _ :: _, [], h => by cases h.1
  | p :: ps, e :: l, h => by
    have h0 := h.2 0 p e rfl rfl
    exact .cons (.tup (SqT.of h0) (dpAll_ints [e.1, e.2])) (dpAll_prs ⟨Nat.succ.inj h.1, fun i q d a b => h.2 (i + 1) q d a b⟩)
structure ShwP (l : List E2) : Prop where
  cl : PyData.canLayAll0 (l.map dpr) = true
  sh : PyData.showableAll (l.map dpr) = true
  lv : PyData.leavesShortAll 13 (l.map dpr) = true
  wt : PyData.weightAll (l.map dpr) ≤ 40 * l.length
  dp : PyData.depthAll (l.map dpr) ≤ 1
theorem shwP_of : ∀ {l : List E2}, (∀ e ∈ l, e.1 ≤ 999 ∧ e.2 ≤ 999) → ShwP l
  | [], _ => ⟨rfl, rfl, rfl, Nat.le_refl _, Nat.zero_le _⟩
  | e :: l, h => by
    have ih := shwP_of (l := l) fun z hz => h z (List.mem_cons_of_mem _ hz)
    obtain ⟨h1, h2⟩ := h e (by simp)
    have s := shw_of (l := [e.1, e.2]) fun z hz => by
      simp only [List.mem_cons, List.not_mem_nil, or_false] at hz
      omega
    refine ⟨?_, ?_, ?_, ?_, ?_⟩
    · show (PyData.canLayAll0 ([e.1, e.2].map di) && PyData.canLayAll0 (l.map dpr)) = true
      rw [canLay_ints, ih.cl]
      rfl
    · show (PyData.showableAll ([e.1, e.2].map di) && PyData.showableAll (l.map dpr)) = true
      rw [s.sh, ih.sh]
      rfl
    · show (PyData.leavesShortAll 13 ([e.1, e.2].map di) && PyData.leavesShortAll 13 (l.map dpr)) = true
      rw [s.lv, ih.lv]
      rfl
    · show PyData.weightAll ([e.1, e.2].map di) + 1 + PyData.weightAll (l.map dpr) ≤ 40 * (l.length + 1)
      have := ih.wt
      have := s.wt
      have : [e.1, e.2].length = 2 := rfl
      omega
    · show max (PyData.depthAll ([e.1, e.2].map di) + 1) (PyData.depthAll (l.map dpr)) ≤ 1
      rw [s.dp]
      have := ih.dp
      omega
def rv3 {α : Type} : List α → List α
  | [a, b, c] => [c, b, a]
  | l => l
theorem rv3_vals {zs : List V} {ws : List Value} (hl : zs.length = 3) (r : Vals zs ws) : Vals (rv3 zs) (rv3 ws) := by
  cases r with
  | nil => cases hl
  | cons r1 r =>
    cases r with
    | nil => cases hl
    | cons r2 r =>
      cases r with
      | nil => cases hl
      | cons r3 r =>
        cases r with
        | nil => exact .cons r3 (.cons r2 (.cons r1 .nil))
        | cons r4 r => exact absurd hl (by simp)
theorem SW.take {tr : List E2} {a b x m : Nat} {l : List Nat} (s : SW tr a b l) (h : l[m]? = some x) : SW tr a x (l.take (m + 1)) := by
  have hm := (List.getElem?_eq_some_iff.mp h).1
  refine ⟨wk_pre (r := l.drop (m + 1)) (by rw [List.take_append_drop]; exact s.wk), s.nd.sublist (List.take_sublist _ _), ?_, ?_⟩
  · rw [List.head?_take, if_neg (by omega)]
    exact s.hd
  · rw [List.take_add_one, h]
    simp
theorem SW.drop {tr : List E2} {a b x k : Nat} {l : List Nat} (s : SW tr a b l) (h : l[k]? = some x) : SW tr x b (l.drop k) := by
  have hk := (List.getElem?_eq_some_iff.mp h)
  have e : l.drop k = x :: l.drop (k + 1) := by rw [List.drop_eq_getElem_cons hk.1, hk.2]
  rw [e]
  refine SW.part (l := l.take k) (a := a) ?_
  rw [← e, List.take_append_drop]
  exact s
theorem sw_two {tr : List E2} {a b : Nat} {l : List Nat} (s : SW tr a b l) (h : a ≠ b) : 2 ≤ l.length := by
  match l, s with
  | [], s => cases s.hd
  | [x], s =>
    have e1 : x = a := Option.some.inj s.hd
    have e2 : x = b := Option.some.inj s.lt
    exact absurd (e1.symm.trans e2) h
  | _ :: _ :: _, _ => simp
theorem sw_at0 {tr : List E2} {a b : Nat} {l : List Nat} (s : SW tr a b l) : l[0]? = some a := by
  rw [← List.head?_eq_getElem?]
  exact s.hd
theorem sw_atl {tr : List E2} {a b : Nat} {l : List Nat} (s : SW tr a b l) : l[l.length - 1]? = some b := by
  rw [← List.getLast?_eq_getElem?]
  exact s.lt
theorem sw_ne {tr : List E2} {a b x y i j : Nat} {l : List Nat} (s : SW tr a b l) (h1 : l[i]? = some x) (h2 : l[j]? = some y) (h : i ≠ j) : x ≠ y := by
  rintro rfl
  exact h ((idxOf_get s.nd h1).symm.trans (idxOf_get s.nd h2))
theorem eqvAll_refl_ints (l : List Nat) : PyData.eqv (.tuple (l.map di)) (.tuple (l.map di)) = true := eqvAll_ints l
theorem prs4 {H : Hp} {a b c d : Addr} {e f g h : E2} (h1 : H a = some (.tup [iv e.1, iv e.2])) (h2 : H b = some (.tup [iv f.1, iv f.2])) (h3 : H c = some (.tup [iv g.1, iv g.2])) (h4 : H d = some (.tup [iv h.1, iv h.2])) : Prs H [a, b, c, d] [e, f, g, h] := by
  refine ⟨rfl, fun i p q z1 z2 => ?_⟩
  match i, z1, z2 with
  | 0, z1, z2 => cases z1; cases z2; exact h1
  | 1, z1, z2 => cases z1; cases z2; exact h2
  | 2, z1, z2 => cases z1; cases z2; exact h3
  | 3, z1, z2 => cases z1; cases z2; exact h4
/-- what the value is told of stands locked from here on -/
def tFrz (te : TE) : TE := fun σ H Q => te σ H fun x H1 => ∃ d u, x = .ref d ∧ H1 d = some u ∧ Mut (some u) ∧ ∀ od, Q x (upd H1 d (.frz od u))
theorem pe_frz {X : Cx} {e : Expr} {te : TE} (he : PE X e te) : PE X e (tFrz te) :=
  ⟨fun pins s σ H Q I h => thn (he.run pins s σ H _ I h) fun v s1 ⟨x, H1, I1, r, d, u, ex, hd, mu, q⟩ => by
    obtain ⟨od, I2⟩ := I1.lock hd mu
    exact ⟨x, _, I2, r, q od⟩⟩
theorem valV_mem : ∀ {kvs : List (Key × V)} {k : Key} {v : V}, valV kvs k = some v → ∃ (i : Nat) (k' : Key), kvs[i]? = some (k', v)
  | [], _, _, h => by cases h
  | (k', v') :: kvs, k, v, h => by
    by_cases c : k' = k
    · rw [valV_pos c] at h
      cases h
      exact ⟨0, k', rfl⟩
    · rw [valV_neg c] at h
      obtain ⟨i, k2, e⟩ := valV_mem h
      exact ⟨i + 1, k2, e⟩
theorem isPr_l {x y : V} {n : Int} (h : inR x 0 (n - 1) = false) : isPr (some (x, y)) n = false := by
  show (inR x 0 (n - 1) && inR y 0 (n - 1) && decide (asInt x ≠ asInt y)) = false
  rw [h]
  rfl
theorem isPr_r {x y : V} {n : Int} (h : inR y 0 (n - 1) = false) : isPr (some (x, y)) n = false := by
  show (inR x 0 (n - 1) && inR y 0 (n - 1) && decide (asInt x ≠ asInt y)) = false
  rw [h, Bool.and_false]
  rfl
end TR

namespace TR
/-- a move: whether the head makes it, the station that it goes to -/
abbrev Mv := Bool × Nat
def hd0 (l : List Nat) : Nat := l.headD 0
def lt0 (l : List Nat) : Nat := l.getLastD 0
def endM (l : List Nat) (e : Bool) : Nat := if e then hd0 l else lt0 l
def aft (l : List Nat) (m : Mv) : List Nat := if m.1 then m.2 :: l.dropLast else l.tail ++ [m.2]
def fre (tr : List E2) (l : List Nat) (e : Bool) : List Nat := (nb tr (endM l e)).filter fun w => decide (w ∉ l)
def poss (tr : List E2) (l : List Nat) : List Mv := (fre tr l true).map (fun w => (true, w)) ++ (fre tr l false).map (fun w => (false, w))
def oppM (l : List Nat) (e : Bool) : Mv := if e then (false, lt0 l) else (true, hd0 l)
/-- a move is possible -/
def canM (tr : List E2) (l : List Nat) (m : Mv) : Bool := decide (m.2 ∈ fre tr l m.1)
/-- the body of a standing -/
structure Bd (tr : List E2) (l : List Nat) : Prop where
  sw : SW tr (hd0 l) (lt0 l) l
  two : 2 ≤ l.length
  le : ∀ x ∈ l, x ≤ tr.length
section
variable {tr : List E2}
theorem hd0_of {l : List Nat} {a : Nat} (h : l.head? = some a) : hd0 l = a := by
  cases l with
  | nil => cases h
  | cons x r => exact Option.some.inj h
theorem lt0_of {l : List Nat} {a : Nat} (h : l.getLast? = some a) : lt0 l = a := by
  unfold lt0
  rw [List.getLastD_eq_getLast?, h]
  rfl
theorem sw_bd (T : TreeL tr) {a b : Nat} {l : List Nat} (s : SW tr a b l) (ha : a ≤ tr.length) (ne : a ≠ b) : Bd tr l ∧ hd0 l = a ∧ lt0 l = b := by
  have e1 := hd0_of s.hd
  have e2 := lt0_of s.lt
  refine ⟨⟨by rw [e1, e2]; exact s, sw_two s ne, sw_le T s ha⟩, e1, e2⟩
theorem Bd.hne {l : List Nat} (b : Bd tr l) : l ≠ [] := fun z => by
  have := b.two
  rw [z] at this
  exact absurd this (by decide)
theorem Bd.ne {l : List Nat} (b : Bd tr l) : hd0 l ≠ lt0 l := by
  have h0 := sw_at0 b.sw
  have h1 := sw_atl b.sw
  have := b.two
  exact sw_ne b.sw h0 h1 (by omega)
theorem Bd.hle {l : List Nat} (b : Bd tr l) : hd0 l ≤ tr.length := b.le _ (List.mem_of_getElem? (sw_at0 b.sw))
theorem Bd.lle {l : List Nat} (b : Bd tr l) : lt0 l ≤ tr.length := b.le _ b.sw.mem
theorem hd0_rev {l : List Nat} : hd0 l.reverse = lt0 l := by
  unfold hd0 lt0
  rw [List.headD_eq_head?_getD, List.head?_reverse, List.getLastD_eq_getLast?]
theorem lt0_rev {l : List Nat} : lt0 l.reverse = hd0 l := by
  have := hd0_rev (l := l.reverse)
  rw [List.reverse_reverse] at this
  exact this.symm
theorem Bd.rev {l : List Nat} (b : Bd tr l) : Bd tr l.reverse :=
  ⟨by rw [hd0_rev, lt0_rev]; exact b.sw.rev, by rw [List.length_reverse]; exact b.two, fun x hx => b.le x (List.mem_reverse.mp hx)⟩
theorem Bd.eq (T : TreeL tr) {l m : List Nat} (b : Bd tr l) (c : Bd tr m) (h1 : hd0 l = hd0 m) (h2 : lt0 l = lt0 m) : l = m := by
  have s := c.sw
  rw [← h1, ← h2] at s
  exact SW.uniq T b.sw s
theorem mem_fre (T : TreeL tr) {l : List Nat} {e : Bool} {w : Nat} : w ∈ fre tr l e ↔ Adj tr (endM l e) w ∧ w ∉ l := by
  unfold fre
  rw [List.mem_filter, mem_nb T.ne, decide_eq_true_iff]
theorem mem_poss {l : List Nat} {m : Mv} : m ∈ poss tr l ↔ m.2 ∈ fre tr l m.1 := by
  obtain ⟨e, w⟩ := m
  unfold poss
  rw [List.mem_append, List.mem_map, List.mem_map]
  constructor
  · rintro (⟨x, hx, h⟩ | ⟨x, hx, h⟩)
    · cases h; exact hx
    · cases h; exact hx
  · intro h
    cases e with
    | true => exact .inl ⟨w, h, rfl⟩
    | false => exact .inr ⟨w, h, rfl⟩
/-- a body is a list with both ends -/
theorem bd_cons {l : List Nat} (h : 2 ≤ l.length) : ∃ a r, l = a :: r ∧ r ≠ [] := by
  match l, h with
  | a :: b :: r, _ => exact ⟨a, b :: r, rfl, by simp⟩
theorem bd_snoc {l : List Nat} (h : 2 ≤ l.length) : ∃ r b, l = r ++ [b] ∧ r ≠ [] := by
  have hne : l ≠ [] := fun z => by rw [z] at h; exact absurd h (by decide)
  refine ⟨l.dropLast, l.getLast hne, (List.dropLast_concat_getLast hne).symm, fun z => ?_⟩
  have := congrArg List.length z
  rw [List.length_dropLast, List.length_nil] at this
  omega
theorem lt0_snoc {r : List Nat} {b : Nat} : lt0 (r ++ [b]) = b := lt0_of (by simp)
theorem wk_init {r : List Nat} {b : Nat} (h : Wk tr (r ++ [b])) : Wk tr r := by
  have h2 := h.rev
  rw [List.reverse_append] at h2
  have h3 := (Wk.tail (l := r.reverse) h2).rev
  rw [List.reverse_reverse] at h3
  exact h3
theorem Bd.aft_head (T : TreeL tr) {l : List Nat} (b : Bd tr l) {w : Nat} (h : w ∈ fre tr l true) : Bd tr (w :: l.dropLast) ∧ hd0 (w :: l.dropLast) = w ∧ (w :: l.dropLast).length = l.length := by
  obtain ⟨ha, hn⟩ := (mem_fre T).mp h
  obtain ⟨r, z, e, hr⟩ := bd_snoc b.two
  have hd : (w :: l.dropLast).length = l.length := by
    rw [List.length_cons, List.length_dropLast]
    have := b.two
    omega
  subst e
  rw [List.dropLast_concat] at hd ⊢
  have ha : Adj tr (hd0 (r ++ [z])) w := ha
  obtain ⟨x, r', rfl⟩ := List.exists_cons_of_ne_nil hr
  have hx : hd0 (x :: r' ++ [z]) = x := rfl
  rw [hx] at ha
  have wk := wk_init b.sw.wk
  have nd := (List.nodup_append.mp b.sw.nd).1
  have hl : ((w :: x :: r').getLast?) = some (lt0 (w :: x :: r')) := by
    unfold lt0
    rw [List.getLastD_eq_getLast?]
    cases hh : (w :: x :: r').getLast? with
    | none => simp at hh
    | some z => rfl
  refine ⟨⟨⟨⟨ha.sym, wk⟩, List.nodup_cons.mpr ⟨fun m => hn (List.mem_append_left _ m), nd⟩, rfl, hl⟩, by rw [hd]; exact b.two, fun y hy => ?_⟩, rfl, hd⟩
  rcases List.mem_cons.mp hy with rfl | hy
  · exact (T.adj_le ha).2
  · exact b.le y (List.mem_append_left _ hy)
theorem Bd.aft_tail (T : TreeL tr) {l : List Nat} (b : Bd tr l) {w : Nat} (h : w ∈ fre tr l false) : Bd tr (l.tail ++ [w]) ∧ lt0 (l.tail ++ [w]) = w ∧ (l.tail ++ [w]).length = l.length := by
  obtain ⟨ha, hn⟩ := (mem_fre T).mp h
  have h2 : w ∈ fre tr l.reverse true := by
    refine (mem_fre T).mpr ⟨?_, fun m => hn (List.mem_reverse.mp m)⟩
    show Adj tr (hd0 l.reverse) w
    rw [hd0_rev]
    exact ha
  obtain ⟨c, _, hl⟩ := b.rev.aft_head T h2
  have e : (w :: l.reverse.dropLast).reverse = l.tail ++ [w] := by
    rw [List.reverse_cons]
    congr 1
    rw [← List.tail_reverse, List.reverse_reverse]
  refine ⟨e ▸ c.rev, lt0_snoc, ?_⟩
  rw [← e, List.length_reverse, hl, List.length_reverse]
theorem Bd.aft (T : TreeL tr) {l : List Nat} (b : Bd tr l) {m : Mv} (h : canM tr l m = true) : Bd tr (aft l m) ∧ (aft l m).length = l.length := by
  obtain ⟨e, w⟩ := m
  have h := of_decide_eq_true h
  cases e with
  | true => exact ⟨(b.aft_head T h).1, (b.aft_head T h).2.2⟩
  | false => exact ⟨(b.aft_tail T h).1, (b.aft_tail T h).2.2⟩
theorem Bd.aft_ends {l : List Nat} (b : Bd tr l) {m : Mv} : endM (TR.aft l m) m.1 = m.2 := by
  obtain ⟨e, w⟩ := m
  cases e with
  | true => rfl
  | false => exact lt0_snoc
/-- the opposite move is possible behind a move and takes it back -/
theorem Bd.back (T : TreeL tr) {l : List Nat} (b : Bd tr l) {m : Mv} (h : canM tr l m = true) : canM tr (TR.aft l m) (oppM l m.1) = true ∧ TR.aft (TR.aft l m) (oppM l m.1) = l := by
  have key : ∀ {l : List Nat} (b : Bd tr l) {w : Nat}, w ∈ fre tr l true → lt0 l ∈ fre tr (w :: l.dropLast) false ∧ l.dropLast ++ [lt0 l] = l := by
    intro l b w h
    obtain ⟨c, _, _⟩ := b.aft_head T h
    obtain ⟨ha, hn⟩ := (mem_fre T).mp h
    obtain ⟨r, z, e, hr⟩ := bd_snoc b.two
    subst e
    rw [List.dropLast_concat] at c ⊢
    rw [lt0_snoc]
    refine ⟨(mem_fre T).mpr ⟨?_, fun m => ?_⟩, rfl⟩
    · obtain ⟨r', y, rfl⟩ : ∃ r' y, r = r' ++ [y] := ⟨r.dropLast, r.getLast hr, (List.dropLast_concat_getLast hr).symm⟩
      show Adj tr (lt0 (w :: (r' ++ [y]))) z
      have e2 : lt0 (w :: (r' ++ [y])) = y := lt0_of (by rw [← List.cons_append, List.getLast?_append]; rfl)
      rw [e2]
      have wk := b.sw.wk.rev
      rw [List.reverse_append, List.reverse_append] at wk
      exact wk.1.sym
    · rcases List.mem_cons.mp m with rfl | m
      · exact hn (by simp)
      · have nd := List.nodup_append.mp b.sw.nd
        exact nd.2.2 z m z (by simp) rfl
  obtain ⟨e, w⟩ := m
  have h := of_decide_eq_true h
  cases e with
  | true =>
    obtain ⟨k1, k2⟩ := key b h
    exact ⟨decide_eq_true k1, k2⟩
  | false =>
    obtain ⟨ha, hn⟩ := (mem_fre T).mp h
    have h2 : w ∈ fre tr l.reverse true := by
      refine (mem_fre T).mpr ⟨?_, fun m => hn (List.mem_reverse.mp m)⟩
      show Adj tr (hd0 l.reverse) w
      rw [hd0_rev]
      exact ha
    obtain ⟨k1, k2⟩ := key b.rev h2
    have e1 : (w :: l.reverse.dropLast).reverse = l.tail ++ [w] := by
      rw [List.reverse_cons]
      congr 1
      rw [← List.tail_reverse, List.reverse_reverse]
    refine ⟨decide_eq_true ?_, ?_⟩
    · show hd0 l ∈ fre tr (l.tail ++ [w]) true
      obtain ⟨k3, k4⟩ := (mem_fre T).mp k1
      rw [lt0_rev] at k3 k4
      refine (mem_fre T).mpr ⟨?_, fun m => k4 ?_⟩
      · show Adj tr (hd0 (l.tail ++ [w])) (hd0 l)
        rw [← e1, hd0_rev]
        exact k3
      · rw [← e1] at m
        exact List.mem_reverse.mp m
    · show hd0 l :: (l.tail ++ [w]).dropLast = l
      rw [List.dropLast_concat]
      obtain ⟨a, r, rfl, _⟩ := bd_cons b.two
      rfl
/-- a neighbour of an end is on the body just where it is the next one -/
theorem Bd.next_head (T : TreeL tr) {l : List Nat} (b : Bd tr l) {w x : Nat} (hx : l[1]? = some x) (h : Adj tr (hd0 l) w) : (w ∉ l) ↔ w ≠ x := by
  constructor
  · rintro hn rfl
    exact hn (List.mem_of_getElem? hx)
  · intro hne m
    obtain ⟨p, r, e⟩ := List.append_of_mem m
    have s1 := b.sw
    rw [e] at s1
    have s2 := s1.pre
    have hw : hd0 l ≠ w := fun z => by
      rw [z] at h
      rcases h with h | h
      · exact T.ne _ h rfl
      · exact T.ne _ h rfl
    have s3 : SW tr (hd0 l) w [hd0 l, w] := ⟨⟨h, trivial⟩, by simp; exact hw, rfl, rfl⟩
    rw [e] at s3
    have e2 := SW.uniq T s2 s3
    have e3 : p ++ [w] = [hd0 (p ++ w :: r)] ++ [w] := e2
    have e4 := List.append_cancel_right e3
    have : l[1]? = some w := by
      rw [e]
      generalize hd0 (p ++ w :: r) = q at e4
      rw [e4]
      rfl
    rw [this] at hx
    exact hne (Option.some.inj hx)
theorem fre_head (T : TreeL tr) {l : List Nat} (b : Bd tr l) {x : Nat} (hx : l[1]? = some x) : fre tr l true = (nb tr (hd0 l)).filter fun w => decide (w ≠ x) := by
  unfold fre
  refine List.filter_congr fun w hw => ?_
  have := b.next_head T hx ((mem_nb T.ne).mp hw)
  exact decide_eq_decide.mpr this
theorem fre_tail (T : TreeL tr) {l : List Nat} (b : Bd tr l) {x : Nat} (hx : l[l.length - 2]? = some x) : fre tr l false = (nb tr (lt0 l)).filter fun w => decide (w ≠ x) := by
  have hx2 : l.reverse[1]? = some x := by
    rw [List.getElem?_reverse (by have := b.two; omega)]
    exact hx
  have q := fre_head T b.rev hx2
  rw [hd0_rev] at q
  rw [← q]
  unfold fre endM
  simp only [if_true, Bool.false_eq_true, if_false, hd0_rev, List.mem_reverse]
/-- the moves made one after the other: the bodies, or the index of the first one that is not possible -/
def runM (tr : List E2) : List Nat → List Mv → List (List Nat)
  | l, [] => [l]
  | l, m :: ms => l :: runM tr (aft l m) ms
/-- all moves are possible -/
def okM (tr : List E2) : List Nat → List Mv → Bool
  | _, [] => true
  | l, m :: ms => canM tr l m && okM tr (aft l m) ms
def endB : List Nat → List Mv → List Nat
  | l, [] => l
  | l, m :: ms => endB (aft l m) ms
theorem endB_app : ∀ (ms ns : List Mv) (l : List Nat), endB l (ms ++ ns) = endB (endB l ms) ns
  | [], _, _ => rfl
  | m :: ms, ns, l => endB_app ms ns (aft l m)
theorem okM_app : ∀ (ms ns : List Mv) (l : List Nat), okM tr l (ms ++ ns) = (okM tr l ms && okM tr (endB l ms) ns)
  | [], _, _ => by rw [okM]; rfl
  | m :: ms, ns, l => by
    show (canM tr l m && okM tr (aft l m) (ms ++ ns)) = (canM tr l m && okM tr (aft l m) ms && okM tr (endB (aft l m) ms) ns)
    rw [okM_app ms ns (aft l m), Bool.and_assoc]
theorem bodyAt_take (l : List Nat) (ms : List Mv) (i : Nat) (hi : i ≤ ms.length) : (runM tr l ms)[i]? = some (endB l (ms.take i)) := by
  induction ms generalizing l i with
  | nil =>
    have : i = 0 := by simpa using hi
    subst this
    rfl
  | cons m ms ih =>
    cases i with
    | zero => rfl
    | succ i => exact ih (aft l m) i (by simpa using hi)
theorem runM_len : ∀ (l : List Nat) (ms : List Mv), (runM tr l ms).length = ms.length + 1
  | _, [] => rfl
  | l, m :: ms => by
    show (runM tr (aft l m) ms).length + 1 = _
    rw [runM_len]
    rfl
theorem runM_snoc : ∀ (l : List Nat) (ms : List Mv) (m : Mv), runM tr l (ms ++ [m]) = runM tr l ms ++ [aft (endB l ms) m]
  | _, [], _ => rfl
  | l, n :: ms, m => by
    show l :: runM tr (aft l n) (ms ++ [m]) = _
    rw [runM_snoc]
    rfl
theorem Bd.run (T : TreeL tr) : ∀ (ms : List Mv) {l : List Nat}, Bd tr l → okM tr l ms = true → Bd tr (endB l ms) ∧ (endB l ms).length = l.length
  | [], _, b, _ => ⟨b, rfl⟩
  | m :: ms, l, b, h => by
    have h : (canM tr l m && okM tr (TR.aft l m) ms) = true := h
    rw [Bool.and_eq_true] at h
    obtain ⟨c, e⟩ := b.aft T h.1
    obtain ⟨d, e2⟩ := Bd.run T ms c h.2
    exact ⟨d, e2.trans e⟩
/-- the opposite moves, in the order of the moves -/
def oppL : List Nat → List Mv → List Mv
  | _, [] => []
  | l, m :: ms => oppM l m.1 :: oppL (aft l m) ms
theorem oppL_snoc : ∀ (l : List Nat) (ms : List Mv) (m : Mv), oppL l (ms ++ [m]) = oppL l ms ++ [oppM (endB l ms) m.1]
  | _, [], _ => rfl
  | l, n :: ms, m => by
    show oppM l n.1 :: oppL (aft l n) (ms ++ [m]) = _
    rw [oppL_snoc]
    rfl
theorem oppL_len : ∀ (l : List Nat) (ms : List Mv), (oppL l ms).length = ms.length
  | _, [] => rfl
  | l, m :: ms => by
    show (oppL (aft l m) ms).length + 1 = _
    rw [oppL_len]
    rfl
/-- the opposite moves, the last one first, lead back -/
theorem Bd.takes_back (T : TreeL tr) : ∀ (ms : List Mv) {l : List Nat}, Bd tr l → okM tr l ms = true → okM tr (endB l ms) (oppL l ms).reverse = true ∧ endB (endB l ms) (oppL l ms).reverse = l
  | [], _, _, _ => ⟨rfl, rfl⟩
  | m :: ms, l, b, h => by
    have h : (canM tr l m && okM tr (TR.aft l m) ms) = true := h
    rw [Bool.and_eq_true] at h
    obtain ⟨c, _⟩ := b.aft T h.1
    obtain ⟨k1, k2⟩ := Bd.takes_back T ms c h.2
    obtain ⟨q1, q2⟩ := b.back T h.1
    show okM tr (endB (TR.aft l m) ms) (oppM l m.1 :: oppL (TR.aft l m) ms).reverse = true ∧ endB (endB (TR.aft l m) ms) (oppM l m.1 :: oppL (TR.aft l m) ms).reverse = l
    rw [List.reverse_cons, okM_app, endB_app, k2, k1]
    refine ⟨?_, q2⟩
    show (true && (canM tr (TR.aft l m) (oppM l m.1) && true)) = true
    rw [q1]
    rfl
end
end TR

namespace TR
/-! The layers from a station reach all; the last one is the farthest. Lines and stars. -/
section
variable {tr : List E2}
theorem sw_lyr (T : TreeL tr) {s : Nat} : ∀ (k v : Nat) (l : List Nat), SW tr s v l → l.length = k + 1 → ∃ b, (v, b) ∈ lyr tr s none k
  | 0, v, l, w, hl => by
    obtain ⟨x, rfl⟩ := List.length_eq_one_iff.mp hl
    have e1 : x = s := Option.some.inj w.hd
    have e2 : x = v := Option.some.inj w.lt
    exact ⟨none, by rw [← e2, e1]; simp [lyr]⟩
  | k + 1, v, l, w, hl => by
    obtain ⟨l', rfl⟩ : ∃ l', l = l' ++ [v] := List.getLast?_eq_some_iff.mp w.lt
    rw [List.length_append, List.length_singleton] at hl
    have hne : l' ≠ [] := by
      rintro rfl
      simp at hl
    obtain ⟨x, w2, ha, hn⟩ := w.cut hne
    obtain ⟨b, hb⟩ := sw_lyr T k x l' w2 (by omega)
    obtain ⟨l2, w3, h3, h4⟩ := lyr_sw T k (x, b) hb
    have el : l2 = l' := SW.uniq T w3 w2
    subst el
    refine ⟨some x, ?_⟩
    show _ ∈ (lyr tr s none k).flatMap (nxt tr)
    rw [List.mem_flatMap]
    refine ⟨(x, b), hb, (mem_nxt T).mpr ⟨ha, ?_, rfl⟩⟩
    show some v ≠ b
    intro z
    obtain ⟨p, hp⟩ : ∃ p, l2 = p ++ [x] := List.getLast?_eq_some_iff.mp w2.lt
    by_cases c : p = []
    · subst c
      rw [hp] at h3
      have hk : k = 0 := by simp at h3; omega
      subst hk
      have e : (x, b) = (s, none) := by simpa [lyr] using hb
      have := congrArg Prod.snd e
      rw [← z] at this
      cases this
    · have q := h4 p hp c
      have q : p.getLast? = b := q
      rw [← z] at q
      refine hn ?_
      rw [hp]
      exact List.mem_append_left _ (List.mem_of_getLast? q)
theorem lyr_nil {s : Nat} {b : Option Nat} {m : Nat} (h : lyr tr s b m = []) : ∀ j, lyr tr s b (m + j) = []
  | 0 => h
  | j + 1 => by
    show (lyr tr s b (m + j)).flatMap (nxt tr) = []
    rw [lyr_nil h j]
    rfl
/-- e is at the end of a longest walk from s -/
def FarE (tr : List E2) (s e m : Nat) : Prop := (∃ l, SW tr s e l ∧ l.length = m) ∧ ∀ v l, SW tr s v l → l.length ≤ m
theorem far_last (T : TreeL tr) {s m : Nat} (h0 : lyr tr s none m = []) {e : Nat} {b : Option Nat} (he : (e, b) ∈ lyr tr s none (m - 1)) (hm : 0 < m) : FarE tr s e m := by
  obtain ⟨l, w, hl, _⟩ := lyr_sw T (m - 1) (e, b) he
  refine ⟨⟨l, w, by omega⟩, fun v l2 w2 => ?_⟩
  apply Classical.byContradiction
  intro c
  obtain ⟨b2, hb2⟩ := sw_lyr T (l2.length - 1) v l2 w2 (by omega)
  have := lyr_nil h0 (l2.length - 1 - m)
  rw [show m + (l2.length - 1 - m) = l2.length - 1 by omega] at this
  rw [this] at hb2
  cases hb2
theorem sw_len (T : TreeL tr) {a b : Nat} {l : List Nat} (w : SW tr a b l) (ha : a ≤ tr.length) : l.length ≤ tr.length + 1 := nd_len w.nd (sw_le T w ha)
end
abbrev lineT (n : Nat) : List E2 := (List.range n).map fun i => (i, i + 1)
abbrev starT (n : Nat) : List E2 := (List.range n).map fun i => (0, i + 1)
theorem adj_line {n a : Nat} (h : a < n) : Adj (lineT n) a (a + 1) := .inl (List.mem_map.mpr ⟨a, List.mem_range.mpr h, rfl⟩)
theorem adj_star {n a b : Nat} : Adj (starT n) a b ↔ (a = 0 ∧ 0 < b ∧ b ≤ n) ∨ (b = 0 ∧ 0 < a ∧ a ≤ n) := by
  have one : ∀ {a b : Nat}, (a, b) ∈ starT n ↔ a = 0 ∧ 0 < b ∧ b ≤ n := fun {a b} => by
    rw [List.mem_map]
    constructor
    · rintro ⟨i, hi, q⟩
      have := List.mem_range.mp hi
      cases q
      omega
    · rintro ⟨rfl, h1, h2⟩
      exact ⟨b - 1, List.mem_range.mpr (by omega), by rw [show b - 1 + 1 = b by omega]⟩
  unfold Adj
  rw [one, one]
theorem line_sw (n : Nat) : ∀ k, k ≤ n → SW (lineT n) 0 k (List.range (k + 1))
  | 0, _ => SW.one 0
  | k + 1, h => by
    have := (line_sw n k (by omega)).snoc (c := k + 1) (adj_line (by omega)) (by rw [List.mem_range]; omega)
    rw [← List.range_succ] at this
    exact this
theorem line_far (T : TreeL (lineT n)) {e0 e1 m0 m1 : Nat} (h0 : FarE (lineT n) 0 e0 m0) (h1 : FarE (lineT n) e0 e1 m1) : m1 = n + 1 := by
  have hl : (lineT n).length = n := by simp
  obtain ⟨⟨l0, w0, q0⟩, f0⟩ := h0
  obtain ⟨⟨l1, w1, q1⟩, f1⟩ := h1
  have a := f0 n _ (line_sw n n (Nat.le_refl _))
  rw [List.length_range] at a
  have b := sw_len T w0 (Nat.zero_le _)
  have c := f1 0 _ w0.rev
  rw [List.length_reverse] at c
  have le := sw_le T w0 (Nat.zero_le _) e0 w0.mem
  have d := sw_len T w1 le
  omega
theorem star_len {n a b : Nat} {l : List Nat} (w : SW (starT n) a b l) : l.length ≤ 3 := by
  match l, w.wk, w.nd with
  | [], _, _ => simp
  | [_], _, _ => simp
  | [_, _], _, _ => simp
  | [_, _, _], _, _ => simp
  | p :: q :: r :: s :: t, hw, nd =>
    exfalso
    have h1 := adj_star.mp hw.1
    have h2 := adj_star.mp hw.2.2.1
    have nd := List.nodup_iff_pairwise_ne.mp nd
    rw [List.pairwise_cons] at nd
    have n1 := nd.1
    have nd2 := nd.2
    rw [List.pairwise_cons] at nd2
    have n2 := nd2.1
    have a1 := n1 r (by simp)
    have a2 := n1 s (by simp)
    have a3 := n2 r (by simp)
    have a4 := n2 s (by simp)
    omega
theorem star_far (T : TreeL (starT n)) {e0 e1 m0 m1 : Nat} (h0 : FarE (starT n) 0 e0 m0) (h1 : FarE (starT n) e0 e1 m1) : m1 = min 2 n + 1 := by
  have hl : (starT n).length = n := by simp
  obtain ⟨⟨l0, w0, q0⟩, f0⟩ := h0
  obtain ⟨⟨l1, w1, q1⟩, f1⟩ := h1
  have le := sw_le T w0 (Nat.zero_le _) e0 w0.mem
  have d := sw_len T w1 le
  have up := star_len w1
  rw [hl] at le d
  have p0 := f1 e0 _ (SW.one e0)
  have p0 : 1 ≤ m1 := p0
  by_cases c0 : n = 0
  · subst c0
    omega
  have s01 : SW (starT n) 0 1 ([0] ++ [1]) := (SW.one 0).snoc (adj_star.mpr (.inl ⟨rfl, by omega, by omega⟩)) (by simp)
  have g0 := f0 1 _ s01
  have g0 : 2 ≤ m0 := g0
  have ne0 : e0 ≠ 0 := by
    rintro rfl
    have := SW.uniq T w0 (SW.one 0)
    rw [this] at q0
    simp at q0
    omega
  have sb : SW (starT n) e0 0 ([e0] ++ [0]) := (SW.one e0).snoc (adj_star.mpr (.inr ⟨rfl, by omega, le⟩)) (by simp; omega)
  have g1 := f1 0 _ sb
  have g1 : 2 ≤ m1 := g1
  by_cases c1 : n = 1
  · omega
  obtain ⟨v, hv1, hv2, hv3⟩ : ∃ v, 0 < v ∧ v ≤ n ∧ v ≠ e0 := by
    by_cases c : e0 = 1
    · exact ⟨2, by omega, by omega, by omega⟩
    · exact ⟨1, by omega, by omega, fun z => c z.symm⟩
  have sc : SW (starT n) e0 v ([e0] ++ [0] ++ [v]) := sb.snoc (adj_star.mpr (.inl ⟨rfl, hv1, hv2⟩)) (by simp; omega)
  have g2 := f1 v _ sc
  have g2 : 3 ≤ m1 := g2
  omega
theorem star_nb0 (n : Nat) : nb (starT n) 0 = List.range' 1 n := by
  have row : rowOf (starT n) 0 = List.range' 1 n := by
    unfold rowOf
    rw [List.flatMap_map]
    have h : (fun i : Nat => bit 0 ((0 : Nat), i + 1)) = fun i => [i + 1] := by
      funext i
      unfold bit
      rw [if_pos rfl]
    show (List.range n).flatMap (fun i : Nat => bit 0 ((0 : Nat), i + 1)) = _
    rw [h, ← List.map_eq_flatMap, List.range'_eq_map_range]
    exact List.map_congr_left fun i _ => Nat.add_comm i 1
  unfold nb
  rw [row]
  refine List.Perm.eq_of_pairwise (le := (· ≤ ·)) (fun a b _ _ h1 h2 => Nat.le_antisymm h1 h2) (srt_le _) ?_ (srt_perm _)
  exact (List.pairwise_lt_range' (s := 1) (n := n)).imp fun {a b} h => Nat.le_of_lt h
end TR

namespace TR
section
variable {tr : List E2}
theorem lyr_step : ∀ (k s : Nat) (b : Option Nat), lyr tr s b (k + 1) = (nxt tr (s, b)).flatMap fun x => lyr tr x.1 x.2 k
  | 0, s, b => by
    show ([(s, b)] : List (Nat × Option Nat)).flatMap (nxt tr) = (nxt tr (s, b)).flatMap fun x => [(x.1, x.2)]
    simp
  | k + 1, s, b => by
    show (lyr tr s b (k + 1)).flatMap (nxt tr) = _
    rw [lyr_step k s b, List.flatMap_assoc]
    rfl
/-- the number of layers of a branch -/
noncomputable def ht (tr : List E2) (s : Nat) (b : Option Nat) : Nat := open Classical in if h : ∃ k, lyr tr s b k = [] then (h.elim fun k hk => ex_min (P := fun k => lyr tr s b k = []) k hk).choose else 0
theorem ht_spec {s : Nat} {b : Option Nat} (h : ∃ k, lyr tr s b k = []) : lyr tr s b (ht tr s b) = [] ∧ ∀ j, j < ht tr s b → lyr tr s b j ≠ [] := by
  unfold ht
  rw [dif_pos h]
  exact (h.elim fun k hk => ex_min (P := fun k => lyr tr s b k = []) k hk).choose_spec
theorem lyr_end (T : TreeL tr) {s : Nat} {b : Option Nat} (hs : s ≤ tr.length) : lyr tr s b (tr.length + 1) = [] := by
  refine Classical.byContradiction fun h => ?_
  obtain ⟨x, hx⟩ := List.exists_mem_of_ne_nil _ h
  obtain ⟨l, w, e, _⟩ := lyr_sw T _ x hx
  have := sw_len T w hs
  omega
theorem ht_of (T : TreeL tr) {s : Nat} {b : Option Nat} (hs : s ≤ tr.length) : lyr tr s b (ht tr s b) = [] ∧ ∀ j, j < ht tr s b → lyr tr s b j ≠ [] := ht_spec ⟨_, lyr_end T hs⟩
theorem ht_eq {s : Nat} {b : Option Nat} {m : Nat} (h : lyr tr s b m = []) (k : ∀ j, j < m → lyr tr s b j ≠ []) : ht tr s b = m := by
  obtain ⟨h1, h2⟩ := ht_spec ⟨m, h⟩
  rcases Nat.lt_trichotomy (ht tr s b) m with c | c | c
  · exact absurd h1 (k _ c)
  · exact c
  · exact absurd h (h2 _ c)
theorem ht_pos (T : TreeL tr) {s : Nat} {b : Option Nat} (hs : s ≤ tr.length) : 1 ≤ ht tr s b := by
  obtain ⟨h1, _⟩ := ht_of T (b := b) hs
  refine Nat.pos_of_ne_zero fun z => ?_
  rw [z] at h1
  exact absurd h1 (by simp [lyr])
theorem ht_le (T : TreeL tr) {s : Nat} {b : Option Nat} (hs : s ≤ tr.length) : ht tr s b ≤ tr.length + 1 := by
  refine Nat.le_of_not_lt fun z => ?_
  exact (ht_of T (b := b) hs).2 _ z (lyr_end T hs)
theorem ht_lt (T : TreeL tr) {s : Nat} {b : Option Nat} (hs : s ≤ tr.length) {m : Nat} (h : lyr tr s b m ≠ []) : m < ht tr s b := by
  refine Nat.lt_of_not_le fun z => h ?_
  have := lyr_nil (ht_of T (b := b) hs).1 (m - ht tr s b)
  rwa [show ht tr s b + (m - ht tr s b) = m by omega] at this
/-- the depth of a branch -/
noncomputable def dph (tr : List E2) (s b : Nat) : Nat := ht tr s (some b) - 1
theorem dph_le (T : TreeL tr) {s b : Nat} (hs : s ≤ tr.length) : dph tr s b ≤ tr.length := by
  have := ht_le T (b := some b) hs
  unfold dph
  omega
theorem dph_eq {s b m : Nat} (h : lyr tr s (some b) (m + 1) = []) (k : ∀ j, j < m + 1 → lyr tr s (some b) j ≠ []) : dph tr s b = m := by
  unfold dph
  rw [ht_eq h k]
  rfl
theorem dph_child (T : TreeL tr) {s b w : Nat} (hs : s ≤ tr.length) (h : w ∈ nb tr s) (ne : w ≠ b) : dph tr w s + 1 ≤ dph tr s b := by
  have ha := (mem_nb T.ne).mp h
  have hw := (T.adj_le ha).2
  have p := ht_pos T (b := some s) hw
  have nn := (ht_of T (b := some s) hw).2 (ht tr w (some s) - 1) (by omega)
  have : lyr tr s (some b) (ht tr w (some s) - 1 + 1) ≠ [] := fun z => by
    rw [lyr_step, List.flatMap_eq_nil_iff] at z
    exact nn (z (w, some s) ((mem_nxt T).mpr ⟨ha, (fun q => ne (Option.some.inj q)), rfl⟩))
  have := ht_lt T hs this
  unfold dph
  omega
theorem dph_ex (T : TreeL tr) {s b : Nat} (hs : s ≤ tr.length) : dph tr s b = 0 ∨ ∃ w, w ∈ nb tr s ∧ w ≠ b ∧ dph tr s b = dph tr w s + 1 := by
  by_cases c : dph tr s b = 0
  · exact .inl c
  · right
    have c2 : 2 ≤ ht tr s (some b) := by unfold dph at c; omega
    have nn := (ht_of T (b := some b) hs).2 (ht tr s (some b) - 2 + 1) (by omega)
    rw [lyr_step] at nn
    have : ∃ x ∈ nxt tr (s, some b), lyr tr x.1 x.2 (ht tr s (some b) - 2) ≠ [] := Classical.byContradiction fun z => nn (List.flatMap_eq_nil_iff.mpr fun x hx => Classical.byContradiction fun q => z ⟨x, hx, q⟩)
    obtain ⟨⟨w, e⟩, hx, hn⟩ := this
    obtain ⟨h1, h2, h3⟩ := (mem_nxt T).mp hx
    have h3 : e = some s := h3
    subst h3
    have h2 : w ≠ b := fun q => h2 (by rw [q])
    have h1 : Adj tr s w := h1
    have hw : w ≤ tr.length := (T.adj_le h1).2
    have hn : lyr tr w (some s) (ht tr s (some b) - 2) ≠ [] := hn
    have l1 := ht_lt T (b := some s) hw hn
    have hm : w ∈ nb tr s := (mem_nb T.ne).mpr h1
    refine ⟨w, hm, h2, ?_⟩
    have l2 := dph_child T hs hm h2
    unfold dph at l2 ⊢
    omega
end
end TR

namespace TR
section
variable {nr fr : Nat → Nat} {L : Nat}
/-- depths before the stations of a body of L tracks, seen from its inside -/
structure Brn (nr fr : Nat → Nat) (L : Nat) : Prop where
  up : ∀ i, i + 1 < L → nr i + 1 ≤ nr (i + 1)
  dn : ∀ j, 1 ≤ j → j < L → fr (j + 1) + 1 ≤ fr j
theorem Brn.ups (b : Brn nr fr L) {i : Nat} : ∀ {d : Nat}, i + d < L → nr i + d ≤ nr (i + d)
  | 0, _ => Nat.le_refl _
  | d + 1, h => by
    have h1 := b.ups (i := i) (d := d) (by omega)
    have h2 := b.up (i + d) (by omega)
    have e : i + (d + 1) = i + d + 1 := by omega
    rw [e]
    omega
theorem Brn.up_le (b : Brn nr fr L) {i p : Nat} (h : i ≤ p) (hp : p < L) : nr i + (p - i) ≤ nr p := by
  have := b.ups (i := i) (d := p - i) (by omega)
  rwa [show i + (p - i) = p by omega] at this
theorem Brn.dns (b : Brn nr fr L) {q : Nat} (hq : 1 ≤ q) : ∀ {d : Nat}, q + d ≤ L → fr (q + d) + d ≤ fr q
  | 0, _ => Nat.le_refl _
  | d + 1, h => by
    have h1 := b.dns hq (d := d) (by omega)
    have h2 := b.dn (q + d) (by omega) (by omega)
    have e : q + (d + 1) = q + d + 1 := by omega
    rw [e]
    omega
theorem Brn.dn_le (b : Brn nr fr L) {q j : Nat} (hq : 1 ≤ q) (h : q ≤ j) (hj : j ≤ L) : fr j + (j - q) ≤ fr q := by
  have := b.dns hq (d := j - q) (by omega)
  rwa [show q + (j - q) = j by omega] at this
/-- a part of the body, all else of the train before its ends -/
structure StI (nr fr : Nat → Nat) (L i j : Nat) : Prop where
  lt : i < j
  le : j ≤ L
  n : L ≤ nr i + (j - i)
  f : L ≤ fr j + (j - i)
theorem StI.start (hL : 0 < L) : StI nr fr L 0 L := ⟨hL, Nat.le_refl _, by omega, by omega⟩
theorem StI.front (b : Brn nr fr L) {i j : Nat} (s : StI nr fr L i j) (h : nr i < L) : StI nr fr L i (i + L - nr i) ∧ i + L - nr i ≤ j ∧ nr i + (i + L - nr i - i) = L := by
  have h1 := s.lt
  have h2 := s.le
  have h3 := s.n
  have h4 := s.f
  have h5 := b.dn_le (q := i + L - nr i) (j := j) (by omega) (by omega) h2
  exact ⟨⟨by omega, by omega, by omega, by omega⟩, by omega, by omega⟩
theorem StI.rear (b : Brn nr fr L) {i j : Nat} (s : StI nr fr L i j) (h : fr j < L) : StI nr fr L (j + fr j - L) j ∧ i ≤ j + fr j - L ∧ fr j + (j - (j + fr j - L)) = L := by
  have h1 := s.lt
  have h2 := s.le
  have h3 := s.n
  have h4 := s.f
  have h5 := b.up_le (i := i) (p := j + fr j - L) (by omega) (by omega)
  exact ⟨⟨by omega, by omega, by omega, by omega⟩, by omega, by omega⟩
def prO (nr fr : Nat → Nat) (L t i j : Nat) : Nat × Nat := if t = 0 then (i, i + L - nr i) else (j + fr j - L, j)
/-- a climb whose sides take turns -/
inductive Clm (nr fr : Nat → Nat) (L : Nat) : Nat → Nat → Nat → Nat → Nat → List (Nat × Nat) → Bool → Prop
  | done {n t s i j : Nat} : 2 ≤ s → Clm nr fr L n t s i j [] false
  | loose {n t s i j : Nat} : s < 2 → (L ≤ nr i ∨ L ≤ fr j) → Clm nr fr L n t s i j [] true
  | stay {n t s i j : Nat} {r : List (Nat × Nat)} {b : Bool} : s < 2 → nr i < L → fr j < L → prO nr fr L t i j = (i, j) → Clm nr fr L n (1 - t) (s + 1) i j r b → Clm nr fr L (n + 1) t s i j r b
  | move {n t s i j : Nat} {r : List (Nat × Nat)} {b : Bool} : s < 2 → nr i < L → fr j < L → prO nr fr L t i j ≠ (i, j) → Clm nr fr L n (1 - t) 0 (prO nr fr L t i j).1 (prO nr fr L t i j).2 r b → Clm nr fr L (n + 1) t s i j (prO nr fr L t i j :: r) b
theorem StI.pr (b : Brn nr fr L) {t i j : Nat} (s : StI nr fr L i j) (h1 : nr i < L) (h2 : fr j < L) : StI nr fr L (prO nr fr L t i j).1 (prO nr fr L t i j).2 ∧ i ≤ (prO nr fr L t i j).1 ∧ (prO nr fr L t i j).2 ≤ j := by
  unfold prO
  split
  · obtain ⟨a, b, _⟩ := s.front b h1
    exact ⟨a, Nat.le_refl _, b⟩
  · obtain ⟨a, b, _⟩ := s.rear b h2
    exact ⟨a, b, Nat.le_refl _⟩
theorem clm_ex (b : Brn nr fr L) : ∀ (m t s i j : Nat), StI nr fr L i j → s ≤ 2 → 3 * (j - i) + (2 - s) ≤ m → ∃ n r c, Clm nr fr L n t s i j r c := by
  intro m
  induction m with
  | zero =>
    intro t s i j h hs hm
    have := h.lt
    omega
  | succ m ih =>
    intro t s i j h hs hm
    by_cases c0 : 2 ≤ s
    · exact ⟨0, _, _, .done c0⟩
    by_cases c1 : L ≤ nr i ∨ L ≤ fr j
    · exact ⟨0, _, _, .loose (by omega) c1⟩
    have n1 : nr i < L := by omega
    have n2 : fr j < L := by omega
    obtain ⟨k1, k2, k3⟩ := h.pr b (t := t) n1 n2
    by_cases c2 : prO nr fr L t i j = (i, j)
    · obtain ⟨n, r, c, q⟩ := ih (1 - t) (s + 1) i j h (by omega) (by omega)
      exact ⟨n + 1, r, c, .stay (by omega) n1 n2 c2 q⟩
    · have : (prO nr fr L t i j).2 - (prO nr fr L t i j).1 < j - i := by
        have l1 := k1.lt
        have : ¬ ((prO nr fr L t i j).1 = i ∧ (prO nr fr L t i j).2 = j) := fun z => c2 (Prod.ext z.1 z.2)
        omega
      obtain ⟨n, r, c, q⟩ := ih (1 - t) 0 _ _ k1 (by omega) (by omega)
      exact ⟨n + 1, _, c, .move (by omega) n1 n2 c2 q⟩
def lst2 (p : Nat × Nat) (r : List (Nat × Nat)) : Nat × Nat := r.getLastD p
theorem lst2_cons {p q : Nat × Nat} {r : List (Nat × Nat)} : lst2 p (q :: r) = lst2 q r := by
  unfold lst2
  rw [List.getLastD_cons]
/-- a part that no side can make shorter -/
structure Fx (nr fr : Nat → Nat) (L p q : Nat) : Prop where
  lt : p < q
  le : q ≤ L
  n : nr p + (q - p) = L
  f : fr q + (q - p) = L
/-- what a side that did not move knows -/
def Si (nr fr : Nat → Nat) (L t s i j : Nat) : Prop := (1 ≤ s → if t = 0 then fr j + (j - i) = L else nr i + (j - i) = L) ∧ (2 ≤ s → nr i + (j - i) = L ∧ fr j + (j - i) = L)
theorem clm_end (b : Brn nr fr L) {n t s i j : Nat} {r : List (Nat × Nat)} {c : Bool} (h : Clm nr fr L n t s i j r c) : t ≤ 1 → StI nr fr L i j → Si nr fr L t s i j →
    StI nr fr L (lst2 (i, j) r).1 (lst2 (i, j) r).2 ∧ i ≤ (lst2 (i, j) r).1 ∧ (lst2 (i, j) r).2 ≤ j ∧ r.length ≤ j - i ∧ (c = false → Fx nr fr L (lst2 (i, j) r).1 (lst2 (i, j) r).2) ∧ (c = true → L ≤ nr (lst2 (i, j) r).1 ∨ L ≤ fr (lst2 (i, j) r).2) ∧ (∀ x ∈ r, StI nr fr L x.1 x.2) := by
  induction h with
  | done hs =>
    intro ht st si
    obtain ⟨q1, q2⟩ := si.2 hs
    exact ⟨st, Nat.le_refl _, Nat.le_refl _, Nat.zero_le _, fun _ => ⟨st.lt, st.le, q1, q2⟩, fun z => (nomatch z), fun _ z => (nomatch z)⟩
  | loose hs hl =>
    intro ht st si
    exact ⟨st, Nat.le_refl _, Nat.le_refl _, Nat.zero_le _, fun z => (nomatch z), fun _ => hl, fun _ z => (nomatch z)⟩
  | @stay n t s i j r c hs n1 n2 e q ih =>
    intro ht st si
    refine ih (by omega) st ?_
    have l1 := st.lt
    have s1 := si.1
    unfold prO at e
    unfold Si
    by_cases z : t = 0
    · subst z
      rw [if_pos rfl] at e
      have e2 : i + L - nr i = j := (Prod.mk.inj e).2
      refine ⟨fun _ => ?_, fun h2 => ?_⟩
      · rw [if_neg (by omega)]
        omega
      · have := s1 (by omega)
        rw [if_pos rfl] at this
        omega
    · rw [if_neg z] at e
      have e2 : j + fr j - L = i := (Prod.mk.inj e).1
      have l3 := st.f
      refine ⟨fun _ => ?_, fun h2 => ?_⟩
      · rw [if_pos (by omega)]
        omega
      · have := s1 (by omega)
        rw [if_neg z] at this
        omega
  | @move n t s i j r c hs n1 n2 e q ih =>
    intro ht st si
    obtain ⟨k1, k2, k3⟩ := st.pr b (t := t) n1 n2
    obtain ⟨a1, a2, a3, a4, a5, a6, a7⟩ := ih (by omega) k1 ⟨fun z => absurd z (by omega), fun z => absurd z (by omega)⟩
    rw [lst2_cons]
    rw [show ((prO nr fr L t i j).1, (prO nr fr L t i j).2) = prO nr fr L t i j from rfl] at a1 a2 a3 a5 a6
    refine ⟨a1, by omega, by omega, ?_, a5, a6, fun x hx => ?_⟩
    · have l1 := k1.lt
      have : ¬ ((prO nr fr L t i j).1 = i ∧ (prO nr fr L t i j).2 = j) := fun z => e (Prod.ext z.1 z.2)
      rw [List.length_cons]
      omega
    · rcases List.mem_cons.mp hx with rfl | hx
      · exact k1
      · exact a7 x hx
/-- a part that cannot be made shorter lies in all parts of a climb -/
theorem clm_fix (b : Brn nr fr L) {p q : Nat} (fx : Fx nr fr L p q) {n t s i j : Nat} {r : List (Nat × Nat)} {c : Bool} (h : Clm nr fr L n t s i j r c) : StI nr fr L i j → i ≤ p → q ≤ j → c = false ∧ (lst2 (i, j) r).1 ≤ p ∧ q ≤ (lst2 (i, j) r).2 := by
  have f1 := fx.lt
  have f2 := fx.le
  have f3 := fx.n
  have f4 := fx.f
  induction h with
  | done hs => exact fun st h1 h2 => ⟨rfl, h1, h2⟩
  | @loose n t s i j hs hl =>
    intro st h1 h2
    have l2 := st.le
    have a1 := b.up_le h1 (by omega)
    have a2 := b.dn_le (q := q) (j := j) (by omega) h2 l2
    omega
  | stay hs n1 n2 e k ih => exact ih
  | @move n t s i j r c hs n1 n2 e k ih =>
    intro st h1 h2
    have l2 := st.le
    have l1 := st.lt
    have l3 := st.f
    have a1 := b.up_le h1 (by omega)
    have a2 := b.dn_le (q := q) (j := j) (by omega) h2 l2
    obtain ⟨k1, _, _⟩ := st.pr b (t := t) n1 n2
    rw [lst2_cons]
    refine ih k1 ?_ ?_
    · unfold prO
      split
      · exact h1
      · show j + fr j - L ≤ p
        omega
    · unfold prO
      split
      · show q ≤ i + L - nr i
        omega
      · exact h2
/-- the order of the sides is of no account -/
theorem clm_conf (b : Brn nr fr L) (hL : 0 < L) {n m : Nat} {r1 r2 : List (Nat × Nat)} {c1 c2 : Bool} (h1 : Clm nr fr L n 0 0 0 L r1 c1) (h2 : Clm nr fr L m 1 0 0 L r2 c2) : c1 = c2 ∧ (c1 = false → lst2 (0, L) r1 = lst2 (0, L) r2) := by
  have st : StI nr fr L 0 L := .start hL
  have si : ∀ t, Si nr fr L t 0 0 L := fun t => ⟨fun z => absurd z (by omega), fun z => absurd z (by omega)⟩
  obtain ⟨a1, a2, a3, _, a5, a6, _⟩ := clm_end b h1 (by omega) st (si 0)
  obtain ⟨b1, b2, b3, _, b5, b6, _⟩ := clm_end b h2 (by omega) st (si 1)
  cases c1 with
  | false =>
    have fx := a5 rfl
    obtain ⟨e, q1, q2⟩ := clm_fix b fx h2 st (Nat.zero_le _) fx.le
    subst e
    have fy := b5 rfl
    obtain ⟨_, q3, q4⟩ := clm_fix b fy h1 st (Nat.zero_le _) fy.le
    exact ⟨rfl, fun _ => Prod.ext (by omega) (by omega)⟩
  | true =>
    cases c2 with
    | true => exact ⟨rfl, fun z => (nomatch z)⟩
    | false =>
      have fy := b5 rfl
      obtain ⟨e, _, _⟩ := clm_fix b fy h1 st (Nat.zero_le _) fy.le
      cases e
/-- the climb whose front side is asked first -/
inductive Prg (nr fr : Nat → Nat) (L : Nat) : Nat → Nat → Nat → List (Nat × Nat) → Prop
  | loose {n i j : Nat} : (L ≤ nr i ∨ L ≤ fr j) → Prg nr fr L n i j []
  | fixed {n i j : Nat} : nr i < L → fr j < L → nr i + (j - i) = L → fr j + (j - i) = L → Prg nr fr L n i j []
  | front {n i j : Nat} {r : List (Nat × Nat)} : nr i < L → fr j < L → L < nr i + (j - i) → Prg nr fr L n i (i + L - nr i) r → Prg nr fr L (n + 1) i j ((i, i + L - nr i) :: r)
  | rear {n i j : Nat} {r : List (Nat × Nat)} : nr i < L → fr j < L → nr i + (j - i) = L → L < fr j + (j - i) → Prg nr fr L n (j + fr j - L) j r → Prg nr fr L (n + 1) i j ((j + fr j - L, j) :: r)
def Sj (nr fr : Nat → Nat) (L t s i j : Nat) : Prop := (t ≠ 0 → nr i + (j - i) = L) ∧ (t = 0 → 1 ≤ s → fr j + (j - i) = L) ∧ (2 ≤ s → nr i + (j - i) = L ∧ fr j + (j - i) = L)
theorem clm_prg (b : Brn nr fr L) {n t s i j : Nat} {r : List (Nat × Nat)} {c : Bool} (h : Clm nr fr L n t s i j r c) : t ≤ 1 → StI nr fr L i j → Sj nr fr L t s i j → ∃ m, Prg nr fr L m i j r := by
  induction h with
  | @done n t s i j hs =>
    intro ht st sj
    obtain ⟨q1, q2⟩ := sj.2.2 hs
    by_cases c : L ≤ nr i ∨ L ≤ fr j
    · exact ⟨0, .loose c⟩
    · exact ⟨0, .fixed (by omega) (by omega) q1 q2⟩
  | loose hs hl => exact fun _ _ _ => ⟨0, .loose hl⟩
  | @stay n t s i j r c hs n1 n2 e q ih =>
    intro ht st sj
    refine ih (by omega) st ?_
    have l1 := st.lt
    have l3 := st.f
    obtain ⟨s1, s2, s3⟩ := sj
    unfold prO at e
    unfold Sj
    by_cases z : t = 0
    · rw [if_pos z] at e
      have e2 : i + L - nr i = j := (Prod.mk.inj e).2
      have s2 := s2 z
      refine ⟨fun _ => by omega, fun q => by omega, fun h2 => ?_⟩
      have := s2 (by omega)
      omega
    · rw [if_neg z] at e
      have e2 : j + fr j - L = i := (Prod.mk.inj e).1
      have s1 := s1 z
      refine ⟨fun q => by omega, fun _ _ => by omega, fun h2 => by omega⟩
  | @move n t s i j r c hs n1 n2 e q ih =>
    intro ht st sj
    obtain ⟨k1, _, _⟩ := st.pr b (t := t) n1 n2
    have l1 := st.lt
    have l2 := st.n
    have l3 := st.f
    obtain ⟨s1, s2, s3⟩ := sj
    by_cases z : t = 0
    · have ep : prO nr fr L t i j = (i, i + L - nr i) := by unfold prO; rw [if_pos z]
      rw [ep] at e k1 q ih ⊢
      have ne : i + L - nr i ≠ j := fun w => e (Prod.ext rfl w)
      obtain ⟨m, hm⟩ := ih (by omega) k1 ⟨fun _ => (by show nr i + (i + L - nr i - i) = L; omega), fun q _ => by omega, fun q => by omega⟩
      exact ⟨m + 1, .front n1 n2 (by omega) hm⟩
    · have ep : prO nr fr L t i j = (j + fr j - L, j) := by unfold prO; rw [if_neg z]
      rw [ep] at e k1 q ih ⊢
      have ne : j + fr j - L ≠ i := fun w => e (Prod.ext w rfl)
      have s1 := s1 z
      obtain ⟨m, hm⟩ := ih (by omega) k1 ⟨fun q => by omega, fun _ q => by omega, fun q => by omega⟩
      exact ⟨m + 1, .rear n1 n2 s1 (by omega) hm⟩
end
end TR

namespace TR
section
variable {tr : List E2}
/-- depths before the stations of a body, seen from the next one, seen from the one before -/
noncomputable def nrB (tr : List E2) (l : List Nat) (i : Nat) : Nat := dph tr (l.getD i 0) (l.getD (i + 1) 0)
noncomputable def frB (tr : List E2) (l : List Nat) (j : Nat) : Nat := dph tr (l.getD j 0) (l.getD (j - 1) 0)
/-- the part of a body from i to j -/
def prt (l : List Nat) (i j : Nat) : List Nat := (l.drop i).take (j + 1 - i)
theorem gD {l : List Nat} {i : Nat} (h : i < l.length) : l[i]? = some (l.getD i 0) := by
  rw [List.getD_eq_getElem?_getD, List.getElem?_eq_getElem h]
  rfl
theorem gD_of {l : List Nat} {i x : Nat} (h : l[i]? = some x) : l.getD i 0 = x := by
  rw [List.getD_eq_getElem?_getD, h]
  rfl
theorem wk_at : ∀ {l : List Nat} {i x y : Nat}, Wk tr l → l[i]? = some x → l[i + 1]? = some y → Adj tr x y
  | [], _, _, _, _, h, _ => by cases h
  | [a], i, _, _, _, _, h => by cases h
  | a :: b :: r, 0, x, y, w, h1, h2 => by
    cases h1
    cases h2
    exact w.1
  | a :: b :: r, i + 1, x, y, w, h1, h2 => wk_at (l := b :: r) (i := i) w.2 h1 h2
theorem brn_of (T : TreeL tr) {l : List Nat} (b : Bd tr l) : Brn (nrB tr l) (frB tr l) (l.length - 1) := by
  refine ⟨fun i hi => ?_, fun j h1 hj => ?_⟩
  · have g0 := gD (l := l) (i := i) (by omega)
    have g1 := gD (l := l) (i := i + 1) (by omega)
    have g2 := gD (l := l) (i := i + 2) (by omega)
    have ha := wk_at b.sw.wk g0 g1
    have ne := sw_ne b.sw g0 g2 (by omega)
    exact dph_child T (T.adj_le ha).2 ((mem_nb T.ne).mpr ha.sym) ne
  · have g0 := gD (l := l) (i := j - 1) (by omega)
    have g1 := gD (l := l) (i := j) (by omega)
    have g2 := gD (l := l) (i := j + 1) (by omega)
    have ha := wk_at b.sw.wk g1 g2
    have ne := sw_ne b.sw g2 g0 (by omega)
    have := dph_child T (T.adj_le ha).1 ((mem_nb T.ne).mpr ha) ne
    unfold frB
    rw [Nat.add_sub_cancel]
    exact this
theorem prt_at {l : List Nat} {i j k : Nat} (h : k < j + 1 - i) : (prt l i j)[k]? = l[i + k]? := by
  unfold prt
  rw [List.getElem?_take, if_pos h, List.getElem?_drop]
theorem prt_len {l : List Nat} {i j : Nat} (h1 : i < j) (h2 : j < l.length) : (prt l i j).length = j - i + 1 := by
  unfold prt
  rw [List.length_take, List.length_drop]
  omega
theorem prt_all {l : List Nat} (h : 2 ≤ l.length) : prt l 0 (l.length - 1) = l := by
  unfold prt
  rw [List.drop_zero, List.take_of_length_le (by omega)]
/-- a part of a body -/
structure PtR (tr : List E2) (l : List Nat) (i j : Nat) : Prop where
  bd : Bd tr (prt l i j)
  h : hd0 (prt l i j) = l.getD i 0
  t : lt0 (prt l i j) = l.getD j 0
  s : (prt l i j)[1]? = some (l.getD (i + 1) 0)
  p : (prt l i j)[(prt l i j).length - 2]? = some (l.getD (j - 1) 0)
  n : (prt l i j).length = j - i + 1
theorem prt_bd (T : TreeL tr) {l : List Nat} (b : Bd tr l) {i j : Nat} (h1 : i < j) (h2 : j < l.length) : PtR tr l i j := by
  have g0 := gD (l := l) (i := i) (by omega)
  have g1 := gD (l := l) (i := j) (by omega)
  have n := prt_len h1 h2
  have s1 := b.sw.drop g0
  have g2 : (l.drop i)[j - i]? = some (l.getD j 0) := by
    rw [List.getElem?_drop, show i + (j - i) = j by omega]
    exact g1
  have s2 := s1.take g2
  have e : (l.drop i).take (j - i + 1) = prt l i j := by
    unfold prt
    rw [show j + 1 - i = j - i + 1 by omega]
  rw [e] at s2
  have ne := sw_ne b.sw g0 g1 (by omega)
  have hle : l.getD i 0 ≤ tr.length := b.le _ (List.mem_of_getElem? g0)
  obtain ⟨q1, q2, q3⟩ := sw_bd T s2 hle ne
  refine ⟨q1, q2, q3, ?_, ?_, n⟩
  · rw [prt_at (by omega)]
    exact gD (by omega)
  · rw [n, show j - i + 1 - 2 = j - 1 - i by omega, prt_at (by omega), show i + (j - 1 - i) = j - 1 by omega]
    exact gD (by omega)
theorem prt_take {l : List Nat} {i j k : Nat} (h : k ≤ j) (hi : i ≤ k) : (prt l i j).take (k - i + 1) = prt l i k := by
  unfold prt
  rw [List.take_take]
  congr 1
  omega
theorem prt_drop {l : List Nat} {i j d : Nat} (h : i + d ≤ j) : (prt l i j).drop d = prt l (i + d) j := by
  unfold prt
  rw [List.drop_take, List.drop_drop]
  congr 1
  omega
end
end TR
namespace TR
section
variable {tr : List E2}
/-- the next part of a climb -/
noncomputable def nxP (tr : List E2) (L : Nat) (m : List Nat) : List Nat :=
  if L ≤ dph tr (hd0 m) (m.getD 1 0) ∨ L ≤ dph tr (lt0 m) (m.getD (m.length - 2) 0) then []
  else if L < dph tr (hd0 m) (m.getD 1 0) + (m.length - 1) then m.take (L - dph tr (hd0 m) (m.getD 1 0) + 1)
  else if L < dph tr (lt0 m) (m.getD (m.length - 2) 0) + (m.length - 1) then m.drop (dph tr (lt0 m) (m.getD (m.length - 2) 0) + (m.length - 1) - L) else []
theorem nxP_at (T : TreeL tr) {l : List Nat} (b : Bd tr l) {i j L : Nat} (h1 : i < j) (h2 : j < l.length) :
    nxP tr L (prt l i j) = if L ≤ nrB tr l i ∨ L ≤ frB tr l j then [] else if L < nrB tr l i + (j - i) then (prt l i j).take (L - nrB tr l i + 1) else if L < frB tr l j + (j - i) then (prt l i j).drop (frB tr l j + (j - i) - L) else [] := by
  have p := prt_bd T b h1 h2
  have e1 := gD_of p.s
  have e2 := gD_of p.p
  unfold nxP
  rw [p.h, p.t, e1, e2, p.n, Nat.add_sub_cancel]
  rfl
theorem nxP_prg (T : TreeL tr) {l : List Nat} (b : Bd tr l) {n i j : Nat} {r : List (Nat × Nat)} (h : Prg (nrB tr l) (frB tr l) (l.length - 1) n i j r) (st : StI (nrB tr l) (frB tr l) (l.length - 1) i j) :
    (r = [] ∧ nxP tr (l.length - 1) (prt l i j) = []) ∨ ∃ n' i' j' r', n = n' + 1 ∧ r = (i', j') :: r' ∧ nxP tr (l.length - 1) (prt l i j) = prt l i' j' ∧ StI (nrB tr l) (frB tr l) (l.length - 1) i' j' ∧ Prg (nrB tr l) (frB tr l) (l.length - 1) n' i' j' r' := by
  have b2 := b.two
  have h1 := st.lt
  have h2 := st.le
  rw [nxP_at T b h1 (by omega)]
  cases h with
  | loose h => exact .inl ⟨rfl, if_pos h⟩
  | fixed a1 a2 a3 a4 => exact .inl ⟨rfl, by rw [if_neg (by omega), if_neg (by omega), if_neg (by omega)]⟩
  | @front n _ _ r a1 a2 a3 k =>
    obtain ⟨s2, le, _⟩ := st.front (brn_of T b) a1
    refine .inr ⟨n, i, i + (l.length - 1) - nrB tr l i, r, rfl, rfl, ?_, s2, k⟩
    rw [if_neg (by omega), if_pos a3]
    rw [← prt_take (k := i + (l.length - 1) - nrB tr l i) le (by omega)]
    congr 1
    omega
  | @rear n _ _ r a1 a2 a3 a4 k =>
    obtain ⟨s2, le, _⟩ := st.rear (brn_of T b) a2
    refine .inr ⟨n, j + frB tr l j - (l.length - 1), j, r, rfl, rfl, ?_, s2, k⟩
    rw [if_neg (by omega), if_neg (by omega), if_pos a4]
    have l3 := s2.lt
    rw [prt_drop (by omega)]
    congr 1
    omega
end
end TR

namespace TR
open PySem PySem.Spec PyProof.Rows L2 L2.TT StX ClX
def bv : Option Nat → V
  | none => .non
  | some n => iv n
/-- all but one object stand as before -/
def FrB (a : Addr) (H H' : Hp) : Prop := ∀ b o, H b = some o → b ≠ a → H' b = some o
/-- a layer in the heap: a list of pairs -/
structure LY (H : Hp) (a : Addr) (es : List Addr) (xs : List (Nat × Option Nat)) : Prop where
  hl : H a = some (.lst (es.map V.ref))
  len : es.length = xs.length
  at_ : ∀ (i : Nat) (p : Addr) (x : Nat × Option Nat), es[i]? = some p → xs[i]? = some x → H p = some (.tup [iv x.1, bv x.2])
theorem LY.same {H H' : Hp} {a : Addr} {es : List Addr} {xs : List (Nat × Option Nat)} (l : LY H a es xs) (s : Same H H') : LY H' a es xs := ⟨s _ _ l.hl, l.len, fun i p x h1 h2 => s _ _ (l.at_ i p x h1 h2)⟩
theorem LY.grow {H : Hp} {a : Addr} {es : List Addr} {xs : List (Nat × Option Nat)} (l : LY H a es xs) {p : Addr} (np : H p = none) {x : Nat × Option Nat} :
    LY (upd (upd H p (.tup [iv x.1, bv x.2])) a (.lst (es.map V.ref ++ [.ref p]))) a (es ++ [p]) (xs ++ [x]) := by
  have pa : p ≠ a := fun z => by rw [z, l.hl] at np; cases np
  refine ⟨by rw [upd_same, List.map_append]; rfl, by rw [List.length_append, List.length_append, l.len]; rfl, fun i q y h1 h2 => ?_⟩
  rcases get_snoc h1 with h1 | ⟨e1, rfl⟩
  · rcases get_snoc h2 with h2 | ⟨e3, e4⟩
    · have h := l.at_ i q y h1 h2
      have q1 : q ≠ a := ne_of h l.hl (by intro z; cases z)
      rw [upd_ne q1, upd_ne (ne_of_none h np)]
      exact h
    · exfalso
      have := (List.getElem?_eq_some_iff.mp h1).1
      have := l.len
      omega
  · rcases get_snoc h2 with h2 | ⟨e3, rfl⟩
    · exfalso
      have := (List.getElem?_eq_some_iff.mp h2).1
      have := l.len
      omega
    · rw [upd_ne pa, upd_same]
def spLayers (C : Addr) : Sp := fun vs H Q _ => ∃ (r : Addr) (tr : List E2) (s : Nat) (b : Option Nat), vs = [.ref r, iv s, bv b] ∧ RailAt C H r tr ∧ s ≤ tr.length ∧
  ∀ (fl : Addr) (fs : List Addr) (H' : Hp), Same H H' → H' fl = some (.lst (fs.map V.ref)) → (∀ (k : Nat) (f : Addr), fs[k]? = some f → H' f = some (.lst (((lyr tr s b k).map Prod.fst).map iv))) → (∀ k, k < fs.length → lyr tr s b k ≠ []) → lyr tr s b fs.length = [] → Q (.ref fl) H'
section
variable {P : Program} {w : World} {K : PySem.W.Frag} {mg : Str → Option Value} {base : Heap}
abbrev NLy : List Str := ["railway", "station", "barred", "found", "layer", "place", "_", "entered", "near"]
theorem sc_ly : FnScope NLy ["railway", "station", "barred"] (defScope s_layers) := ⟨rfl, rfl, rfl, by decide +kernel, rfl, by decide +kernel, by decide +kernel⟩
theorem ok_layers {f fn C : Addr} {fd fdn : FuncData} (F : Fun K "layers" "layers" s_layers f fd) (X : TxtR K mg C) (m : Meth K C "neighbours" fn) (G : FnOk P w K mg base CX0 5 fn fdn ["self", "station"] (spNbr C)) (bn : Binds K fdn ["self", "station"] []) : FnOk P w K mg base CX0 6 f fd ["railway", "station", "barred"] (spLayers C) := by
  refine F.ok sc_ly (fun vs H Q E h => ?_) (fun cdv A outer s H vs Q E hr h => ?_)
  · obtain ⟨r, tr, s, b, rfl, _⟩ := h
    rfl
  · obtain ⟨r, tr, sn, b, rfl, R, hs, k⟩ := h
    refine ⟨_, pss_cons (ps_set (i := 3) sc_ly.nd rfl (.inl rfl) (pe_lst pa_nil))
      (pss_cons (ps_set (i := 4) sc_ly.nd rfl (.inl rfl) (pe_lst (pa_cons (pe_tup (pa_cons (pv 1) (pa_cons (pv 2) pa_nil))) pa_nil)))
      (pss_cons (ps_while PassesOwn.never (pt_truth (pv 4) (by intro _; rfl))
        (pss_cons (ps_expr (pe_bm PySem.F.plainAttrs_list PySem.F.slot_list_append PySem.F.type_list_append mt_append (pv 3) (pa_cons
          (pe_lc (own := [("place", 5), ("_", 6)]) (g := gTup K 2 (gCons (gName 5) (gCons (gName 6) gNil))) (tt := tYes) rfl sc_ly.nd (pi_list (pv 4)) (blkOk_by (N := NLy) (sc := defScope s_layers) (by decide +kernel))
            (fun _ _ _ _ _ => pg_tupK (K := K) (n := 2) (t := gCons (gName 5) (gCons (gName 6) gNil)) rfl rfl (pgs_cons (pg_name (i := 5) sc_ly.nd rfl (Or.inl rfl)) (pgs_cons (pg_name (i := 6) sc_ly.nd rfl (Or.inl rfl)) pgs_nil)) rfl) (fun _ _ _ _ _ => pts_nil) (fun _ _ _ _ _ => pv 5)) pa_nil)))
        (pss_one (ps_setLc2 (i := 4) (own := [("place", 5), ("entered", 7), ("near", 8)]) (vs1 := [8]) (g := gTup K 2 (gCons (gName 5) (gCons (gName 7) gNil))) (g1 := gName 8) (tt := tYes) (by rfl) sc_ly.nd rfl rfl (sw_true rfl rfl rfl (by decide +kernel)) (pi_list (pv 4)) (blkOk_by (N := NLy) (sc := defScope s_layers) (by decide +kernel)) (by decide)
            (fun _ _ _ _ _ => pg_tupK (K := K) (n := 2) (t := gCons (gName 5) (gCons (gName 7) gNil)) rfl rfl (pgs_cons (pg_name (i := 5) sc_ly.nd rfl (Or.inl rfl)) (pgs_cons (pg_name (i := 7) sc_ly.nd rfl (Or.inl rfl)) pgs_nil)) rfl) (fun _ _ _ _ _ => pts_nil)
            (fun _ _ _ _ _ => pi_tupK (K := K) rfl (pe_meth (pv 0) X.cl m G hr bn .nil pass0 (pa_cons (pv 5) pa_nil))) (fun _ _ _ _ _ => pg_name (i := 8) sc_ly.nd rfl (Or.inl rfl)) (fun _ _ _ _ _ => pts_one (pt_cmpR op_ne (pv 8) (pv 7) (nomark _)))
            (fun _ _ _ _ _ => pe_tup (pa_cons (pv 8) (pa_cons (pv 5) pa_nil)))))))
      (pss_one (ps_ret (pv 3))))), ?_⟩
    obtain ⟨T, few, dx, tt, na, Aa, L, ps, ts, h1, h2⟩ := id R
    have two : (2 : Nat) ≤ sizeLine := by rw [sizeLine_eq]; decide
    refine ⟨by show 0 ≤ sizeLine; exact Nat.zero_le _, fun fl nfl => ?_⟩
    have s0 := same_upd nfl (.lst [])
    have hf0 := upd_same (H := H) (a := fl) (o := .lst [])
    generalize upd H fl (.lst []) = H0 at s0 hf0
    refine ⟨_, rfl, _, rfl, two, fun t0 nt0 => ?_⟩
    have s1 := s0.trans (same_upd nt0 (.tup [iv sn, bv b]))
    have hf1 := same_upd nt0 (.tup [iv sn, bv b]) _ _ hf0
    have ht1 := upd_same (H := H0) (a := t0) (o := .tup [iv sn, bv b])
    generalize upd H0 t0 (.tup [iv sn, bv b]) = H1 at s1 hf1 ht1
    refine ⟨by show 1 ≤ sizeLine; rw [sizeLine_eq]; decide, fun l0 nl0 => ?_⟩
    have sl := same_upd nl0 (.lst [V.ref t0])
    have s2 := s1.trans sl
    have hf2 := sl _ _ hf1
    have lf : l0 ≠ fl := fun z => by rw [z, hf1] at nl0; cases nl0
    have LY0 : LY (upd H1 l0 (.lst [V.ref t0])) l0 [t0] (lyr tr sn b 0) := by
      refine ⟨upd_same, rfl, fun i p x hp hx => ?_⟩
      cases i with
      | zero =>
        have e1 : t0 = p := Option.some.inj hp
        have e2 : (sn, b) = x := Option.some.inj hx
        subst e1 e2
        exact sl _ _ ht1
      | succ i => cases hp
    generalize upd H1 l0 (.lst [V.ref t0]) = H2 at s2 hf2 LY0
    refine ⟨fun m σ H' => ∃ (kk : Nat) (ly : Addr) (es fs : List Addr) (x5 x6 x7 x8 : Option V), m = 2 * tr.length + 3 - kk ∧ σ = [some (.ref r), some (iv sn), some (bv b), some (.ref fl), some (.ref ly), x5, x6, x7, x8] ∧ Same H H' ∧ ly ≠ fl ∧ H' fl = some (.lst (fs.map V.ref)) ∧ fs.length = kk ∧
        (∀ (j : Nat) (f : Addr), fs[j]? = some f → f ≠ fl ∧ H' f = some (.lst (((lyr tr sn b j).map Prod.fst).map iv))) ∧ (∀ j, j < kk → lyr tr sn b j ≠ []) ∧ LY H' ly es (lyr tr sn b kk),
      ⟨_, 0, l0, [t0], [], _, _, _, _, rfl, rfl, s2, lf, hf2, rfl, fun _ _ h => (nomatch h), fun j hj => absurd hj (Nat.not_lt_zero j), LY0⟩, ?_⟩
    clear s0 hf0 s1 hf1 ht1 sl s2 hf2 lf LY0 nt0 nl0 H0 H1 H2 t0 l0
    rintro m σ H1 ⟨kk, ly, es, fs, x5, x6, x7, x8, rfl, rfl, s1, lf, hf1, hk, hfs, hne, Ly⟩
    refine ⟨_, rfl, _, .inl ⟨_, SqL.of Ly.hl, rfl⟩, ?_⟩
    refine ite2 (fun hc => ?_) (fun hc => ?_)
    · have hk0 : lyr tr sn b kk ≠ [] := fun z => by
        have := Ly.len
        rw [z] at this
        have : es = [] := List.length_eq_zero_iff.mp this
        rw [this] at hc
        cases hc
      have hkk := lyr_le T hs hk0
      refine ⟨fun σ' H' => ∃ (ly : Addr) (es fs : List Addr) (x5 x6 x7 x8 : Option V), σ' = [some (.ref r), some (iv sn), some (bv b), some (.ref fl), some (.ref ly), x5, x6, x7, x8] ∧ Same H H' ∧ ly ≠ fl ∧ H' fl = some (.lst (fs.map V.ref)) ∧ fs.length = kk + 1 ∧
          (∀ (j : Nat) (f : Addr), fs[j]? = some f → f ≠ fl ∧ H' f = some (.lst (((lyr tr sn b j).map Prod.fst).map iv))) ∧ (∀ j, j < kk + 1 → lyr tr sn b j ≠ []) ∧ LY H' ly es (lyr tr sn b (kk + 1)),
        fun σ' H' ⟨ly, es, fs, x5, x6, x7, x8, e⟩ => ⟨2 * tr.length + 3 - (kk + 1), by omega, kk + 1, ly, es, fs, x5, x6, x7, x8, rfl, e⟩, ?_⟩
      have llen := lyr_len T (b := b) hs kk
      refine ⟨_, rfl, .inl ⟨rfl, _, SqL.of hf1⟩, _, rfl, ly, rfl, ⟨_, SqL.of Ly.hl⟩, fun D nD => ?_⟩
      have Df : D ≠ fl := fun z => by rw [z, hf1] at nD; cases nD
      refine lc_list (K := K) (a := ly) (xs := es.map V.ref) (fun i H' => H' = upd H1 D (.lst ((((lyr tr sn b kk).take i).map Prod.fst).map iv))) rfl (fun i H' _ e => by rw [e]; exact SqL.of (same_upd nD _ _ _ Ly.hl)) ?_ ?_
      · rintro i v H' hv rfl
        obtain ⟨p, hp, rfl⟩ := map_got hv
        have hil := (List.getElem?_eq_some_iff.mp hp).1
        rw [Ly.len] at hil
        have hx := List.getElem?_eq_getElem hil
        have ha := same_upd nD (.lst ((((lyr tr sn b kk).take i).map Prod.fst).map iv)) _ _ (Ly.at_ i p _ hp hx)
        refine ⟨p, _, rfl, SqT.of ha, rfl, _, _, rfl, _, _, rfl, rfl, rfl, _, rfl, _, upd_same, by rw [List.length_map, List.length_map, List.length_take, sizeLine_eq]; omega, ?_⟩
        rw [upd_upd, take_snoc hx, List.map_append, List.map_append]
        rfl
      · rintro H' rfl
        have e1 : (lyr tr sn b kk).take (es.map V.ref).length = lyr tr sn b kk := List.take_of_length_le (by rw [List.length_map, Ly.len]; exact Nat.le_refl _)
        rw [e1]
        have sD := same_upd nD (.lst (((lyr tr sn b kk).map Prod.fst).map iv))
        have hD2 := upd_same (H := H1) (a := D) (o := .lst (((lyr tr sn b kk).map Prod.fst).map iv))
        generalize upd H1 D (.lst (((lyr tr sn b kk).map Prod.fst).map iv)) = H2 at sD hD2
        refine ⟨fl, _, _, rfl, rfl, sD _ _ hf1, by rw [List.length_map, hk, sizeLine_eq]; omega, ?_⟩
        have s3 := same_old (s1.trans sD) nfl (.lst (fs.map V.ref ++ [V.ref D]))
        have hf3 : upd H2 fl (.lst (fs.map V.ref ++ [V.ref D])) fl = some (.lst ((fs ++ [D]).map V.ref)) := by rw [upd_same, List.map_append]; rfl
        have hfs3 : ∀ (j : Nat) (f : Addr), (fs ++ [D])[j]? = some f → f ≠ fl ∧ upd H2 fl (.lst (fs.map V.ref ++ [V.ref D])) f = some (.lst (((lyr tr sn b j).map Prod.fst).map iv)) := fun j f h => by
          rcases get_snoc h with h | ⟨e1, rfl⟩
          · obtain ⟨g1, g2⟩ := hfs j f h
            exact ⟨g1, by rw [upd_ne g1]; exact sD _ _ g2⟩
          · exact ⟨Df, by rw [upd_ne Df, e1, hk]; exact hD2⟩
        have Ly3 : LY (upd H2 fl (.lst (fs.map V.ref ++ [V.ref D]))) ly es (lyr tr sn b kk) := by
          have l2 := Ly.same sD
          exact ⟨by rw [upd_ne lf]; exact l2.hl, l2.len, fun i p x a1 a2 => by rw [upd_ne (ne_of (l2.at_ i p x a1 a2) (sD _ _ hf1) (by intro z; cases z))]; exact l2.at_ i p x a1 a2⟩
        generalize upd H2 fl (.lst (fs.map V.ref ++ [V.ref D])) = H3 at s3 hf3 hfs3 Ly3
        clear sD hD2 Ly hfs hf1 s1 nD H2
        -- the next layer
        refine ⟨_, rfl, ly, rfl, ⟨_, SqL.of Ly3.hl⟩, fun E' nE => ?_⟩
        have Ef : E' ≠ fl := fun z => by rw [z, hf3] at nE; cases nE
        have sE := same_upd nE (.lst [])
        have nlen := lyr_len T (b := b) hs (kk + 1)
        refine ⟨fun i m H' => m = (es.map V.ref).length - i ∧ i ≤ (es.map V.ref).length ∧ ∃ es2, Same H3 H' ∧ LY H' E' es2 (((lyr tr sn b kk).take i).flatMap (nxt tr)), ⟨_, rfl, Nat.zero_le _, [], sE, ⟨upd_same, rfl, fun _ _ _ h => (nomatch h)⟩⟩, ?_⟩
        rintro i m H4 ⟨rfl, hi, es2, s4, Ly4⟩
        have q4 : SqL K H4 ly (es.map V.ref) := SqL.of (s4 _ _ Ly3.hl)
        by_cases hlt : i < (es.map V.ref).length
        · refine .inr ⟨⟨_, _, q4, List.getElem?_eq_getElem hlt⟩, fun H' => ∃ es2, Same H3 H' ∧ LY H' E' es2 (((lyr tr sn b kk).take (i + 1)).flatMap (nxt tr)), fun H' p' => ⟨(es.map V.ref).length - (i + 1), by omega, rfl, hlt, p'⟩, fun x G4 y => ?_⟩
          obtain ⟨e, y⟩ := y
          subst e
          obtain ⟨p, hp, rfl⟩ := map_got (y _ q4)
          have hil := (List.getElem?_eq_some_iff.mp hp).1
          rw [Ly3.len] at hil
          have hx := List.getElem?_eq_getElem hil
          have ha := s4 _ _ (Ly3.at_ i p _ hp hx)
          have hxle := (lyr_ms T hs kk _ (List.mem_of_getElem? hx)).2
          have pre : (((lyr tr sn b kk).take (i + 1)).flatMap (nxt tr)).length ≤ (lyr tr sn b (kk + 1)).length := by
            show _ ≤ ((lyr tr sn b kk).flatMap (nxt tr)).length
            rw [show (lyr tr sn b kk).flatMap (nxt tr) = ((lyr tr sn b kk).take (i + 1)).flatMap (nxt tr) ++ ((lyr tr sn b kk).drop (i + 1)).flatMap (nxt tr) by rw [← List.flatMap_append, List.take_append_drop], List.length_append]
            omega
          have enx : ((lyr tr sn b kk).take (i + 1)).flatMap (nxt tr) = ((lyr tr sn b kk).take i).flatMap (nxt tr) ++ nxt tr ((lyr tr sn b kk)[i]) := by
            rw [take_snoc hx, List.flatMap_append]
            simp
          generalize (lyr tr sn b kk)[i] = x at hx ha hxle enx
          obtain ⟨v, e⟩ := x
          have R4 := R.same (s3.trans s4)
          have h14 := (s3.trans s4) _ _ h1
          refine ⟨p, _, rfl, SqT.of ha, rfl, _, _, rfl, _, _, rfl, rfl, rfl, _, rfl, r, dx, _, rfl, h14, flR_no (by decide +kernel) (by decide +kernel) (by decide +kernel) (by decide +kernel), _, rfl, r, tr, v, rfl, R4, hxle, fun t ht => ?_⟩
          refine ⟨t, rfl, ⟨_, SqT.of ht⟩, ?_⟩
          have tE : t ≠ E' := ne_of ht Ly4.hl (by intro z; cases z)
          have toS : ∀ {H5 : Hp}, FrB E' G4 H5 → Same H3 H5 := fun {H5} F c o ec => F _ _ (s4 _ _ ec) (ne_of_none ec nE)
          have blen : (((lyr tr sn b kk).take i).flatMap (nxt tr)).length + (nb tr v).length ≤ 5000 := by
            have h9 : (((lyr tr sn b kk).take i).flatMap (nxt tr)).length ≤ (lyr tr sn b (kk + 1)).length := by
              have := congrArg List.length enx
              rw [List.length_append] at this
              omega
            have := nb_len tr v
            omega
          refine ⟨fun j m H' => m = ((nb tr v).map iv).length - j ∧ j ≤ ((nb tr v).map iv).length ∧ ∃ es2, FrB E' G4 H' ∧ LY H' E' es2 (((lyr tr sn b kk).take i).flatMap (nxt tr) ++ (((nb tr v).take j).filter fun w => decide (some w ≠ e)).map fun w => (w, some v)), ⟨_, rfl, Nat.zero_le _, es2, (fun _ _ z _ => z), by simpa using Ly4⟩, ?_⟩
          rintro j m H5 ⟨rfl, hj, es3, F5, Ly5⟩
          have q5 : SqT K H5 t ((nb tr v).map iv) := SqT.of (F5 _ _ ht tE)
          by_cases hlj : j < ((nb tr v).map iv).length
          · refine .inr ⟨⟨_, _, q5, List.getElem?_eq_getElem hlj⟩, fun H' => ∃ es2, FrB E' G4 H' ∧ LY H' E' es2 (((lyr tr sn b kk).take i).flatMap (nxt tr) ++ (((nb tr v).take (j + 1)).filter fun w => decide (some w ≠ e)).map fun w => (w, some v)), fun H' p' => ⟨((nb tr v).map iv).length - (j + 1), by omega, rfl, hlj, p'⟩, fun x H' y => ?_⟩
            obtain ⟨e1, y⟩ := y
            subst e1
            obtain ⟨nw, hw, rfl⟩ := map_got (y _ q5)
            have esp : (((nb tr v).take (j + 1)).filter fun w => decide (some w ≠ e)) = (((nb tr v).take j).filter fun w => decide (some w ≠ e)) ++ [nw].filter fun w => decide (some w ≠ e) := by
              rw [take_snoc hw, List.filter_append]
            have sc : scal (iv nw) (bv e) = true := by cases e <;> rfl
            have eqe : (iv nw = bv e) ↔ some nw = e := by
              cases e with
              | none => exact ⟨fun z => (nomatch z), fun z => (nomatch z)⟩
              | some n => exact ⟨fun z => congrArg some (iv_inj.mp z), fun z => iv_inj.mpr (Option.some.inj z)⟩
            refine ⟨rfl, _, rfl, _, rfl, sc, _, rfl, ?_⟩
            refine ite2 (fun hd => ?_) (fun hd => ?_)
            · have hne2 : some nw ≠ e := fun z => by
                rw [decide_eq_true (eqe.mpr z)] at hd
                cases hd
              refine ⟨_, rfl, _, rfl, two, fun u nu => ⟨es3.map V.ref, same_upd nu _ _ _ Ly5.hl, ?_, es3 ++ [u], ?_, ?_⟩⟩
              · rw [List.length_map, Ly5.len, List.length_append, List.length_map, sizeLine_eq]
                have h1 := List.length_filter_le (fun w => decide (some w ≠ e)) ((nb tr v).take j)
                rw [List.length_take] at h1
                omega
              · intro c o ec nc
                have h5 := F5 _ _ ec nc
                rw [upd_ne nc, upd_ne (ne_of_none h5 nu)]
                exact h5
              · have e4 : [nw].filter (fun w => decide (some w ≠ e)) = [nw] := by
                  rw [List.filter_cons_of_pos (by simp [hne2]), List.filter_nil]
                rw [esp, e4, List.map_append, ← List.append_assoc]
                exact Ly5.grow nu (x := (nw, some v))
            · have he2 : some nw = e := by
                by_cases c : some nw = e
                · exact c
                · exfalso
                  apply hd
                  rw [decide_eq_false (fun z => c (eqe.mp z))]
                  rfl
              have e3 : [nw].filter (fun w => decide (some w ≠ e)) = [] := by
                rw [List.filter_cons_of_neg (by simp [he2]), List.filter_nil]
              rw [esp, e3, List.append_nil]
              exact ⟨es3, F5, Ly5⟩
          · refine .inl ⟨⟨_, q5, by omega⟩, es3, toS F5, ?_⟩
            rw [enx]
            have e3 : (nb tr v).take j = nb tr v := List.take_of_length_le (by rw [List.length_map] at hlj; omega)
            rw [e3] at Ly5
            exact Ly5
        · refine .inl ⟨⟨_, q4, by omega⟩, ?_⟩
          have e3 : (lyr tr sn b kk).take i = lyr tr sn b kk := List.take_of_length_le (by rw [← Ly3.len]; rw [List.length_map] at hlt; omega)
          rw [e3] at Ly4
          exact ⟨E', es2, fs ++ [D], _, _, _, _, rfl, s3.trans s4, Ef, s4 _ _ hf3, by rw [List.length_append, hk]; rfl, fun j f h => ⟨(hfs3 j f h).1, s4 _ _ (hfs3 j f h).2⟩, fun j hj => (by
            by_cases c : j < kk
            · exact hne j c
            · have : j = kk := by omega
              rw [this]
              exact hk0), Ly4⟩
    · have he : lyr tr sn b kk = [] := by
        cases e : lyr tr sn b kk with
        | nil => rfl
        | cons x l =>
          exfalso
          apply hc
          have := Ly.len
          rw [e] at this
          cases es with
          | nil => cases this
          | cons a l => rfl
      exact ⟨_, rfl, k fl fs H1 s1 hf1 (fun j f h => (hfs j f h).2) (fun j hj => hne j (by omega)) (by rw [hk]; exact he)⟩
end
end TR

namespace TR
open PySem PySem.Spec PyProof.Rows L2 L2.TT StX ClX
/-- a method of the class at C, with its promise -/
structure MU (P : Program) (w : World) (K : PySem.W.Frag) (mg : Str → Option Value) (base : Heap) (C : Addr) (k : Nat) (x : Str) (f : Addr) (fd : FuncData) (ps : List Str) (sp : Sp) : Prop where
  m : Meth K C x f
  G : FnOk P w K mg base CX0 k f fd ps sp
  b : Binds K fd ps []
end TR

namespace TR
open PySem PySem.Spec PyProof.Rows L2 L2.TT StX ClX
theorem nE2 {l : List E2} : ∀ {l' : List E2}, PyData.eqvAll (l.map dpr) (l'.map dpr) = decide (l = l') := by
  induction l with
  | nil =>
    intro l'
    cases l' with
    | nil => rfl
    | cons e l' => rfl
  | cons e l ih =>
    intro l'
    cases l' with
    | nil => rfl
    | cons d l' =>
      show (((((e.1 : Nat) : Int) == ((d.1 : Nat) : Int)) && ((((e.2 : Nat) : Int) == ((d.2 : Nat) : Int)) && true)) && PyData.eqvAll (l.map dpr) (l'.map dpr)) = _
      rw [ih]
      by_cases h1 : e.1 = d.1
      · by_cases h2 : e.2 = d.2
        · by_cases h3 : l = l'
          · rw [h1, h2, h3]
            simp [Prod.ext_iff, h1, h2]
          · simp [h3]
        · have : ¬ ((e.2 : Nat) : Int) = ((d.2 : Nat) : Int) := by omega
          rw [show (((e.2 : Nat) : Int) == ((d.2 : Nat) : Int)) = false from beq_eq_false_iff_ne.mpr this]
          simp [Prod.ext_iff, h2]
      · have : ¬ ((e.1 : Nat) : Int) = ((d.1 : Nat) : Int) := by omega
        rw [show (((e.1 : Nat) : Int) == ((d.1 : Nat) : Int)) = false from beq_eq_false_iff_ne.mpr this]
        simp [Prod.ext_iff, h1]
theorem canLay_prs : ∀ (l : List E2), PyData.canLayAll0 (l.map dpr) = true
  | [] => rfl
  | e :: l => by
    show (PyData.canLayAll0 ([e.1, e.2].map di) && PyData.canLayAll0 (l.map dpr)) = true
    rw [canLay_prs l, canLay_ints]
    rfl
theorem depth_prs : ∀ (l : List E2), PyData.depthAll (l.map dpr) ≤ 1
  | [] => Nat.zero_le _
  | e :: l => by
    show max (PyData.depthAll ([e.1, e.2].map di) + 1) (PyData.depthAll (l.map dpr)) ≤ 1
    have := depth_prs l
    rw [depth_ints]
    omega
theorem shaped_prs (l : List E2) : SeqAt.shaped (.tuple (l.map dpr)) = true := by
  unfold SeqAt.shaped
  rw [Bool.and_eq_true]
  refine ⟨canLay_prs l, decide_eq_true ?_⟩
  show PyData.depthAll (l.map dpr) + 1 ≤ 64
  have := depth_prs l
  omega
/-- what isinstance reads of an own class -/
structure InsK (K : PySem.W.Frag) (C : Addr) : Prop where
  ca : PySem.W.findIn K (.ref C) "__class__" = some (some (.builtin "object.__class__"))
  sg : PySem.W.specialIn K (.builtin "object.__class__") "__get__" = some (some (.builtin "getset_descriptor.__get__"))
  st : PySem.W.takesIn K (.builtin "object.__class__") = some true
  ob : PySem.W.mroIn K C (.type "object") = some true
theorem kit_self1 {K : PySem.W.Frag} (C : Addr) : PySem.W.kitOne K (.ref C) (.ref C) = some true := by
  unfold PySem.W.kitOne
  simp
/-- a property of the class at C -/
structure PropU (P : Program) (w : World) (K : PySem.W.Frag) (mg : Str → Option Value) (base : Heap) (C p g : Addr) (fd : FuncData) (x : Str) (k : Nat) (sp : Sp) : Prop where
  cl : Cls K C
  hp : PropOf K C x p g
  G : FnOk P w K mg base CX0 k g fd ["self"] sp
  b : Binds K fd ["self"] []
def spTrk (C : Addr) : Sp := fun vs H Q _ => ∃ (r : Addr) (tr : List E2), vs = [.ref r] ∧ RailAt C H r tr ∧ ∀ tt ps, H tt = some (.tup (ps.map V.ref)) → Prs H ps tr → Q (.ref tt) H
def spSame (C : Addr) : Sp := fun vs H Q _ => ∃ (r r2 : Addr) (tr tr2 : List E2), vs = [.ref r, .ref r2] ∧ RailAt C H r tr ∧ RailAt C H r2 tr2 ∧ Q (.bl (decide (tr = tr2))) H
def spLine (C : Addr) : Sp := fun vs H Q _ => ∃ (n : Nat), vs = [.ref C, iv (n + 1)] ∧ n ≤ 99 ∧ ∀ (r : Addr) (H' : Hp), H r = none → Same H H' → RailAt C H' r ((List.range n).map fun i => (i, i + 1)) → Q (.ref r) H'
def spStar (C : Addr) : Sp := fun vs H Q _ => ∃ (n : Nat), vs = [.ref C, iv (n + 1)] ∧ n ≤ 99 ∧ ∀ (r : Addr) (H' : Hp), H r = none → Same H H' → RailAt C H' r ((List.range n).map fun i => (0, i + 1)) → Q (.ref r) H'
def spCnt : Sp := fun vs H Q _ => ∃ (n : Nat), vs = [iv (n + 1)] ∧ n ≤ 99 ∧ Q .non H
theorem tree_line (n : Nat) : TreeL ((List.range n).map fun i => (i, i + 1)) := by
  refine tree_drawn (fun e he => ?_) ?_
  · obtain ⟨i, _, rfl⟩ := List.mem_map.mp he
    show i ≠ i + 1
    omega
  · rw [List.map_map, List.length_map, List.length_range, List.range'_eq_map_range]
    refine List.Perm.of_eq (List.map_congr_left fun i _ => ?_)
    show max i (i + 1) = 1 + i
    omega
theorem tree_star (n : Nat) : TreeL ((List.range n).map fun i => (0, i + 1)) := by
  refine tree_drawn (fun e he => ?_) ?_
  · obtain ⟨i, _, rfl⟩ := List.mem_map.mp he
    show 0 ≠ i + 1
    omega
  · rw [List.map_map, List.length_map, List.length_range, List.range'_eq_map_range]
    refine List.Perm.of_eq (List.map_congr_left fun i _ => ?_)
    show max 0 (i + 1) = 1 + i
    omega
theorem nrmS_of {l : List E2} (h : l.Pairwise (fun a b => lexle a b = true)) (h2 : ∀ e ∈ l, e.1 < e.2) : nrmS l = l := by
  have e : l.map nrm = l := by
    have : l.map nrm = l.map id := List.map_congr_left fun e he => nrm_lt (h2 e he)
    rw [this, List.map_id]
  unfold nrmS
  rw [e]
  exact (srt2_of (List.Perm.refl _) h).symm
theorem nrmS_line (n : Nat) : nrmS ((List.range n).map fun i => (i, i + 1)) = (List.range n).map fun i => (i, i + 1) := by
  refine nrmS_of ?_ (fun e he => ?_)
  · rw [List.pairwise_map]
    refine List.pairwise_lt_range.imp fun {a b} h => ?_
    rw [lexle_iff]
    exact .inl h
  · obtain ⟨i, _, rfl⟩ := List.mem_map.mp he
    exact Nat.lt_succ_self i
theorem nrmS_star (n : Nat) : nrmS ((List.range n).map fun i => (0, i + 1)) = (List.range n).map fun i => (0, i + 1) := by
  refine nrmS_of ?_ (fun e he => ?_)
  · rw [List.pairwise_map]
    refine List.pairwise_lt_range.imp fun {a b} h => ?_
    rw [lexle_iff]
    exact .inr ⟨rfl, by show a + 1 ≤ b + 1; omega⟩
  · obtain ⟨i, _, rfl⟩ := List.mem_map.mp he
    exact Nat.succ_pos i
end TR

namespace TR
open PySem PySem.Spec PyProof.Rows L2 L2.TT StX ClX
theorem iv_of {z : Int} {n : Nat} (h : z = (n : Int)) : V.int z = iv n := by rw [h]
/-- for i in range(n): the item is iv i -/
theorem for_rg {n : Nat} {g : TG} {tb : TS} {D : Ends} {σ : L2.St} {H : Hp} (Pv : Nat → L2.St → Hp → Prop) (h0 : Pv 0 σ H)
    (hs : ∀ i σ H, i < n → Pv i σ H → g (iv i) σ H fun σ2 H2 => tb { D with nx := Pv (i + 1), ct := Pv (i + 1), bk := D.nx } σ2 H2) (hd : ∀ σ H, Pv n σ H → D.nx σ H) :
    ∃ W : Nat → Nat → L2.St → Hp → Prop, (∃ m, W 0 m σ H) ∧ ∀ i m σ H, W i m σ H →
      ((Itr 0 n).stop i H ∧ D.nx σ H) ∨ ((Itr 0 n).go i H ∧ ∃ N : L2.St → Hp → Prop, (∀ σ' H', N σ' H' → ∃ m', m' < m ∧ W (i + 1) m' σ' H') ∧ ∀ x H', (Itr 0 n).yld i H x H' → g x σ H' fun σ2 H2 => tb { D with nx := N, ct := N, bk := D.nx } σ2 H2) :=
  for_range (lo := 0) (n := n) Pv h0 (fun i σ H hi p => by rw [Int.zero_add]; exact hs i σ H hi p) hd
theorem lc_rg {n : Nat} {g : TG} {tt : TT} {te : TE} {vs : List Nat} {σ : L2.St} {H1 : Hp} {D : Addr} {Qd : Hp → Prop} (Pv : Nat → Hp → Prop) (h0 : Pv 0 (upd H1 D (.lst [])))
    (hs : ∀ i H, i < n → Pv i H → g (iv i) (wipe σ vs) H fun σ2 H2 => wipe σ2 vs = wipe σ vs ∧ tt σ2 H2 fun b H3 =>
      if b = true then te σ2 H3 fun y H4 => ∃ acc, H4 D = some (.lst acc) ∧ acc.length < sizeLine ∧ Pv (i + 1) (upd H4 D (.lst (acc ++ [y]))) else Pv (i + 1) H3) (hd : ∀ H, Pv n H → Qd H) :
    ∃ W : Nat → Nat → Hp → Prop, (∃ m, W 0 m (upd H1 D (.lst []))) ∧ ∀ i m H, W i m H →
      ((Itr 0 n).stop i H ∧ Qd H) ∨ ((Itr 0 n).go i H ∧ ∃ Nx : Hp → Prop, (∀ H', Nx H' → ∃ m', m' < m ∧ W (i + 1) m' H') ∧ ∀ x H', (Itr 0 n).yld i H x H' → g x (wipe σ vs) H' fun σ2 H2 => wipe σ2 vs = wipe σ vs ∧ tt σ2 H2 fun b H3 =>
        if b = true then te σ2 H3 fun y H4 => ∃ acc, H4 D = some (.lst acc) ∧ acc.length < sizeLine ∧ Nx (upd H4 D (.lst (acc ++ [y]))) else Nx H3) :=
  lc_range (lo := 0) (n := n) Pv h0 (fun i H hi p => by rw [Int.zero_add]; exact hs i H hi p) hd
/-- a list of pairs, sorted -/
theorem sorted_prs {H : Hp} {qs : List Addr} {l : List E2} (h : Prs H qs l) (nd : qs.Nodup) {ys : List V} (hs : SrtO.Srtd (ltP (kfOf qs l)) ys) (hp : ys.Perm (qs.map V.ref)) : ∃ ps, ys = ps.map V.ref ∧ Prs H ps (srt2 l) ∧ ps.Nodup := by
  obtain ⟨ps, rfl, hpm⟩ := refs_perm hp
  have e : ps.map (edOf qs l) = srt2 l := by
    refine srt2_of ?_ ?_
    · have := hpm.map (edOf qs l)
      rw [ed_map h nd] at this
      exact this
    · have h0 : (ps.map V.ref).Pairwise (fun x y => ltP (kfOf qs l) y x = false) := hs
      rw [List.pairwise_map] at h0 ⊢
      refine h0.imp fun {a b} h => ?_
      have h2 := SrtO.lexB_no.mp h
      rw [lexle_iff]
      simp only [kfOf] at h2
      omega
  refine ⟨ps, rfl, ?_, hpm.nodup_iff.mpr nd⟩
  rw [← e]
  refine ⟨(List.length_map _).symm, fun i x y hx hy => ?_⟩
  obtain ⟨x', hx', rfl⟩ := map_got hy
  rw [hx] at hx'
  cases hx'
  exact ed_heap h nd (hpm.mem_iff.mp (List.mem_of_getElem? hx))
theorem kf_items {H : Hp} {qs : List Addr} {l : List E2} (h : Prs H qs l) (nd : qs.Nodup) : ∀ x ∈ qs.map V.ref, ∃ t, x = V.ref t ∧ H t = some (.tup [.int (kfOf qs l x).1, .int (kfOf qs l x).2]) := fun x hx => by
  obtain ⟨q, hq, rfl⟩ := List.mem_map.mp hx
  exact ⟨q, rfl, ed_heap h nd hq⟩
theorem nodup_new {H : Hp} {ps : List Addr} {l : List E2} (h : Prs H ps l) {q : Addr} (nq : H q = none) : q ∉ ps := fun hm => by
  obtain ⟨j, hj⟩ := List.mem_iff_getElem?.mp hm
  have hl := (List.getElem?_eq_some_iff.mp hj).1
  rw [h.1] at hl
  have := h.2 j q _ hj (List.getElem?_eq_getElem hl)
  rw [nq] at this
  cases this
theorem Prs.put {H : Hp} {ps : List Addr} {l : List E2} (h : Prs H ps l) {D : Addr} {xs ys : List V} (hD : H D = some (.lst xs)) : Prs (upd H D (.lst ys)) ps l :=
  ⟨h.1, fun i p e hp he => by
    rw [upd_ne (ne_of (h.2 i p e hp he) hD (by intro z; cases z))]
    exact h.2 i p e hp he⟩
theorem ne_str {a b : Str} (h : a = b) : (!decide (V.str a = V.str b)) = false := by
  rw [h]
  simp
theorem ne_int {a b : Int} (h : a = b) : (!decide (V.int a = V.int b)) = false := by
  rw [h]
  simp
theorem nd_snocA {l : List Addr} {x : Addr} (h : l.Nodup) (hx : x ∉ l) : (l ++ [x]).Nodup := by
  rw [List.nodup_append]
  refine ⟨h, by simp, fun u hu v hv => ?_⟩
  rw [List.mem_singleton] at hv
  rintro rfl
  exact hx (hv ▸ hu)
end TR

namespace L2.TT
open PySem PySem.Spec PyProof.Rows
theorem cat_tup0 {prog : Program} {w : World} {A : Around} {E : Value → Shared → Prop} {s : Shared} {t b : Addr} {ws : List Value} {Q : Value → Shared → Prop} (ht : IsTup s.heap t ([] : List Value).toArray) (hb : IsTup s.heap b ws.toArray) (h0 : Q (.ref b) s) : wpAny (model prog w) A (binaryOp .Add (.ref t) (.ref b)) Q E s := by
  obtain ⟨⟨cls, dd, data, sl⟩, ho, hc, n, hd⟩ := id ht
  obtain ⟨⟨cls2, dd2, data2, sl2⟩, ho2, hc2, n2, hd2⟩ := id hb
  simp only at hc hd hc2 hd2
  subst hc hd hc2 hd2
  exact concat_meets ⟨_, ho, rfl⟩ ⟨_, ho2, rfl⟩ noFill_tuple_add seq_tuple_add PySem.F.slot_tuple_add PySem.F.entry_tuple_add (PySem.F.args_tuple_add_2 _ _)
    (tuple_addW0 t b ([] : List Value).toArray ws.toArray n n2 dd dd2 sl sl2 (by simp)) ⟨ho, ho2, h0⟩
/-- t + u, each may be empty -/
def rCatTA (K : PySem.W.Frag) : R2 := fun x y H Q => ∃ a b xs ys, x = .ref a ∧ y = .ref b ∧ SqT K H a xs ∧ SqT K H b ys ∧ xs.length + ys.length ≤ sizeLine ∧
  (xs = [] → Q (.ref b) H) ∧ (xs ≠ [] → ys = [] → Q (.ref a) H) ∧ (xs ≠ [] → ys ≠ [] → ∀ p, H p = none → Q (.ref p) (upd H p (.tup (xs ++ ys))))
theorem op_catTA {X : Cx} : OpR X (binaryOp .Add) (rCatTA X.K) := by
  intro pins s σ H x y v u Q I rx ry h
  obtain ⟨a, b, xs, ys, rfl, rfl, ha, hb, hz, q0, q1, q2⟩ := h
  by_cases hx : xs = []
  · cases rx
    cases ry
    obtain ⟨its, r1, p1, _⟩ := I.tuple ha
    obtain ⟨its2, r2, p2, _⟩ := I.tuple hb
    have e : its = [] := r1.nil_iff.mpr hx
    subst e
    exact cat_tup0 p1 p2 ⟨.ref b, H, I, rfl, q0 hx⟩
  · exact op_catT pins s σ H _ _ _ _ Q I rx ry ⟨a, b, xs, ys, rfl, rfl, ha, hb, hx, hz, q1 hx, q2 hx⟩
/-- t + u: in each case a tuple of both -/
theorem catTA_uni {K : PySem.W.Frag} {H : Hp} {Q : VK} {a b : Addr} {xs ys : List V} (ha : H a = some (.tup xs)) (hb : H b = some (.tup ys)) (hz : xs.length + ys.length ≤ sizeLine) (k : ∀ p H', Same H H' → H' p = some (.tup (xs ++ ys)) → Q (.ref p) H') : rCatTA K (.ref a) (.ref b) H Q := by
  refine ⟨a, b, xs, ys, rfl, rfl, SqT.of ha, SqT.of hb, hz, fun e => ?_, fun _ e => ?_, fun _ _ p np => k p _ (TR.same_upd np _) upd_same⟩
  · subst e
    exact k b H (Same.refl _) hb
  · subst e
    exact k a H (Same.refl _) (by rw [List.append_nil]; exact ha)
end L2.TT

namespace L2.TT
open PySem PySem.Spec PyProof.Rows PySem.W
/-- repr(v), v plain data -/
def rReprV (K : Frag) : List V → Hp → VK → Prop := fun xs H Q => ∃ (v : V) (d : PyData), xs = [v] ∧ Dp K H v d ∧ d.canLay0 = true ∧ d.showable = true ∧ d.leavesShort 60 = true ∧ d.weight ≤ 900 ∧ d.depth ≤ 20 ∧ Q (.str d.shown) H
theorem shown_fit60 {d : PyData} (hb : d.leavesShort 60 = true) (hw : d.weight ≤ 1000) : d.shown.length ≤ sizeLine := by
  have h := PyData.shown_le 60 (by decide) d hb
  rw [sizeLine_eq]
  omega
theorem sk_all {K : Frag} {H : Hp} : ∀ {ds : List PyData} {vs : List V}, DpAll K H vs ds → PyData.canLayAll0 ds = true → PyData.showableAll ds = true → PyData.leavesShortAll 60 ds = true → PyData.weightAll ds ≤ 1000 → Paired (SK K H) vs ds
  | [], _, h, _, _, _, _ => by
    cases h
    exact .nil
  | d :: ds, _, h, c1, c2, c3, c4 => by
    cases h with
    | cons h1 h2 =>
      simp only [PyData.canLayAll0, Bool.and_eq_true] at c1
      simp only [PyData.showableAll, Bool.and_eq_true] at c2
      simp only [PyData.leavesShortAll, Bool.and_eq_true] at c3
      simp only [PyData.weightAll] at c4
      exact .cons (SK.dp h1 c1.1 c2.1 (shown_fit60 c3.1 (by omega))) (sk_all h2 c1.2 c2.2 c3.2 (by omega))
theorem call_reprV {X : Cx} (hg : X.A.guards = some []) (hu : X.A.units + 64 < cLine) : CallR X (.builtin "repr") (rReprV X.K) := by
  intro pins s σ H xs us Q I r h
  obtain ⟨v, d, rfl, hd, hc, hs, hb, hw, hp, q⟩ := h
  obtain ⟨u, rfl, ru⟩ := vals1 r
  have fit := shown_fit60 hb (by omega)
  cases hd with
  | non =>
    cases ru
    exact P.repr_of_none ⟨.str "None", H, I.tok _, ⟨_, rfl⟩, q⟩
  | bl b =>
    cases ru
    exact P.repr_of_bool ⟨.str (PyData.shown (.bool b)), H, I.tok _, ⟨_, rfl⟩, q⟩
  | int i =>
    obtain ⟨t, rfl⟩ := ru
    have hi : i.natAbs.log2 < 1920 := by simpa only [PyData.showable, decide_eq_true_eq] using hs
    exact P.repr_of_int hi ⟨.str (PyData.shown (.int i)), H, I.tok _, ⟨_, rfl⟩, q⟩
  | str x =>
    obtain ⟨t, rfl⟩ := ru
    exact P.repr_of_str ⟨.str (PyData.shown (.str x)), H, I.tok _, ⟨_, rfl⟩, q⟩ (hsz := fit)
  | @lst a vs ds hl hd =>
    refine call_repr60 hg hu pins s σ H _ _ Q I (.cons ru .nil) ⟨a, vs, ds, rfl, hl, .inl ⟨hd, hc⟩, hs, hb, ?_, ?_, q⟩
    · simp only [PyData.weight] at hw
      omega
    · simp only [PyData.depth] at hp
      omega
  | @tup a vs ds hl hd =>
    cases ru
    obtain ⟨its, rv, ⟨o, ho, hcl, n, hda⟩, hz⟩ := I.tuple hl
    obtain ⟨bs0, as0, f1, f2, f3⟩ := SK.all rfl I (vs := vs) (ds := ds) (by
      refine sk_all hd hc hs hb ?_
      simp only [PyData.weight] at hw
      omega) rv
    have hna : a ∉ bs0 := not_mem_of_deeper (.tuple ho hcl hda f1) (by simp only [PyData.depth]; omega) f2
    simp only [PyData.shown] at q fit
    refine call_repr_slot (by omega) ⟨o, ho, hcl⟩ F.slot_tuple_repr ?_
    refine call_tuple_reprK ho hcl hda hna (by simpa using f3) hg (fun b _ => Clear.nil b) (by show X.A.units + 1 + _ < cLine; simp only [PyData.depth] at hp; omega) (fun _ _ e => e) (fun h' u tk k => ?_) fit
    exact ⟨_, _, rfl, .str (tupleText (PyData.shownAll ds)), H, I.kept k, ⟨u, rfl⟩, q⟩
end L2.TT

namespace TR
open PySem PySem.Spec PyProof.Rows L2 L2.TT StX ClX
theorem pr_app {α β : Type} {R : α → β → Prop} : ∀ {l l2 : List α} {m m2 : List β}, Paired R l m → Paired R l2 m2 → Paired R (l ++ l2) (m ++ m2)
  | _, _, _, _, .nil, h => h
  | _, _, _, _, .cons h t, h2 => .cons h (pr_app t h2)
theorem pr_of {α β γ : Type} {R : β → γ → Prop} {f : α → β} {g : α → γ} : ∀ {l : List α}, (∀ x ∈ l, R (f x) (g x)) → Paired R (l.map f) (l.map g)
  | [], _ => .nil
  | x :: l, h => .cons (h x (by simp)) (pr_of fun y hy => h y (List.mem_cons_of_mem _ hy))
/-- plain data that may be shown -/
structure Pln (K : PySem.W.Frag) (H : Hp) (v : V) (d : PyData) : Prop where
  dp : Dp K H v d
  cl : d.canLay0 = true
  sh : d.showable = true
  lv : d.leavesShort 60 = true
  wt : d.weight ≤ 900
  de : d.depth ≤ 20
theorem Pln.same {K : PySem.W.Frag} {H H' : Hp} {v : V} {d : PyData} (p : Pln K H v d) (s : Same H H') : Pln K H' v d := ⟨dp_same s d v p.dp, p.cl, p.sh, p.lv, p.wt, p.de⟩
/-- one flat item -/
structure FlI (v : V) (d : PyData) : Prop where
  dp : ∀ K H, Dp K H v d
  cl : d.canLay0 = true
  sh : d.showable = true
  lv : d.leavesShort 60 = true
  wt : d.weight ≤ 12
  de : d.depth = 0
theorem FlI.non : FlI .non .none := ⟨fun _ _ => .non, rfl, rfl, rfl, by decide, rfl⟩
theorem FlI.bl (b : Bool) : FlI (.bl b) (.bool b) := ⟨fun _ _ => .bl b, rfl, rfl, rfl, by show 0 ≤ 12; decide, rfl⟩
theorem FlI.int {i : Int} (h1 : -1000 ≤ i) (h2 : i ≤ 1000) : FlI (.int i) (.int i) := by
  obtain ⟨a, b, c, d⟩ := int_show h1 h2
  refine ⟨fun _ _ => .int i, rfl, a, ?_, by omega, d⟩
  simp only [PyData.leavesShort, decide_eq_true_eq] at b ⊢
  omega
theorem FlI.iv {n : Nat} (h : n ≤ 1000) : FlI (iv n) (di n) := FlI.int (by omega) (by omega)
theorem FlI.str {x : Str} (h0 : (PyData.str x).canLay0 = true) (h1 : x.cps.size ≤ 12) (h2 : (x.cps.toList.all fun c => decide (c < 16 ^ 8)) = true) : FlI (.str x) (.str x) := ⟨fun _ _ => .str x, h0, rfl, h2, h1, rfl⟩
theorem FlI.all {K : PySem.W.Frag} {H : Hp} : ∀ {ds : List PyData} {vs : List V}, Paired FlI vs ds → DpAll K H vs ds ∧ PyData.canLayAll0 ds = true ∧ PyData.showableAll ds = true ∧ PyData.leavesShortAll 60 ds = true ∧ PyData.weightAll ds ≤ 13 * vs.length ∧ PyData.depthAll ds = 0
  | [], _, h => by
    cases h
    exact ⟨.nil, rfl, rfl, rfl, Nat.le_refl _, rfl⟩
  | d :: ds, _, h => by
    cases h with
    | @cons v _ vs _ h t =>
      obtain ⟨a1, a2, a3, a4, a5, a6⟩ := FlI.all (K := K) (H := H) t
      refine ⟨.cons (h.dp K H) a1, ?_, ?_, ?_, ?_, ?_⟩
      · simp only [PyData.canLayAll0, h.cl, a2, Bool.and_self]
      · simp only [PyData.showableAll, h.sh, a3, Bool.and_self]
      · simp only [PyData.leavesShortAll, h.lv, a4, Bool.and_self]
      · simp only [PyData.weightAll, List.length_cons]
        have := h.wt
        omega
      · simp only [PyData.depthAll, h.de, a6]
        rfl
theorem FlI.pln {K : PySem.W.Frag} {H : Hp} {v : V} {d : PyData} (h : FlI v d) : Pln K H v d := ⟨h.dp K H, h.cl, h.sh, h.lv, by have := h.wt; omega, by have := h.de; omega⟩
theorem pln_tup {K : PySem.W.Frag} {H : Hp} {p : Addr} {xs : List V} {ds : List PyData} (hp : SqT K H p xs) (h : Paired FlI xs ds) (hl : xs.length ≤ 60) : Pln K H (.ref p) (.tuple ds) := by
  obtain ⟨a1, a2, a3, a4, a5, a6⟩ := FlI.all (K := K) (H := H) h
  exact ⟨.tup hp a1, a2, a3, a4, by simp only [PyData.weight]; omega, by simp only [PyData.depth]; omega⟩
theorem pln_lst {K : PySem.W.Frag} {H : Hp} {p : Addr} {xs : List V} {ds : List PyData} (hp : SqL K H p xs) (h : Paired FlI xs ds) (hl : xs.length ≤ 60) : Pln K H (.ref p) (.list ds) := by
  obtain ⟨a1, a2, a3, a4, a5, a6⟩ := FlI.all (K := K) (H := H) h
  exact ⟨.lst hp a1, a2, a3, a4, by simp only [PyData.weight]; omega, by simp only [PyData.depth]; omega⟩
theorem fl_ints {o : List Nat} (h : ∀ x ∈ o, x ≤ 1000) : Paired FlI (o.map iv) (o.map di) := pr_of fun x hx => FlI.iv (h x hx)
theorem cut_to {xs : List V} {z : Nat} (hz : z ≤ xs.length) : cutV xs none (some (z : Int)) = xs.take z := by
  unfold cutV
  rw [HT.sIx_nat, HT.sIx_none, Nat.min_eq_left hz, List.drop_zero, Nat.sub_zero]
theorem cut_from {xs : List V} {z : Nat} (hz : z ≤ xs.length) : cutV xs (some (z : Int)) none = xs.drop z := by
  unfold cutV
  rw [HT.sIx_nat, HT.sIx_none, Nat.min_eq_left hz]
  exact List.take_of_length_le (by rw [List.length_drop]; exact Nat.le_refl _)
/-- t[:z], not the whole -/
theorem slT_to {K : PySem.W.Frag} {H : Hp} {Q : VK} {a : Addr} {xs : List V} {z : Nat} (ha : SqT K H a xs) (hz : z < xs.length) (k : ∀ p, H p = none → Q (.ref p) (upd H p (.tup (xs.take z)))) : rSlT K (.ref a) none (some (z : Int)) H Q := by
  refine ⟨a, xs, rfl, ha, fun ⟨_, h⟩ => ?_, fun p np => by rw [cut_to (Nat.le_of_lt hz)]; exact k p np⟩
  rw [HT.sIx_nat] at h
  omega
/-- t[z:], not the whole -/
theorem slT_from {K : PySem.W.Frag} {H : Hp} {Q : VK} {a : Addr} {xs : List V} {z : Nat} (ha : SqT K H a xs) (h0 : 0 < z) (hz : z ≤ xs.length) (h1 : 0 < xs.length) (k : ∀ p, H p = none → Q (.ref p) (upd H p (.tup (xs.drop z)))) : rSlT K (.ref a) (some (z : Int)) none H Q := by
  refine ⟨a, xs, rfl, ha, fun ⟨h, _⟩ => ?_, fun p np => by rw [cut_from hz]; exact k p np⟩
  rw [HT.sIx_nat] at h
  omega
/-- the digits of a small number -/
theorem fl_num {n : Nat} (h : n ≤ 100) : FlI (.str (Str.ofString (toString (n : Int)))) (.str (Str.ofString (toString (n : Int)))) := by
  have : ∀ n : Nat, n < 101 → (PyData.str (Str.ofString (toString (n : Int)))).canLay0 = true ∧ (Str.ofString (toString (n : Int))).cps.size ≤ 12 ∧ ((Str.ofString (toString (n : Int))).cps.toList.all fun c => decide (c < 16 ^ 8)) = true := by decide +kernel
  obtain ⟨a, b, c⟩ := this n (by omega)
  exact FlI.str a b c
end TR

namespace TR
open PySem PySem.Spec PyProof.Rows L2 L2.TT StX ClX
/-- t[z:] -/
theorem slT_fromU {K : PySem.W.Frag} {H : Hp} {Q : VK} {a : Addr} {xs : List V} {z : Nat} (ha : H a = some (.tup xs)) (hz : z ≤ xs.length) (k : ∀ p H', Same H H' → H' p = some (.tup (xs.drop z)) → Q (.ref p) H') : rSlA K (.ref a) (some (z : Int)) none H Q := by
  refine ⟨a, xs, rfl, SqT.of ha, fun ⟨h, _⟩ => ?_, fun _ p np => by rw [cut_from hz]; exact k p _ (same_upd np _) upd_same⟩
  rw [HT.sIx_nat] at h
  have h0 : z = 0 := by omega
  subst h0
  exact k a H (Same.refl _) (by rw [List.drop_zero]; exact ha)
/-- t[:z] -/
theorem slT_toU {K : PySem.W.Frag} {H : Hp} {Q : VK} {a : Addr} {xs : List V} {z : Nat} (ha : H a = some (.tup xs)) (hz : z ≤ xs.length) (k : ∀ p H', Same H H' → H' p = some (.tup (xs.take z)) → Q (.ref p) H') : rSlA K (.ref a) none (some (z : Int)) H Q := by
  refine ⟨a, xs, rfl, SqT.of ha, fun ⟨_, h⟩ => ?_, fun _ p np => by rw [cut_to hz]; exact k p _ (same_upd np _) upd_same⟩
  rw [HT.sIx_nat] at h
  have h0 : z = xs.length := by omega
  subst h0
  exact k a H (Same.refl _) (by rw [List.take_length]; exact ha)
end TR

namespace TR
open PySem PySem.Spec PyProof.Rows L2 L2.TT StX ClX
def spLBh (C : Addr) : Sp := fun vs H Q _ => ∃ (r : Addr) (tr : List E2) (a b : Nat), vs = [.ref r, iv a, iv b] ∧ RailAt C H r tr ∧ a ≤ tr.length ∧ b ≤ tr.length ∧ a ≠ b ∧
  ∀ (fl : Addr) (fs : List Addr) (l : List Nat) (x : Nat) (H' : Hp), Same H H' → SW tr a b l → l[1]? = some x → H' fl = some (.lst (fs.map V.ref)) → fs.length = ht tr a (some x) → Q (.ref fl) H'
def spDBh (C : Addr) : Sp := fun vs H Q _ => ∃ (r : Addr) (tr : List E2) (a b : Nat), vs = [.ref r, iv a, iv b] ∧ RailAt C H r tr ∧ a ≤ tr.length ∧ b ≤ tr.length ∧ a ≠ b ∧ ∀ (l : List Nat) (x : Nat) (H' : Hp), Same H H' → SW tr a b l → l[1]? = some x → Q (iv (dph tr a x)) H'
section
variable {P : Program} {w : World} {K : PySem.W.Frag} {mg : Str → Option Value} {base : Heap}
abbrev N_sc_lbh : List Str := ["railway", "station", "seen_from"]
theorem sc_lbh : FnScope N_sc_lbh ["railway", "station", "seen_from"] (defScope s_layers_behind) := ⟨rfl, rfl, rfl, by decide +kernel, rfl, by decide +kernel, by decide +kernel⟩
theorem ok_lbh {f fc fp fl C : Addr} {fd fdc fdp fdl : FuncData} (F : Fun K "_layers_behind" "_layers_behind" s_layers_behind f fd) (X : TxtR K mg C) (U0 : Use P w K mg base CX0 4 "check_station" fc fdc ["railway", "station"] (spChkSt C)) (UL : Use P w K mg base CX0 6 "layers" fl fdl ["railway", "station", "barred"] (spLayers C))
    (Mp : MU P w K mg base C 5 "path" fp fdp ["self", "one", "other"] (spPath C)) : FnOk P w K mg base CX0 7 f fd ["railway", "station", "seen_from"] (spLBh C) := by
  refine F.ok sc_lbh (fun vs H Q E h => ?_) (fun cdv A outer s H vs Q E hr h => ?_)
  · obtain ⟨r, tr, a, b, rfl, _⟩ := h
    rfl
  · obtain ⟨r, tr, a, b, rfl, R, ha, hb, ne, k⟩ := h
    have hr4 : Room 4 (A.deeper (envOfC "_layers_behind" (defScope s_layers_behind) s.heap.objs.size f cdv)) := hr.mono (by decide)
    have hr5 : Room 5 (A.deeper (envOfC "_layers_behind" (defScope s_layers_behind) s.heap.objs.size f cdv)) := hr.mono (by decide)
    refine ⟨_, (pss_cons (ps_expr (pe_use U0 hr4 (by rfl) (pa_cons (pv 0) (pa_cons (pv 1) pa_nil))))
        (pss_cons (ps_expr (pe_use U0 hr4 (by rfl) (pa_cons (pv 0) (pa_cons (pv 2) pa_nil))))
        (pss_cons (ps_if (pt_cmpR op_eq (pv 1) (pv 2) (nomark _)) (pss_one L2.ps_never) pss_nil)
        (pss_one (ps_ret (pe_use UL hr (by rfl) (pa_cons (pv 0) (pa_cons (pv 1) (pa_cons (pe_ix ix_tup (pe_meth (pv 0) X.cl Mp.m Mp.G hr5 Mp.b .nil pass0 (pa_cons (pv 1) (pa_cons (pv 2) pa_nil))) pe_int (fun _ _ => rfl)) pa_nil))))))))), ?_⟩
    obtain ⟨T, few, dx, tt, na, Aa, L, ps, ts, h1, h2⟩ := id R
    refine ⟨_, rfl, _, rfl, r, tr, a, rfl, R, ha, _, rfl, _, rfl, r, tr, b, rfl, R, hb, _, rfl, _, rfl, rfl, _, rfl, ?_⟩
    rw [show decide (iv a = iv b) = false from decide_eq_false fun z => ne (iv_inj.mp z)]
    refine iteF ?_
    refine ⟨_, rfl, _, rfl, _, rfl, r, dx, _, rfl, h1, flR_no (by decide +kernel) (by decide +kernel) (by decide +kernel) (by decide +kernel), _, rfl, _, rfl, r, tr, a, b, rfl, R, ha, hb, fun l p H' sw s1 np hp => ?_⟩
    have two := sw_two sw ne
    obtain ⟨x, y, l', rfl⟩ : ∃ x y l', l = x :: y :: l' := by
      match l, two with
      | x :: y :: l', _ => exact ⟨x, y, l', rfl⟩
    refine ⟨p, _, _, iv y, rfl, rfl, SqT.of hp, atN (n := 1) rfl, ?_⟩
    refine ⟨r, tr, a, some y, rfl, R.same s1, ha, fun fl fs H2 s2 hfl _ hne hnil => ?_⟩
    exact k fl fs _ y H2 (s1.trans s2) sw rfl hfl (ht_eq hnil hne).symm
abbrev N_sc_dbh : List Str := ["railway", "station", "seen_from"]
theorem sc_dbh : FnScope N_sc_dbh ["railway", "station", "seen_from"] (defScope s_depth_behind) := ⟨rfl, rfl, rfl, by decide +kernel, rfl, by decide +kernel, by decide +kernel⟩
theorem ok_dbh {f fb C : Addr} {fd fdb : FuncData} (F : Fun K "depth_behind" "depth_behind" s_depth_behind f fd) (N : Nm mg) (U : Use P w K mg base CX0 7 "_layers_behind" fb fdb ["railway", "station", "seen_from"] (spLBh C)) : FnOk P w K mg base CX0 8 f fd ["railway", "station", "seen_from"] (spDBh C) := by
  refine F.ok sc_dbh (fun vs H Q E h => ?_) (fun cdv A outer s H vs Q E hr h => ?_)
  · obtain ⟨r, tr, a, b, rfl, _⟩ := h
    rfl
  · obtain ⟨r, tr, a, b, rfl, R, ha, hb, ne, k⟩ := h
    refine ⟨_, (pss_one (ps_ret (pe_op op_sub (pe_callB call_len_seq (by rfl) N.len boot_len (pa_cons (pe_use U hr (by rfl) (pa_cons (pv 0) (pa_cons (pv 1) (pa_cons (pv 2) pa_nil)))) pa_nil)) pe_int))), ?_⟩
    refine ⟨_, rfl, _, rfl, _, rfl, r, tr, a, b, rfl, R, ha, hb, ne, fun fl fs l x H1 s1 sw hx hfl hf => ?_⟩
    refine ⟨fl, _, rfl, .inl (SqL.of hfl), _, _, rfl, rfl, ?_⟩
    have e : V.int (((fs.map V.ref).length : Int) - 1) = iv (dph tr a x) := by
      have hp := ht_pos R.T (b := some x) ha
      rw [List.length_map, hf]
      show V.int _ = V.int ((ht tr a (some x) - 1 : Nat) : Int)
      congr 1
      omega
    show Q (V.int (((fs.map V.ref).length : Int) - 1)) H1
    rw [e]
    exact k l x H1 s1 sw hx
end
end TR


namespace TR
open PySem PySem.Spec PyProof.Rows L2 L2.TT StX ClX
/-- the objects at ps, one for each of xs -/
structure Lay {α : Type} (R : Hp → Addr → α → Prop) (H : Hp) (ps : List Addr) (xs : List α) : Prop where
  len : ps.length = xs.length
  at_ : ∀ (i : Nat) (p : Addr) (x : α), ps[i]? = some p → xs[i]? = some x → R H p x
/-- what is laid stays so -/
def Firm {α : Type} (R : Hp → Addr → α → Prop) : Prop := ∀ H H' p x, Same H H' → R H p x → R H' p x
section
variable {α : Type} {R : Hp → Addr → α → Prop} {H H' : Hp} {ps qs : List Addr} {xs ys : List α}
theorem Lay.nil : Lay R H [] [] := ⟨rfl, fun _ _ _ h => nomatch h⟩
theorem Lay.same (f : Firm R) (h : Lay R H ps xs) (s : Same H H') : Lay R H' ps xs := ⟨h.len, fun i p x a b => f _ _ _ _ s (h.at_ i p x a b)⟩
theorem Lay.app (h : Lay R H ps xs) (k : Lay R H qs ys) : Lay R H (ps ++ qs) (xs ++ ys) := by
  refine ⟨by rw [List.length_append, List.length_append, h.len, k.len], fun i p x hp hx => ?_⟩
  by_cases c : i < ps.length
  · rw [List.getElem?_append_left c] at hp
    rw [List.getElem?_append_left (by rw [← h.len]; exact c)] at hx
    exact h.at_ i p x hp hx
  · rw [List.getElem?_append_right (by omega)] at hp
    rw [List.getElem?_append_right (by rw [← h.len]; omega), ← h.len] at hx
    exact k.at_ _ p x hp hx
theorem Lay.one {p : Addr} {x : α} (h : R H p x) : Lay R H [p] [x] := by
  refine ⟨rfl, fun i q y hq hy => ?_⟩
  cases i with
  | zero =>
    cases hq
    cases hy
    exact h
  | succ i => cases hq
theorem Lay.snoc {p : Addr} {x : α} (h : Lay R H ps xs) (k : R H p x) : Lay R H (ps ++ [p]) (xs ++ [x]) := h.app (.one k)
theorem Lay.cons {p : Addr} {x : α} (h : Lay R H ps xs) (k : R H p x) : Lay R H (p :: ps) (x :: xs) := (Lay.one k).app h
theorem Lay.get (h : Lay R H ps xs) {i : Nat} {v : V} (hv : (ps.map V.ref)[i]? = some v) : ∃ p x, v = .ref p ∧ ps[i]? = some p ∧ xs[i]? = some x ∧ R H p x := by
  obtain ⟨p, hp, rfl⟩ := map_got hv
  have lt : i < xs.length := by
    have := (List.getElem?_eq_some_iff.mp hp).1
    rw [h.len] at this
    exact this
  exact ⟨p, xs[i], rfl, hp, List.getElem?_eq_getElem lt, h.at_ i p _ hp (List.getElem?_eq_getElem lt)⟩
theorem Lay.of (h : Lay R H ps xs) {i : Nat} {x : α} (hx : xs[i]? = some x) : ∃ p, ps[i]? = some p ∧ R H p x := by
  have lt : i < ps.length := by
    have := (List.getElem?_eq_some_iff.mp hx).1
    rw [h.len]
    exact this
  exact ⟨ps[i], List.getElem?_eq_getElem lt, h.at_ i _ x (List.getElem?_eq_getElem lt) hx⟩
theorem Lay.take (h : Lay R H ps xs) (n : Nat) : Lay R H (ps.take n) (xs.take n) := by
  refine ⟨by rw [List.length_take, List.length_take, h.len], fun i p x hp hx => ?_⟩
  rw [List.getElem?_take] at hp hx
  by_cases c : i < n
  · rw [if_pos c] at hp hx
    exact h.at_ i p x hp hx
  · rw [if_neg c] at hp
    cases hp
theorem Lay.drop (h : Lay R H ps xs) (n : Nat) : Lay R H (ps.drop n) (xs.drop n) := by
  refine ⟨by rw [List.length_drop, List.length_drop, h.len], fun i p x hp hx => ?_⟩
  rw [List.getElem?_drop] at hp hx
  exact h.at_ _ p x hp hx
theorem Lay.rev (h : Lay R H ps xs) : Lay R H ps.reverse xs.reverse := by
  refine ⟨by rw [List.length_reverse, List.length_reverse, h.len], fun i p x hp hx => ?_⟩
  have lt : i < ps.length := by
    have := (List.getElem?_eq_some_iff.mp hp).1
    rw [List.length_reverse] at this
    exact this
  rw [List.getElem?_reverse lt] at hp
  rw [List.getElem?_reverse (by rw [← h.len]; exact lt), ← h.len] at hx
  exact h.at_ _ p x hp hx
end
theorem Lay.map {α : Type} {R R' : Hp → Addr → α → Prop} {H H' : Hp} {ps : List Addr} {xs : List α} (h : Lay R H ps xs) (k : ∀ p x, x ∈ xs → R H p x → R' H' p x) : Lay R' H' ps xs := ⟨h.len, fun i p x a b => k p x (List.mem_of_getElem? b) (h.at_ i p x a b)⟩
/-- .. also where a list is written anew -/
def Tupy {α : Type} (R : Hp → Addr → α → Prop) : Prop := ∀ H (D : Addr) (xs ys : List V) p x, H D = some (.lst xs) → R H p x → R (upd H D (.lst ys)) p x
/-- a list of new objects, while it grows -/
structure Acc {α : Type} (R : Hp → Addr → α → Prop) (H1 H' : Hp) (D : Addr) (qs : List Addr) (xs : List α) : Prop where
  own : H' D = some (.lst (qs.map V.ref))
  sm : Same H1 H'
  lay : Lay R H' qs xs
theorem Acc.start {α : Type} {R : Hp → Addr → α → Prop} {H1 : Hp} {D : Addr} (nD : H1 D = none) : Acc R H1 (upd H1 D (.lst [])) D [] [] := ⟨upd_same, same_upd nD _, .nil⟩
theorem Acc.push {α : Type} {R : Hp → Addr → α → Prop} (f : Firm R) (t : Tupy R) {H1 H' H2 : Hp} {D q : Addr} {qs : List Addr} {xs : List α} {x : α} (a : Acc R H1 H' D qs xs) (nD : H1 D = none) (s : Same H' H2) (h : R H2 q x) :
    Acc R H1 (upd H2 D (.lst (qs.map V.ref ++ [V.ref q]))) D (qs ++ [q]) (xs ++ [x]) := by
  have hD := s _ _ a.own
  refine ⟨by rw [upd_same, List.map_append]; rfl, same_old (a.sm.trans s) nD _, ?_⟩
  have l := (a.lay.same f s).snoc h
  exact ⟨l.len, fun i p y hp hy => t _ _ _ _ _ _ hD (l.at_ i p y hp hy)⟩
theorem Acc.later {α : Type} {R : Hp → Addr → α → Prop} (f : Firm R) {H1 H' H2 : Hp} {D : Addr} {qs : List Addr} {xs : List α} (a : Acc R H1 H' D qs xs) (s : Same H' H2) : Acc R H1 H2 D qs xs := ⟨s _ _ a.own, a.sm.trans s, a.lay.same f s⟩
/-- the word of an end -/
def mvw (e : Bool) : Str := if e then "head" else "tail"
def MvR (H : Hp) (p : Addr) (m : Mv) : Prop := H p = some (.tup [.str (mvw m.1), iv m.2])
def BdR (H : Hp) (p : Addr) (l : List Nat) : Prop := H p = some (.tup (l.map iv))
theorem firmM : Firm MvR := fun _ _ _ _ s h => s _ _ h
theorem firmB : Firm BdR := fun _ _ _ _ s h => s _ _ h
theorem tupyM : Tupy MvR := fun _ _ _ _ _ _ hD h => by
  unfold MvR at h ⊢
  rw [upd_ne (ne_of h hD (by intro z; cases z))]
  exact h
theorem tupyB : Tupy BdR := fun _ _ _ _ _ _ hD h => by
  unfold BdR at h ⊢
  rw [upd_ne (ne_of h hD (by intro z; cases z))]
  exact h
theorem mvw_eq (a b : Bool) : decide (mvw a = mvw b) = decide (a = b) := by cases a <;> cases b <;> decide +kernel
theorem mvw_hd (a : Bool) : decide (mvw a = ("head" : Str)) = a := by cases a <;> decide +kernel
/-- the rules of a comprehension, K given -/
theorem in_K {X : Cx} {K : PySem.W.Frag} (h : X.K = K) : OpR X (compareOp .In) (rIn K false) := by
  subst h
  exact op_in_seq
theorem nin_K {X : Cx} {K : PySem.W.Frag} (h : X.K = K) : OpR X (compareOp .NotIn) (rIn K true) := by
  subst h
  exact op_notIn_seq
theorem iv_flat (l : List Nat) : (l.map iv).all flatV = true := by
  rw [List.all_eq_true]
  intro x hx
  obtain ⟨n, _, rfl⟩ := List.mem_map.mp hx
  rfl
theorem inV_iv (w : Nat) (l : List Nat) : inV (iv w) (l.map iv) = decide (w ∈ l) := by
  unfold inV
  induction l with
  | nil => rfl
  | cons a r ih =>
    rw [List.map_cons, List.any_cons, ih]
    by_cases c : a = w
    · subst c
      rw [show eqV (iv a) (iv a) = true from by show ((a : Int) == (a : Int)) = true; exact beq_self_eq_true _]
      simp
    · rw [show eqV (iv a) (iv w) = false from by show ((a : Int) == (w : Int)) = false; exact beq_eq_false_iff_ne.mpr (by omega)]
      have : (w ∈ a :: r) ↔ w ∈ r := by
        rw [List.mem_cons]
        exact ⟨fun h => h.resolve_left (fun z => c z.symm), .inr⟩
      rw [Bool.false_or]
      exact (decide_eq_decide.mpr this).symm
end TR

namespace TR
section
variable {tr : List E2}
/-- whether a list is a path of at least two stations -/
noncomputable def isLn (tr : List E2) (l : List Nat) : Bool := decide (2 ≤ l.length) && decide (pl tr (hd0 l) (lt0 l) = l)
theorem isLn_bd (T : TreeL tr) {l : List Nat} (hl : ∀ z ∈ l, z ≤ tr.length) (h : isLn tr l = true) : Bd tr l := by
  unfold isLn at h
  rw [Bool.and_eq_true] at h
  have h2 := of_decide_eq_true h.1
  have h3 := of_decide_eq_true h.2
  obtain ⟨x, r, e⟩ : ∃ x r, l = x :: r := by
    match l, h2 with
    | x :: r, _ => exact ⟨x, r, rfl⟩
  have m1 : hd0 l ∈ l := by
    rw [e]
    exact List.mem_cons_self
  have m2 : lt0 l ∈ l := by
    unfold lt0
    rw [List.getLastD_eq_getLast?]
    cases e2 : l.getLast? with
    | none =>
      rw [List.getLast?_eq_none_iff.mp e2] at e
      cases e
    | some z => exact List.mem_of_getLast? e2
  obtain ⟨m, sw, _⟩ := sw_ex T (hl _ m1) (hl _ m2)
  rw [pl_eq T sw] at h3
  subst h3
  exact ⟨sw, h2, hl⟩
theorem isLn_of (T : TreeL tr) {l : List Nat} (b : Bd tr l) : isLn tr l = true := by
  unfold isLn
  rw [pl_eq T b.sw, decide_eq_true b.two, decide_eq_true rfl]
  rfl
/-- a list of different stations, each a neighbour of the one before it -/
theorem isLn_iff (T : TreeL tr) {l : List Nat} (hl : ∀ z ∈ l, z ≤ tr.length) : isLn tr l = true ↔ 2 ≤ l.length ∧ l.Nodup ∧ Wk tr l := by
  constructor
  · intro h
    have b := isLn_bd T hl h
    exact ⟨b.two, b.sw.nd, b.sw.wk⟩
  · rintro ⟨h1, h2, h3⟩
    obtain ⟨x, r, rfl⟩ : ∃ x r, l = x :: r := by
      match l, h1 with
      | x :: r, _ => exact ⟨x, r, rfl⟩
    refine isLn_of T ⟨⟨h3, h2, rfl, ?_⟩, h1, hl⟩
    unfold lt0
    rw [List.getLastD_eq_getLast?]
    cases e : (x :: r).getLast? with
    | none => cases List.getLast?_eq_none_iff.mp e
    | some z => rfl
theorem wk_iff : ∀ {l : List Nat}, Wk tr l ↔ ∀ k, k + 1 < l.length → ∀ x y, l[k]? = some x → l[k + 1]? = some y → Adj tr x y
  | [] => ⟨fun _ k h => absurd h (Nat.not_lt_zero _), fun _ => trivial⟩
  | [x] => ⟨fun _ k h => absurd h (by simp), fun _ => trivial⟩
  | x :: y :: l => by
    have ih := wk_iff (l := y :: l)
    constructor
    · rintro ⟨h1, h2⟩ k hk u v hu hv
      cases k with
      | zero =>
        cases hu
        cases hv
        exact h1
      | succ k => exact ih.mp h2 k (by simpa using hk) u v hu hv
    · intro h
      exact ⟨h 0 (by simp) x y rfl rfl, ih.mpr fun k hk u v hu hv => h (k + 1) (by simpa using hk) u v hu hv⟩
theorem nodup_of_len : ∀ {l ns : List Int}, ns.Nodup → (∀ k ∈ ns, k ∈ l) → ns.length = l.length → l.Nodup
  | [], _, _, _, _ => List.nodup_nil
  | x :: r, ns, hn, hs, hl => by
    have xr : x ∉ r := fun m => by
      have : ns ⊆ r := fun k hk => by
        rcases List.mem_cons.mp (hs k hk) with rfl | h
        · exact m
        · exact h
      have := hn.length_le_of_subset this
      rw [List.length_cons] at hl
      omega
    have xn : x ∈ ns := Classical.byContradiction fun z => by
      have : ns ⊆ r := fun k hk => by
        rcases List.mem_cons.mp (hs k hk) with rfl | h
        · exact absurd hk z
        · exact h
      have := hn.length_le_of_subset this
      rw [List.length_cons] at hl
      omega
    refine List.nodup_cons.mpr ⟨xr, nodup_of_len (ns := ns.erase x) (hn.erase x) (fun k hk => ?_) ?_⟩
    · obtain ⟨h1, h2⟩ := (hn.mem_erase_iff).mp hk
      rcases List.mem_cons.mp (hs k h2) with rfl | h
      · exact absurd rfl h1
      · exact h
    · rw [List.length_erase_of_mem xn, hl, List.length_cons]
      rfl
/-- whether the stations at k + 1 and k are no neighbours -/
def badK (tr : List E2) (l : List Nat) (k : Nat) : Bool := !decide (l.getD (k + 1) 0 ∈ nb tr (l.getD k 0))
theorem isLn_nd (T : TreeL tr) {l : List Nat} (hl : ∀ z ∈ l, z ≤ tr.length) (h2 : 2 ≤ l.length) (nd : l.Nodup) : isLn tr l = decide ((List.range (l.length - 1)).filter (badK tr l) = []) := by
  rw [Bool.eq_iff_iff, isLn_iff T hl, decide_eq_true_iff, List.filter_eq_nil_iff]
  constructor
  · rintro ⟨_, _, wk⟩ k hk
    have hk := List.mem_range.mp hk
    have g1 := gD (l := l) (i := k) (by omega)
    have g2 := gD (l := l) (i := k + 1) (by omega)
    have ha := wk_iff.mp wk k (by omega) _ _ g1 g2
    have : badK tr l k = false := by
      unfold badK
      rw [decide_eq_true ((mem_nb T.ne).mpr ha)]
      rfl
    rw [this]
    exact Bool.false_ne_true
  · intro h
    refine ⟨h2, nd, wk_iff.mpr fun k hk x y hx hy => ?_⟩
    have := h k (List.mem_range.mpr (by omega))
    unfold badK at this
    rw [gD_of hx, gD_of hy] at this
    simp at this
    exact (mem_nb T.ne).mp this
theorem isLn_dup (T : TreeL tr) {l : List Nat} (hl : ∀ z ∈ l, z ≤ tr.length) (nd : ¬ l.Nodup) : isLn tr l = false := by
  rw [Bool.eq_false_iff]
  intro h
  exact nd ((isLn_iff T hl).mp h).2.1
/-- whether the branches beside a line are less deep -/
noncomputable def isDv (tr : List E2) (L : Nat) (l : List Nat) : Bool := decide (∀ s ∈ l, ∀ w ∈ nb tr s, w ∉ l → dph tr w s + 1 < L)
/-- a neighbour on the path stands beside -/
theorem bd_near (T : TreeL tr) {l : List Nat} (b : Bd tr l) {i j x y : Nat} (hx : l[i]? = some x) (hy : l[j]? = some y) (h : Adj tr x y) : j = i + 1 ∨ i = j + 1 := by
  have two2 : ∀ {u v : Nat}, Adj tr u v → SW tr u v [u, v] := fun {u v} h => ⟨⟨h, trivial⟩, by simpa using T.adj_ne h, rfl, rfl⟩
  have key : ∀ {i j x y : Nat}, l[i]? = some x → l[j]? = some y → Adj tr x y → i < j → j = i + 1 := fun {i j x y} hx hy h lt => by
    have s := b.sw.take hy
    have hx2 : (l.take (j + 1))[i]? = some x := by rw [List.getElem?_take, if_pos (by omega)]; exact hx
    have s2 := s.drop hx2
    have e := SW.uniq T s2 (two2 h)
    have := congrArg List.length e
    have jl := (List.getElem?_eq_some_iff.mp hy).1
    rw [List.length_drop, List.length_take, Nat.min_eq_left (by omega)] at this
    have : [x, y].length = 2 := rfl
    omega
  rcases Nat.lt_trichotomy i j with c | c | c
  · exact .inl (key hx hy h c)
  · subst c
    rw [hx] at hy
    cases hy
    exact absurd rfl (T.adj_ne h)
  · exact .inr (key hy hx h.sym c)
/-- the stations of a line beside one of them -/
theorem win_mem (T : TreeL tr) {l : List Nat} (b : Bd tr l) {i x w : Nat} (hx : l[i]? = some x) (h : Adj tr x w) : w ∈ (l.drop (i - 1)).take (i + 2 - (i - 1)) ↔ w ∈ l := by
  constructor
  · exact fun m => List.mem_of_mem_drop (List.mem_of_mem_take m)
  · intro m
    obtain ⟨j, hj⟩ := List.mem_iff_getElem?.mp m
    refine List.mem_iff_getElem?.mpr ⟨j - (i - 1), ?_⟩
    have := bd_near T b hx hj h
    rw [List.getElem?_take, if_pos (by omega), List.getElem?_drop, show i - 1 + (j - (i - 1)) = j by omega]
    exact hj
/-- the mark of a station on a line, and one more -/
noncomputable def mkN (tr : List E2) (l : List Nat) (s : Nat) : Nat := ((pl tr (hd0 l) s).filter fun z => decide (z ∈ l)).length
theorem mkN_one (T : TreeL tr) {l : List Nat} (b : Bd tr l) {x : Nat} (h : l[1]? = some x) : mkN tr l x = 2 := by
  have h0 := sw_at0 b.sw
  have hw := b.two
  have ha : Adj tr (hd0 l) x := wk_iff.mp b.sw.wk 0 (by omega) _ _ h0 h
  have s : SW tr (hd0 l) x [hd0 l, x] := ⟨⟨ha, trivial⟩, by simpa using T.adj_ne ha, rfl, rfl⟩
  unfold mkN
  rw [pl_eq T s]
  have m0 := List.mem_of_getElem? h0
  have m1 := List.mem_of_getElem? h
  simp [m0, m1]
end
end TR

namespace TR
open PySem PySem.Spec PyProof.Rows L2 L2.TT StX ClX
theorem eqv_two (a b c d : Nat) : PyData.eqv (.tuple [di a, di b]) (.tuple [di c, di d]) = decide ((a, b) = (c, d)) := by
  have q : PyData.eqv (.tuple [di a, di b]) (.tuple [di c, di d]) = (((a : Int) == (c : Int)) && (((b : Int) == (d : Int)) && true)) := by simp only [di, PyData.eqv, PyData.eqvAll]
  rw [q, Bool.and_true, Bool.eq_iff_iff, Bool.and_eq_true, beq_iff_eq, beq_iff_eq, decide_eq_true_iff]
  constructor
  · rintro ⟨h1, h2⟩
    rw [show a = c by omega, show b = d by omega]
  · intro h
    cases h
    exact ⟨rfl, rfl⟩
theorem atN_gD {l : List Nat} {i : Nat} (h : i < l.length) : atI (l.map iv) (i : Int) = some (iv (l.getD i 0)) :=
  atI_pos (by omega) (by rw [Int.toNat_natCast, List.getElem?_map, gD h]; rfl)
theorem atI_lastN {xs : List V} {n : Nat} {x : V} (h : xs.length = n + 1) (hx : xs[n]? = some x) : atI xs (-1) = some x := by
  have e : ixN xs.length (-1) = some n := by
    unfold ixN
    rw [if_neg (by omega), if_pos (by omega), h]
    congr 1
    omega
  unfold atI
  rw [e]
  exact hx
theorem fnok_or {P : Program} {w : World} {K : PySem.W.Frag} {mg : Str → Option Value} {base : Heap} {CX : CXT} {k : Nat} {f : Addr} {fd : FuncData} {ps : List Str} {s1 s2 : Sp} (A : FnOk P w K mg base CX k f fd ps s1) (B : FnOk P w K mg base CX k f fd ps s2) :
    FnOk P w K mg base CX k f fd ps (fun vs H Q E => s1 vs H Q E ∨ s2 vs H Q E) :=
  ⟨fun vs H Q E h => h.elim (A.len vs H Q E) (B.len vs H Q E), fun A' outer s H args us vs Q E hr e0 hb r h => h.elim (fun h => A.run A' outer s H args us vs Q E hr e0 hb r h) (fun h => B.run A' outer s H args us vs Q E hr e0 hb r h)⟩
end TR

namespace TR
open PySem PySem.Spec PyProof.Rows L2 L2.TT StX ClX
def RepF (K : PySem.W.Frag) (H : Hp) (vs : List V) (ds : List PyData) : Prop := DL K H vs ds ∧ PyData.showableAll ds = true ∧ PyData.leavesShortAll 13 ds = true ∧ PyData.weightAll ds ≤ 1000000 ∧ PyData.depthAll ds ≤ 20
theorem shw2 {a b : Nat} (ha : a ≤ 999) (hb : b ≤ 999) : Shw [a, b] := shw_of fun z hz => by
  simp only [List.mem_cons, List.not_mem_nil, or_false] at hz
  omega
theorem rep_two {K : PySem.W.Frag} {H : Hp} {a b : Nat} (ha : a ≤ 999) (hb : b ≤ 999) : RepF K H [iv a, iv b] [di a, di b] := by
  have S := shw2 ha hb
  have h1 : PyData.weightAll [di a, di b] ≤ 11 * 2 := S.wt
  have h2 : PyData.depthAll [di a, di b] = 0 := S.dp
  exact ⟨.inl ⟨dpAll_ints [a, b], canLay_ints [a, b]⟩, S.sh, S.lv, by omega, by omega⟩
theorem rep_list2 {K : PySem.W.Frag} {H : Hp} {p q : Addr} {a b : Nat} (hp : H p = some (.tup [iv a, iv b])) (hq : H q = some (.tup [iv a, iv b])) (ha : a ≤ 999) (hb : b ≤ 999) : RepF K H [.ref p, .ref q] [.tuple [di a, di b], .tuple [di a, di b]] := by
  have S := shw2 ha hb
  have l2 : [a, b].length ≤ 1000 := by show 2 ≤ 1000; decide
  obtain ⟨c1, c2, c3, c4, c5⟩ := shw_two S S l2 l2
  exact ⟨.inl ⟨.cons (.tup (SqT.of hp) (dpAll_ints [a, b])) (.cons (.tup (SqT.of hq) (dpAll_ints [a, b])) .nil), c1⟩, c2, c3, c4, c5⟩
theorem rep_prs {K : PySem.W.Frag} {H : Hp} {ps : List Addr} {es : List E2} (h : Prs H ps es) (hm : ∀ e ∈ es, e.1 ≤ 999 ∧ e.2 ≤ 999) (hl : es.length ≤ 2000) : RepF K H (ps.map V.ref) (es.map dpr) := by
  have S := shwP_of hm
  have := S.wt
  have := S.dp
  exact ⟨.inl ⟨dpAll_prs h, S.cl⟩, S.sh, S.lv, by omega, by omega⟩
theorem rep_nn {K : PySem.W.Frag} {H : Hp} : RepF K H [.non, .non] [.none, .none] := ⟨.inl ⟨.cons .non (.cons .non .nil), rfl⟩, rfl, rfl, by decide, by decide⟩
theorem rep_bb {K : PySem.W.Frag} {H : Hp} (c : Bool) : RepF K H [.bl c, .bl c] [.bool c, .bool c] := ⟨.inl ⟨.cons (.bl c) (.cons (.bl c) .nil), by cases c <;> rfl⟩, by cases c <;> rfl, by cases c <;> decide +kernel, by cases c <;> decide, by cases c <;> decide⟩
end TR

namespace TR
open PySem PySem.Spec PyProof.Rows L2 L2.TT StX ClX
theorem inR_iv2 {n v : Nat} (h : v ≤ n) : inR (iv v) 0 n = true := by
  show (decide ((0 : Int) ≤ (v : Int)) && decide ((v : Int) ≤ (n : Int))) = true
  rw [Bool.and_eq_true]
  exact ⟨decide_eq_true (by omega), decide_eq_true (by omega)⟩
theorem all_bools2 {f : V → Bool} {xs : List V} : (xs.map f).all id = true ↔ ∀ x ∈ xs, f x = true := by
  rw [List.all_map]
  simp
theorem eqvAll_ints2 : ∀ (l m : List Nat), PyData.eqvAll (l.map di) (m.map di) = decide (l = m)
  | [], [] => rfl
  | [], _ :: _ => rfl
  | _ :: _, [] => rfl
  | x :: l, y :: m => by
    show (PyData.eqv (di x) (di y) && PyData.eqvAll (l.map di) (m.map di)) = _
    rw [eqvAll_ints2 l m]
    have e : PyData.eqv (di x) (di y) = decide (x = y) := by
      show ((x : Int) == (y : Int)) = _
      rw [Bool.eq_iff_iff, beq_iff_eq, decide_eq_true_iff]
      omega
    rw [e, Bool.eq_iff_iff, Bool.and_eq_true, decide_eq_true_iff, decide_eq_true_iff, decide_eq_true_iff, List.cons.injEq]
theorem eqv_ints (l m : List Nat) : PyData.eqv (.tuple (l.map di)) (.tuple (m.map di)) = decide (l = m) := eqvAll_ints2 l m
def PrR (H : Hp) (p : Addr) (e : E2) : Prop := H p = some (.tup [iv e.1, iv e.2])
theorem firmP : Firm PrR := fun _ _ _ _ s h => s _ _ h
theorem tupyP : Tupy PrR := fun _ _ _ _ _ _ hD h => by
  unfold PrR at h ⊢
  rw [upd_ne (ne_of h hD (by intro z; cases z))]
  exact h
/-- t[y:z] -/
theorem slT_midU {K : PySem.W.Frag} {H : Hp} {Q : VK} {a : Addr} {xs : List V} {y z : Nat} (ha : H a = some (.tup xs)) (hy : y ≤ xs.length) (k : ∀ p H', Same H H' → H' p = some (.tup ((xs.drop y).take (z - y))) → Q (.ref p) H') : rSlA K (.ref a) (some (y : Int)) (some (z : Int)) H Q := by
  have e : cutV xs (some (y : Int)) (some (z : Int)) = (xs.drop y).take (z - y) := by
    unfold cutV
    rw [HT.sIx_nat, HT.sIx_nat, Nat.min_eq_left hy]
    by_cases c : z ≤ xs.length
    · rw [Nat.min_eq_left c]
    · rw [Nat.min_eq_right (by omega), List.take_of_length_le (by rw [List.length_drop]; omega), List.take_of_length_le (by rw [List.length_drop]; omega)]
  refine ⟨a, xs, rfl, SqT.of ha, fun ⟨h1, h2⟩ => ?_, fun _ p np => by rw [e]; exact k p _ (same_upd np _) upd_same⟩
  rw [HT.sIx_nat] at h1 h2
  refine k a H (Same.refl _) ?_
  rw [show y = 0 by omega, List.drop_zero, List.take_of_length_le (by omega)]
  exact ha
theorem fil_snoc {α β : Type} {xs : List α} {i : Nat} {w : α} (p : α → Bool) (f : α → β) (h : xs[i]? = some w) : ((xs.take (i + 1)).filter p).map f = ((xs.take i).filter p).map f ++ (if p w = true then [f w] else []) := by
  rw [take_snoc h, List.filter_append, List.map_append]
  congr 1
  by_cases c : p w = true
  · rw [if_pos c, List.filter_cons_of_pos c]
    rfl
  · rw [if_neg c, List.filter_cons_of_neg c]
    rfl
theorem fil_len {α : Type} {xs : List α} {i : Nat} (p : α → Bool) : ((xs.take i).filter p).length ≤ xs.length := by
  have := List.length_filter_le p (xs.take i)
  rw [List.length_take] at this
  omega
theorem at_hd0 {l : List Nat} (h : 0 < l.length) : atI (l.map iv) 0 = some (iv (hd0 l)) := by
  match l, h with
  | x :: r, _ => exact atI_pos (by decide) rfl
theorem at_lt0 {l : List Nat} (h : 0 < l.length) : atI (l.map iv) (-1) = some (iv (lt0 l)) := by
  obtain ⟨r, x, rfl⟩ : ∃ r x, l = r ++ [x] := ⟨l.dropLast, l.getLast (List.length_pos_iff.mp h), (List.dropLast_concat_getLast _).symm⟩
  rw [lt0_snoc]
  exact at_last
theorem hd0_mem {l : List Nat} (h : 0 < l.length) : hd0 l ∈ l := by
  match l, h with
  | x :: r, _ => exact List.mem_cons_self
theorem lt0_mem {l : List Nat} (h : 0 < l.length) : lt0 l ∈ l := by
  obtain ⟨r, x, rfl⟩ : ∃ r x, l = r ++ [x] := ⟨l.dropLast, l.getLast (List.length_pos_iff.mp h), (List.dropLast_concat_getLast _).symm⟩
  rw [lt0_snoc]
  simp
end TR

namespace L2.TT
open PySem PySem.Spec PyProof.Rows
theorem it_K {X : Cx} {K : PySem.W.Frag} (h : X.K = K) : IxR X (rIxT K) := by
  subst h
  exact ix_tup
end L2.TT
namespace TR
open PySem PySem.Spec PyProof.Rows L2 L2.TT StX ClX
theorem tyOf_same {K : PySem.W.Frag} {H H' : Hp} {v : V} {t : Value} (h : TyOf K H v t) (s : Same H H') : TyOf K H' v t := by
  cases h with
  | non => exact .non
  | bl x => exact .bl x
  | int x => exact .int x
  | str x => exact .str x
  | flt x => exact .flt x
  | lst e => exact .lst (s _ _ e)
  | frz e => exact .frz (s _ _ e)
  | tup e => exact .tup (s _ _ e)
  | dK e => exact .dK (s _ _ e)
  | dT e => exact .dT (s _ _ e)
  | ins e a b c d f => exact .ins (s _ _ e) a b c d f
theorem tyX_same {K : PySem.W.Frag} {H H' : Hp} {v : V} {t : Value} (h : TyX K H v t) (s : Same H H') : TyX K H' v t := by
  cases h with
  | base h => exact .base (tyOf_same h s)
  | byt b => exact .byt b
  | set e => exact .set (s _ _ e)
  | kList e c => exact .kList e c
  | kTuple e c => exact .kTuple e c
  | kDict e c => exact .kDict e c
  | fTuple e => exact .fTuple (s _ _ e)
  | fDict e => exact .fDict (s _ _ e)
theorem iv_same {K : PySem.W.Frag} {H H' : Hp} {v : V} (h : IV K H v) (s : Same H H') : IV K H' v := by
  rcases h with h | h | ⟨n, h, k⟩
  · exact .inl h
  · exact .inr (.inl h)
  · exact .inr (.inr ⟨n, tyX_same h s, k⟩)
end TR

namespace TR
open PySem PySem.Spec PyProof.Rows L2 L2.TT StX ClX
def spBrd (C : Addr) : Sp := fun vs H Q _ => ∃ (r : Addr) (tr : List E2) (s : Nat), vs = [.ref r, iv s] ∧ RailAt C H r tr ∧ s ≤ tr.length ∧ ∀ (q : Addr) (ps : List Addr) (H' : Hp), Same H H' → H' q = some (.tup (ps.map V.ref)) → Prs H' ps ((nb tr s).map fun w => (w, dph tr w s + 1)) → Q (.ref q) H'
section
variable {P : Program} {w : World} {K : PySem.W.Frag} {mg : Str → Option Value} {base : Heap}
abbrev N_sc_brd : List Str := ["railway", "station", "near"]
theorem sc_brd : FnScope N_sc_brd ["railway", "station"] (defScope s_branch_depths) := ⟨rfl, rfl, rfl, by decide +kernel, rfl, by decide +kernel, by decide +kernel⟩
theorem ok_brd {f f0 fD fn C : Addr} {fd fd0 fdD fdn : FuncData} (F : Fun K "branch_depths" "branch_depths" s_branch_depths f fd) (N : Nm mg) (X : TxtR K mg C) (U0 : Use P w K mg base CX0 4 "check_station" f0 fd0 ["railway", "station"] (spChkSt C)) (UD : Use P w K mg base CX0 8 "depth_behind" fD fdD ["railway", "station", "seen_from"] (spDBh C)) (Mn : MU P w K mg base C 5 "neighbours" fn fdn ["self", "station"] (spNbr C)) :
    FnOk P w K mg base CX0 9 f fd ["railway", "station"] (spBrd C) := by
  refine F.ok sc_brd (fun vs H Q E h => ?_) (fun cdv A outer s H vs Q E hr h => ?_)
  · obtain ⟨r, tr, s, rfl, _⟩ := h
    rfl
  · obtain ⟨r, tr, sn, rfl, R, hs, k⟩ := h
    have hr5 : Room 5 (A.deeper (envOfC "branch_depths" (defScope s_branch_depths) s.heap.objs.size f cdv)) := hr.mono (by decide)
    refine ⟨_, (pss_cons (ps_expr (pe_use U0 (hr.mono (by decide)) (by rfl) (pa_cons (pv 0) (pa_cons (pv 1) pa_nil))))
        (pss_one (ps_ret (pe_callTy call_tuple_of (by rfl) N.tuple boot_tuple (pa_cons (pe_lc (own := [("near", 2)]) (g := (gName 2)) (tt := tYes) rfl sc_brd.nd (pi_tup (pe_meth (pv 0) X.cl Mn.m Mn.G hr5 Mn.b .nil pass0 (pa_cons (pv 1) pa_nil))) (blkOk_by (N := N_sc_brd) (sc := defScope s_branch_depths) (by decide +kernel)) (fun _ _ _ _ _ => pg_name (i := 2) sc_brd.nd rfl (Or.inl rfl)) (fun _ _ _ _ _ => pts_nil) (fun _ _ _ _ _ => (pe_tup (pa_cons (pv 2) (pa_cons (pe_op op_add pe_int (pe_use UD hr (by rfl) (pa_cons (pv 0) (pa_cons (pv 2) (pa_cons (pv 1) pa_nil))))) pa_nil))))) pa_nil))))), ?_⟩
    obtain ⟨T, few, dx, tt0, na, Aa, L, ps0, ts0, h1, h2, h3, h4, h5, h6, h7⟩ := id R
    have two : (2 : Nat) ≤ sizeLine := by rw [sizeLine_eq]; decide
    refine ⟨_, rfl, _, rfl, r, tr, sn, rfl, R, hs, ?_⟩
    refine ⟨_, rfl, r, dx, _, rfl, h1, flR_no (by decide +kernel) (by decide +kernel) (by decide +kernel) (by decide +kernel), _, rfl, r, tr, sn, rfl, R, hs, fun t ht => ?_⟩
    refine ⟨t, rfl, ⟨_, SqT.of ht⟩, fun D nD => ?_⟩
    have nbl := nb_len tr sn
    refine lc_tup (K := K) (a := t) (xs := (nb tr sn).map iv) (fun i H' => ∃ qs, Acc PrR H H' D qs (((nb tr sn).take i).map fun w => (w, dph tr w sn + 1))) ⟨[], .start nD⟩ (fun i H' _ ⟨_, a⟩ => SqT.of (a.sm _ _ ht)) ?_ ?_
    · rintro i v H' hv ⟨qs, a⟩
      obtain ⟨w, hw, rfl⟩ := map_got hv
      have hwm := List.mem_of_getElem? hw
      have ha := (mem_nb T.ne).mp hwm
      have hil := (List.getElem?_eq_some_iff.mp hw).1
      have two2 : SW tr w sn [w, sn] := ⟨⟨ha.sym, trivial⟩, by simpa using (T.adj_ne ha).symm, rfl, rfl⟩
      refine ⟨rfl, _, rfl, _, rfl, _, rfl, _, rfl, r, tr, w, sn, rfl, R.same a.sm, (T.adj_le ha).2, hs, (T.adj_ne ha).symm, fun l x H2 s2 sw hx => ?_⟩
      cases SW.uniq T sw two2
      cases hx
      refine ⟨_, _, rfl, rfl, two, fun q nq => ?_⟩
      have nDH2 : H2 D ≠ none := by rw [s2 _ _ a.own]; exact fun z => by cases z
      have sq := s2.trans (same_upd nq (.tup [iv w, .int (1 + (dph tr w sn : Int))]))
      have e1 : V.int (1 + (dph tr w sn : Int)) = iv (dph tr w sn + 1) := by
        show V.int _ = V.int ((dph tr w sn + 1 : Nat) : Int)
        congr 1
        omega
      have hq : PrR (upd H2 q (.tup [iv w, .int (1 + (dph tr w sn : Int))])) q (w, dph tr w sn + 1) := by
        show _ = some (HO.tup [iv w, iv (dph tr w sn + 1)])
        rw [upd_same, e1]
      have a2 := a.push firmP tupyP nD sq hq
      have lq : qs.length ≤ i := by rw [a.lay.len, List.length_map, List.length_take]; omega
      refine ⟨qs.map V.ref, sq _ _ a.own, by rw [List.length_map, sizeLine_eq]; omega, qs ++ [q], ?_⟩
      rw [take_snoc hw, List.map_append]
      exact a2
    · rintro H' ⟨qs, a⟩
      rw [show (nb tr sn).take ((nb tr sn).map iv).length = nb tr sn from List.take_of_length_le (by rw [List.length_map]; exact Nat.le_refl _)] at a
      refine ⟨D, _, rfl, .inl ⟨SqL.of a.own, fun l nl => ?_⟩⟩
      have sl := same_upd nl (.tup (qs.map V.ref))
      have l2 := a.lay.same firmP sl
      exact k l qs _ (a.sm.trans sl) upd_same ⟨l2.len, l2.at_⟩
end
end TR


namespace TR
section
variable {nr fr : Nat → Nat} {L : Nat}
/-- a part that holds whatever the train does -/
structure Cl (nr fr : Nat → Nat) (L p q : Nat) : Prop where
  lt : p < q
  le : q ≤ L
  n : nr p + (q - p) ≤ L
  f : fr q + (q - p) ≤ L
theorem Fx.cl {p q : Nat} (h : Fx nr fr L p q) : Cl nr fr L p q := ⟨h.lt, h.le, Nat.le_of_eq h.n, Nat.le_of_eq h.f⟩
def isCl (nr fr : Nat → Nat) (L p q : Nat) : Bool := decide (nr p + (q - p) ≤ L) && decide (fr q + (q - p) ≤ L)
theorem isCl_iff {p q : Nat} (h1 : p < q) (h2 : q ≤ L) : isCl nr fr L p q = true ↔ Cl nr fr L p q := by
  unfold isCl
  rw [Bool.and_eq_true, decide_eq_true_iff, decide_eq_true_iff]
  exact ⟨fun h => ⟨h1, h2, h.1, h.2⟩, fun h => ⟨h.n, h.f⟩⟩
/-- it lies in all parts of a climb -/
theorem clm_cl (b : Brn nr fr L) {p q : Nat} (fx : Cl nr fr L p q) {n t s i j : Nat} {r : List (Nat × Nat)} {c : Bool} (h : Clm nr fr L n t s i j r c) : StI nr fr L i j → i ≤ p → q ≤ j → c = false ∧ (lst2 (i, j) r).1 ≤ p ∧ q ≤ (lst2 (i, j) r).2 := by
  have f1 := fx.lt
  have f2 := fx.le
  have f3 := fx.n
  have f4 := fx.f
  induction h with
  | done hs => exact fun st h1 h2 => ⟨rfl, h1, h2⟩
  | @loose n t s i j hs hl =>
    intro st h1 h2
    have l2 := st.le
    have a1 := b.up_le h1 (by omega)
    have a2 := b.dn_le (q := q) (j := j) (by omega) h2 l2
    omega
  | stay hs n1 n2 e k ih => exact ih
  | @move n t s i j r c hs n1 n2 e k ih =>
    intro st h1 h2
    have l2 := st.le
    have l1 := st.lt
    have l3 := st.f
    have a1 := b.up_le h1 (by omega)
    have a2 := b.dn_le (q := q) (j := j) (by omega) h2 l2
    obtain ⟨k1, _, _⟩ := st.pr b (t := t) n1 n2
    rw [lst2_cons]
    refine ih k1 ?_ ?_
    · unfold prO
      split
      · exact h1
      · show j + fr j - L ≤ p
        omega
    · unfold prO
      split
      · show q ≤ i + L - nr i
        omega
      · exact h2
/-- the parts that hold, in the order of a search for them -/
def clR (P : Nat → Nat → Bool) (L i k : Nat) : List (Nat × Nat) := (((List.range k).map fun d => i + 1 + d).filter (P i)).map fun j => (i, j)
def clA (P : Nat → Nat → Bool) (L : Nat) : Nat → List (Nat × Nat)
  | 0 => []
  | n + 1 => clA P L n ++ clR P L n (L - n)
theorem clR_succ (P : Nat → Nat → Bool) (L i k : Nat) : clR P L i (k + 1) = clR P L i k ++ (if P i (i + 1 + k) = true then [(i, i + 1 + k)] else []) := by
  unfold clR
  rw [List.range_succ, List.map_append, List.filter_append, List.map_append]
  congr 1
  by_cases c : P i (i + 1 + k) = true
  · rw [if_pos c]
    simp [c]
  · rw [if_neg c]
    simp [c]
theorem mem_clR {P : Nat → Nat → Bool} {L i k : Nat} {x : Nat × Nat} : x ∈ clR P L i k ↔ x.1 = i ∧ i < x.2 ∧ x.2 ≤ i + k ∧ P i x.2 = true := by
  unfold clR
  rw [List.mem_map]
  constructor
  · rintro ⟨j, hj, rfl⟩
    obtain ⟨h1, h2⟩ := List.mem_filter.mp hj
    obtain ⟨d, hd, rfl⟩ := List.mem_map.mp h1
    have := List.mem_range.mp hd
    exact ⟨rfl, by show i < i + 1 + d; omega, by show i + 1 + d ≤ i + k; omega, h2⟩
  · rintro ⟨rfl, h1, h2, h3⟩
    refine ⟨x.2, List.mem_filter.mpr ⟨List.mem_map.mpr ⟨x.2 - x.1 - 1, List.mem_range.mpr (by omega), by omega⟩, h3⟩, rfl⟩
theorem mem_clA {P : Nat → Nat → Bool} {L : Nat} : ∀ {n : Nat} {x : Nat × Nat}, n ≤ L + 1 → (x ∈ clA P L n ↔ x.1 < n ∧ x.1 < x.2 ∧ x.2 ≤ L ∧ P x.1 x.2 = true)
  | 0, x, _ => ⟨fun h => (nomatch h), fun h => absurd h.1 (Nat.not_lt_zero _)⟩
  | n + 1, x, hn => by
    show x ∈ clA P L n ++ clR P L n (L - n) ↔ _
    rw [List.mem_append, mem_clA (by omega), mem_clR]
    constructor
    · rintro (⟨h1, h2⟩ | ⟨rfl, h1, h2, h3⟩)
      · exact ⟨by omega, h2⟩
      · exact ⟨by omega, h1, by omega, h3⟩
    · rintro ⟨h1, h2, h3, h4⟩
      by_cases c : x.1 < n
      · exact .inl ⟨c, h2, h3, h4⟩
      · have e : x.1 = n := by omega
        exact .inr ⟨e, by omega, by omega, by rw [← e]; exact h4⟩
theorem clR_len (P : Nat → Nat → Bool) (L i k : Nat) : (clR P L i k).length ≤ k := by
  unfold clR
  rw [List.length_map]
  have := List.length_filter_le (P i) ((List.range k).map fun d => i + 1 + d)
  rw [List.length_map, List.length_range] at this
  exact this
theorem clA_len (P : Nat → Nat → Bool) (L : Nat) : ∀ n, (clA P L n).length ≤ n * L
  | 0 => Nat.zero_le _
  | n + 1 => by
    have h1 := clA_len P L n
    have h2 := clR_len P L n (L - n)
    show (clA P L n ++ clR P L n (L - n)).length ≤ (n + 1) * L
    rw [List.length_append, Nat.succ_mul]
    omega
/-- the widest so far -/
def wid (x : Nat × Nat) : Nat := x.2 - x.1
structure Wst (S : List (Nat × Nat)) (w : Option (Nat × Nat)) : Prop where
  no : w = none → S = []
  mem : ∀ x, w = some x → x ∈ S
  mx : ∀ x, w = some x → ∀ y ∈ S, wid y ≤ wid x
theorem Wst.nil : Wst [] none := ⟨fun _ => rfl, fun _ h => (nomatch h), fun _ h => (nomatch h)⟩
theorem Wst.new {S : List (Nat × Nat)} {w : Option (Nat × Nat)} (h : Wst S w) {y : Nat × Nat} (hy : ∀ x, w = some x → wid x < wid y) : Wst (S ++ [y]) (some y) := by
  refine ⟨fun z => (nomatch z), fun x e => ?_, fun x e z hz => ?_⟩
  · cases e
    simp
  · cases e
    rcases List.mem_append.mp hz with hz | hz
    · cases w with
      | none =>
        rw [h.no rfl] at hz
        cases hz
      | some v =>
        have := h.mx v rfl z hz
        have := hy v rfl
        omega
    · rw [List.mem_singleton] at hz
      rw [hz]
      exact Nat.le_refl _
theorem Wst.old {S : List (Nat × Nat)} {x y : Nat × Nat} (h : Wst S (some x)) (hy : ¬ wid x < wid y) : Wst (S ++ [y]) (some x) := by
  refine ⟨fun z => (nomatch z), fun z e => ?_, fun z e u hu => ?_⟩
  · exact List.mem_append_left _ (h.mem z e)
  · cases e
    rcases List.mem_append.mp hu with hu | hu
    · exact h.mx x rfl u hu
    · rw [List.mem_singleton] at hu
      rw [hu]
      omega
/-- the widest is what a climb ends with -/
theorem wst_end (b : Brn nr fr L) (hL : 0 < L) {n : Nat} {r : List (Nat × Nat)} {c : Bool} (h : Clm nr fr L n 0 0 0 L r c) {w : Option (Nat × Nat)} (W : Wst (clA (isCl nr fr L) L (L + 1)) w) :
    (c = true → w = none) ∧ (c = false → w = some (lst2 (0, L) r)) ∧ ∀ x ∈ clA (isCl nr fr L) L (L + 1), (lst2 (0, L) r).1 ≤ x.1 ∧ x.2 ≤ (lst2 (0, L) r).2 := by
  have st : StI nr fr L 0 L := .start hL
  have si : Si nr fr L 0 0 0 L := ⟨fun z => absurd z (by omega), fun z => absurd z (by omega)⟩
  obtain ⟨a1, a2, a3, _, a5, a6, _⟩ := clm_end b h (by omega) st si
  have all : ∀ x ∈ clA (isCl nr fr L) L (L + 1), c = false ∧ (lst2 (0, L) r).1 ≤ x.1 ∧ x.2 ≤ (lst2 (0, L) r).2 := fun x hx => by
    obtain ⟨h1, h2, h3, h4⟩ := (mem_clA (Nat.le_refl _)).mp hx
    exact clm_cl b ((isCl_iff h2 h3).mp h4) h st (Nat.zero_le _) h3
  refine ⟨fun hc => ?_, fun hc => ?_, fun x hx => (all x hx).2⟩
  · cases w with
    | none => rfl
    | some x =>
      have := (all x (W.mem x rfl)).1
      rw [hc] at this
      cases this
  · have fx := a5 hc
    have hm : lst2 (0, L) r ∈ clA (isCl nr fr L) L (L + 1) := (mem_clA (Nat.le_refl _)).mpr ⟨by have := fx.lt; have := fx.le; omega, fx.lt, fx.le, (isCl_iff fx.lt fx.le).mpr fx.cl⟩
    cases w with
    | none =>
      rw [W.no rfl] at hm
      cases hm
    | some x =>
      have h1 := W.mx x rfl _ hm
      obtain ⟨_, h2, h3⟩ := all x (W.mem x rfl)
      have f1 := fx.lt
      obtain ⟨_, q1, q2, _⟩ := (mem_clA (Nat.le_refl _)).mp (W.mem x rfl)
      unfold wid at h1
      congr 1
      exact Prod.ext (by omega) (by omega)
end
end TR

namespace TR
section
variable {tr : List E2}
noncomputable abbrev clB (tr : List E2) (l : List Nat) : List (Nat × Nat) := clA (isCl (nrB tr l) (frB tr l) (l.length - 1)) (l.length - 1) (l.length - 1 + 1)
theorem mem_clB {l : List Nat} {x : Nat × Nat} : x ∈ clB tr l ↔ Cl (nrB tr l) (frB tr l) (l.length - 1) x.1 x.2 := by
  rw [mem_clA (Nat.le_refl _)]
  constructor
  · rintro ⟨h1, h2, h3, h4⟩
    exact (isCl_iff h2 h3).mp h4
  · intro h
    have h1 := h.lt
    have h2 := h.le
    exact ⟨by omega, h1, h2, (isCl_iff h1 h2).mpr h⟩
def shf (x : Nat × Nat) : Nat × Nat := (x.1 + 1, x.2 + 1)
theorem clR_shf {P P' : Nat → Nat → Bool} {L i : Nat} : ∀ k, (∀ d, d < k → P' (i + 1) (i + 2 + d) = P i (i + 1 + d)) → clR P' L (i + 1) k = (clR P L i k).map shf
  | 0, _ => rfl
  | k + 1, h => by
    rw [clR_succ, clR_succ, clR_shf k (fun d hd => h d (by omega)), List.map_append, show i + 1 + 1 + k = i + 2 + k by omega, h k (Nat.lt_succ_self _)]
    congr 1
    by_cases c : P i (i + 1 + k) = true
    · rw [if_pos c, if_pos c]
      show _ = [(i + 1, i + 1 + k + 1)]
      rw [show i + 1 + k + 1 = i + 2 + k by omega]
    · rw [if_neg c, if_neg c]
      rfl
theorem clR_nil {P : Nat → Nat → Bool} {L i : Nat} : ∀ k, (∀ d, d < k → P i (i + 1 + d) = false) → clR P L i k = []
  | 0, _ => rfl
  | k + 1, h => by
    rw [clR_succ, clR_nil k (fun d hd => h d (by omega)), h k (Nat.lt_succ_self _)]
    rfl
theorem clA_shf {P P' : Nat → Nat → Bool} {L : Nat} (h0 : ∀ j, 1 ≤ j → j ≤ L → P' 0 j = false) (hL : ∀ i, i < L → P i L = false) (hs : ∀ i j, i < j → j < L → P' (i + 1) (j + 1) = P i j) : ∀ n, n ≤ L → clA P' L (n + 1) = (clA P L n).map shf
  | 0, _ => by
    show [] ++ clR P' L 0 (L - 0) = []
    rw [clR_nil _ fun d hd => h0 _ (by omega) (by omega)]
    rfl
  | n + 1, hn => by
    show clA P' L (n + 1) ++ clR P' L (n + 1) (L - (n + 1)) = (clA P L n ++ clR P L n (L - n)).map shf
    have e1 := clR_shf (P := P) (P' := P') (L := L) (i := n) (L - (n + 1)) fun d hd => by
      rw [show n + 2 + d = n + 1 + d + 1 by omega]
      exact hs n (n + 1 + d) (by omega) (by omega)
    have e2 : clR P L n (L - n) = clR P L n (L - (n + 1)) := by
      rw [show L - n = L - (n + 1) + 1 by omega, clR_succ, show n + 1 + (L - (n + 1)) = L by omega, hL n (by omega)]
      exact List.append_nil _
    rw [clA_shf h0 hL hs n (by omega), e1, e2, List.map_append]
/-- a move of the head moves the places of a body by one -/
theorem head_at {l : List Nat} {w i : Nat} (h : i + 1 < l.length) : (w :: l.dropLast).getD (i + 1) 0 = l.getD i 0 := by
  rw [List.getD_cons_succ, List.getD_eq_getElem?_getD, List.getD_eq_getElem?_getD, List.dropLast_eq_take, List.getElem?_take, if_pos (by omega)]
theorem clB_head (T : TreeL tr) {l : List Nat} (b : Bd tr l) {w : Nat} (h : w ∈ fre tr l true) : clB tr (w :: l.dropLast) = (clB tr l).map shf ∧ ∀ x ∈ clB tr l, x.2 + 1 < l.length := by
  obtain ⟨b', _, hl⟩ := b.aft_head T h
  have b2 := b.two
  obtain ⟨hw1, hw2⟩ := (mem_fre T).mp h
  have g0 := gD (l := l) (i := 0) (by omega)
  have eh : hd0 l = l.getD 0 0 := Option.some.inj ((sw_at0 b.sw).symm.trans g0)
  have hw1 : Adj tr (l.getD 0 0) w := by rw [← eh]; exact hw1
  have hle := (T.adj_le hw1).1
  have br := brn_of T b
  have br' := brn_of T b'
  rw [hl] at br'
  -- the station before the head makes its depth positive
  have n0 : 1 ≤ nrB tr l 0 := by
    have ne : w ≠ l.getD 1 0 := fun z => hw2 (by rw [z]; exact List.mem_of_getElem? (gD (l := l) (i := 1) (by omega)))
    have := dph_child T (s := l.getD 0 0) (b := l.getD 1 0) (w := w) hle ((mem_nb T.ne).mpr hw1) ne
    show 1 ≤ dph tr (l.getD 0 0) (l.getD 1 0)
    omega
  have nf : 1 ≤ frB tr (w :: l.dropLast) (l.length - 1) := by
    have gl := gD (l := l) (i := l.length - 1) (by omega)
    have gm := gD (l := l) (i := l.length - 2) (by omega)
    have gl' : l[l.length - 2 + 1]? = some (l.getD (l.length - 1) 0) := by rw [show l.length - 2 + 1 = l.length - 1 by omega]; exact gl
    have ha := wk_at b.sw.wk gm gl'
    have e1 : (w :: l.dropLast).getD (l.length - 1) 0 = l.getD (l.length - 2) 0 := by
      have := head_at (l := l) (w := w) (i := l.length - 2) (by omega)
      rwa [show l.length - 2 + 1 = l.length - 1 by omega] at this
    have ne : l.getD (l.length - 1) 0 ≠ (w :: l.dropLast).getD (l.length - 1 - 1) 0 := by
      by_cases c : l.length = 2
      · rw [c]
        show l.getD 1 0 ≠ w
        exact fun z => hw2 (by rw [← z]; exact List.mem_of_getElem? (gD (l := l) (i := 1) (by omega)))
      · have e2 : (w :: l.dropLast).getD (l.length - 1 - 1) 0 = l.getD (l.length - 3) 0 := by
          have := head_at (l := l) (w := w) (i := l.length - 3) (by omega)
          rwa [show l.length - 3 + 1 = l.length - 1 - 1 by omega] at this
        rw [e2]
        exact sw_ne b.sw gl (gD (l := l) (i := l.length - 3) (by omega)) (by omega)
    have := dph_child T (s := l.getD (l.length - 2) 0) (b := (w :: l.dropLast).getD (l.length - 1 - 1) 0) (w := l.getD (l.length - 1) 0) (T.adj_le ha).1 ((mem_nb T.ne).mpr ha) ne
    show 1 ≤ dph tr ((w :: l.dropLast).getD (l.length - 1) 0) _
    rw [e1]
    omega
  have hL : ∀ i, i < l.length - 1 → isCl (nrB tr l) (frB tr l) (l.length - 1) i (l.length - 1) = false := fun i hi => by
    have := br.up_le (i := 0) (p := i) (Nat.zero_le _) hi
    unfold isCl
    rw [decide_eq_false (by omega)]
    rfl
  have h0 : ∀ j, 1 ≤ j → j ≤ l.length - 1 → isCl (nrB tr (w :: l.dropLast)) (frB tr (w :: l.dropLast)) (l.length - 1) 0 j = false := fun j h1 h2 => by
    have := br'.dn_le (q := j) (j := l.length - 1) h1 h2 (Nat.le_refl _)
    unfold isCl
    rw [show decide (frB tr (w :: l.dropLast) j + (j - 0) ≤ l.length - 1) = false from decide_eq_false (by omega), Bool.and_false]
  have hs : ∀ i j, i < j → j < l.length - 1 → isCl (nrB tr (w :: l.dropLast)) (frB tr (w :: l.dropLast)) (l.length - 1) (i + 1) (j + 1) = isCl (nrB tr l) (frB tr l) (l.length - 1) i j := fun i j h1 h2 => by
    have e1 : nrB tr (w :: l.dropLast) (i + 1) = nrB tr l i := by
      unfold nrB
      rw [head_at (by omega), head_at (by omega)]
    have e2 : frB tr (w :: l.dropLast) (j + 1) = frB tr l j := by
      unfold frB
      rw [head_at (by omega), show j + 1 - 1 = (j - 1) + 1 by omega, head_at (by omega)]
    unfold isCl
    rw [e1, e2, show j + 1 - (i + 1) = j - i by omega]
  refine ⟨?_, fun x hx => ?_⟩
  · have e1 := clA_shf h0 hL hs (l.length - 1) (Nat.le_refl _)
    have e2 : clB tr l = clA (isCl (nrB tr l) (frB tr l) (l.length - 1)) (l.length - 1) (l.length - 1) := by
      show clA _ _ (l.length - 1) ++ clR _ _ (l.length - 1) (l.length - 1 - (l.length - 1)) = _
      rw [Nat.sub_self]
      exact List.append_nil _
    rw [e2, ← e1]
    show clA (isCl _ _ ((w :: l.dropLast).length - 1)) ((w :: l.dropLast).length - 1) ((w :: l.dropLast).length - 1 + 1) = _
    rw [hl]
  · have hc := mem_clB.mp hx
    have c1 := hc.lt
    have c2 := hc.le
    have c3 := hc.n
    have := br.up_le (i := 0) (p := x.1) (Nat.zero_le _) (by omega)
    omega
/-- what is said of a body's parts that hold, as stations -/
theorem clB_move (T : TreeL tr) {l : List Nat} (b : Bd tr l) {m : Mv} (h : canM tr l m = true) : (clB tr (aft l m)).map (fun x => ((aft l m).getD x.1 0, (aft l m).getD x.2 0)) = (clB tr l).map (fun x => (l.getD x.1 0, l.getD x.2 0)) := by
  have key : ∀ {l : List Nat} (b : Bd tr l) {w : Nat}, w ∈ fre tr l true → (clB tr (w :: l.dropLast)).map (fun x => ((w :: l.dropLast).getD x.1 0, (w :: l.dropLast).getD x.2 0)) = (clB tr l).map (fun x => (l.getD x.1 0, l.getD x.2 0)) := fun {l} b {w} h => by
    obtain ⟨e, hx⟩ := clB_head T b h
    rw [e, List.map_map]
    refine List.map_congr_left fun x hxm => ?_
    have h2 := hx x hxm
    have h1 := (mem_clB.mp hxm).lt
    show ((w :: l.dropLast).getD (x.1 + 1) 0, (w :: l.dropLast).getD (x.2 + 1) 0) = _
    rw [head_at (by omega), head_at h2]
  obtain ⟨e, w⟩ := m
  cases e with
  | true => exact key b (of_decide_eq_true h)
  | false =>
    obtain ⟨h1, h2⟩ := b.back T h
    obtain ⟨b', _⟩ := b.aft T h
    have := key b' (w := hd0 l) (of_decide_eq_true h1)
    have h2 : hd0 l :: (aft l (false, w)).dropLast = l := h2
    rw [h2] at this
    exact this.symm
theorem clB_run (T : TreeL tr) : ∀ (ms : List Mv) {l : List Nat}, Bd tr l → okM tr l ms = true → (clB tr (endB l ms)).map (fun x => ((endB l ms).getD x.1 0, (endB l ms).getD x.2 0)) = (clB tr l).map (fun x => (l.getD x.1 0, l.getD x.2 0))
  | [], _, _, _ => rfl
  | m :: ms, l, b, h => by
    have h : (canM tr l m && okM tr (aft l m) ms) = true := h
    rw [Bool.and_eq_true] at h
    obtain ⟨c, _⟩ := b.aft T h.1
    exact (clB_run T ms c h.2).trans (clB_move T b h.1)
end
end TR

namespace TR
section
variable {tr : List E2}
/-- the part that all others lie in, as stations -/
def Big (S : List (Nat × Nat)) (x : Nat × Nat) : Prop := x ∈ S ∧ ∀ y ∈ S, x.1 ≤ y.1 ∧ y.2 ≤ x.2
theorem Big.uniq {S : List (Nat × Nat)} {x y : Nat × Nat} (h : Big S x) (k : Big S y) : x = y := by
  have h1 := h.2 y k.1
  have h2 := k.2 x h.1
  exact Prod.ext (by omega) (by omega)
abbrev stE (l : List Nat) (x : Nat × Nat) : E2 := (l.getD x.1 0, l.getD x.2 0)
noncomputable def pk (tr : List E2) (l : List Nat) : Option E2 := open Classical in if h : ∃ x, Big (clB tr l) x then some (stE l h.choose) else none
theorem pk_some {l : List Nat} {x : Nat × Nat} (h : Big (clB tr l) x) : pk tr l = some (stE l x) := by
  have hx : ∃ x, Big (clB tr l) x := ⟨x, h⟩
  unfold pk
  rw [dif_pos hx, Big.uniq hx.choose_spec h]
theorem pk_none {l : List Nat} (h : clB tr l = []) : pk tr l = none := by
  unfold pk
  rw [dif_neg]
  rintro ⟨x, hx, _⟩
  rw [h] at hx
  cases hx
/-- what a climb ends with -/
theorem pk_clm (T : TreeL tr) {l : List Nat} (b : Bd tr l) {n : Nat} {r : List (Nat × Nat)} {c : Bool} (h : Clm (nrB tr l) (frB tr l) (l.length - 1) n 0 0 0 (l.length - 1) r c) : pk tr l = if c = true then none else some (stE l (lst2 (0, l.length - 1) r)) := by
  have b2 := b.two
  have br := brn_of T b
  have st : StI (nrB tr l) (frB tr l) (l.length - 1) 0 (l.length - 1) := .start (by omega)
  have si : Si (nrB tr l) (frB tr l) (l.length - 1) 0 0 0 (l.length - 1) := ⟨fun z => absurd z (by omega), fun z => absurd z (by omega)⟩
  obtain ⟨_, _, _, _, a5, _, _⟩ := clm_end br h (by omega) st si
  have all : ∀ x ∈ clB tr l, c = false ∧ (lst2 (0, l.length - 1) r).1 ≤ x.1 ∧ x.2 ≤ (lst2 (0, l.length - 1) r).2 := fun x hx => by
    have hc := mem_clB.mp hx
    exact clm_cl br hc h st (Nat.zero_le _) hc.le
  cases c with
  | true =>
    rw [if_pos rfl]
    refine pk_none ?_
    cases e : clB tr l with
    | nil => rfl
    | cons x s =>
      have := (all x (by rw [e]; exact List.mem_cons_self)).1
      cases this
  | false =>
    rw [if_neg (by decide)]
    exact pk_some ⟨mem_clB.mpr (a5 rfl).cl, fun y hy => (all y hy).2⟩
theorem pk_shf {l l' : List Nat} (e : clB tr l' = (clB tr l).map shf) (hx : ∀ x ∈ clB tr l, stE l' (shf x) = stE l x) : pk tr l' = pk tr l := by
  by_cases h : ∃ x, Big (clB tr l) x
  · obtain ⟨x, h1, h2⟩ := h
    rw [pk_some ⟨h1, h2⟩, ← hx x h1]
    refine pk_some ⟨by rw [e]; exact List.mem_map.mpr ⟨x, h1, rfl⟩, fun y hy => ?_⟩
    rw [e] at hy
    obtain ⟨z, hz, rfl⟩ := List.mem_map.mp hy
    have := h2 z hz
    exact ⟨Nat.succ_le_succ this.1, Nat.succ_le_succ this.2⟩
  · have h' : ¬ ∃ x, Big (clB tr l') x := by
      rintro ⟨x, h1, h2⟩
      rw [e] at h1
      obtain ⟨z, hz, rfl⟩ := List.mem_map.mp h1
      refine h ⟨z, hz, fun y hy => ?_⟩
      have := h2 (shf y) (by rw [e]; exact List.mem_map.mpr ⟨y, hy, rfl⟩)
      exact ⟨Nat.le_of_succ_le_succ this.1, Nat.le_of_succ_le_succ this.2⟩
    unfold pk
    rw [dif_neg h, dif_neg h']
theorem pk_move (T : TreeL tr) {l : List Nat} (b : Bd tr l) {m : Mv} (h : canM tr l m = true) : pk tr (aft l m) = pk tr l := by
  have key : ∀ {l : List Nat} (b : Bd tr l) {w : Nat}, w ∈ fre tr l true → pk tr (w :: l.dropLast) = pk tr l := fun {l} b {w} h => by
    obtain ⟨e, hx⟩ := clB_head T b h
    refine pk_shf e fun x hxm => ?_
    have h2 := hx x hxm
    have h1 := (mem_clB.mp hxm).lt
    show ((w :: l.dropLast).getD (x.1 + 1) 0, (w :: l.dropLast).getD (x.2 + 1) 0) = _
    rw [head_at (by omega), head_at h2]
  obtain ⟨e, w⟩ := m
  cases e with
  | true => exact key b (of_decide_eq_true h)
  | false =>
    obtain ⟨h1, h2⟩ := b.back T h
    obtain ⟨b', _⟩ := b.aft T h
    have := key b' (w := hd0 l) (of_decide_eq_true h1)
    have h2 : hd0 l :: (aft l (false, w)).dropLast = l := h2
    rw [h2] at this
    exact this.symm
theorem pk_run (T : TreeL tr) : ∀ (ms : List Mv) {l : List Nat}, Bd tr l → okM tr l ms = true → pk tr (endB l ms) = pk tr l
  | [], _, _, _ => rfl
  | m :: ms, l, b, h => by
    have h : (canM tr l m && okM tr (aft l m) ms) = true := h
    rw [Bool.and_eq_true] at h
    obtain ⟨c, _⟩ := b.aft T h.1
    exact (pk_run T ms c h.2).trans (pk_move T b h.1)
/-- the other way round -/
theorem rev_at {l : List Nat} {i : Nat} (h : i < l.length) : l.reverse.getD i 0 = l.getD (l.length - 1 - i) 0 := by
  rw [List.getD_eq_getElem?_getD, List.getD_eq_getElem?_getD, List.getElem?_reverse h]
theorem cl_rev {l : List Nat} {i j : Nat} (h1 : i < j) (h2 : j ≤ l.length - 1) (h3 : 2 ≤ l.length) : Cl (nrB tr l.reverse) (frB tr l.reverse) (l.reverse.length - 1) i j ↔ Cl (nrB tr l) (frB tr l) (l.length - 1) (l.length - 1 - j) (l.length - 1 - i) := by
  have e1 : nrB tr l.reverse i = frB tr l (l.length - 1 - i) := by
    unfold nrB frB
    rw [rev_at (by omega), rev_at (by omega), show l.length - 1 - (i + 1) = l.length - 1 - i - 1 by omega]
  have e2 : frB tr l.reverse j = nrB tr l (l.length - 1 - j) := by
    unfold nrB frB
    rw [rev_at (by omega), rev_at (by omega), show l.length - 1 - (j - 1) = l.length - 1 - j + 1 by omega]
  rw [List.length_reverse]
  constructor
  · intro h
    have n := h.n
    have f := h.f
    rw [e1] at n
    rw [e2] at f
    exact ⟨by omega, by omega, by omega, by omega⟩
  · intro h
    have n := h.n
    have f := h.f
    exact ⟨h1, h2, by rw [e1]; omega, by rw [e2]; omega⟩
theorem pk_rev {l : List Nat} (h3 : 2 ≤ l.length) : pk tr l.reverse = (pk tr l).map fun e => (e.2, e.1) := by
  have lr : l.reverse.length = l.length := List.length_reverse
  have mem : ∀ x : Nat × Nat, x ∈ clB tr l.reverse ↔ x.1 < x.2 ∧ x.2 ≤ l.length - 1 ∧ (l.length - 1 - x.2, l.length - 1 - x.1) ∈ clB tr l := fun x => by
    rw [mem_clB, mem_clB]
    constructor
    · intro h
      have h1 := h.lt
      have h2 := h.le
      rw [lr] at h2
      exact ⟨h1, h2, (cl_rev h1 h2 h3).mp h⟩
    · rintro ⟨h1, h2, h⟩
      exact (cl_rev h1 h2 h3).mpr h
  have memb : ∀ x : Nat × Nat, x ∈ clB tr l → x.1 < x.2 ∧ x.2 ≤ l.length - 1 ∧ (l.length - 1 - x.2, l.length - 1 - x.1) ∈ clB tr l.reverse := fun x hx => by
    have hc := mem_clB.mp hx
    have h1 := hc.lt
    have h2 := hc.le
    refine ⟨h1, h2, (mem _).mpr ⟨by show l.length - 1 - x.2 < l.length - 1 - x.1; omega, by show l.length - 1 - x.1 ≤ l.length - 1; omega, ?_⟩⟩
    show (l.length - 1 - (l.length - 1 - x.1), l.length - 1 - (l.length - 1 - x.2)) ∈ clB tr l
    rw [show l.length - 1 - (l.length - 1 - x.1) = x.1 by omega, show l.length - 1 - (l.length - 1 - x.2) = x.2 by omega]
    exact hx
  by_cases h : ∃ x, Big (clB tr l) x
  · obtain ⟨x, h1, h2⟩ := h
    obtain ⟨q1, q2, q3⟩ := memb x h1
    rw [pk_some ⟨h1, h2⟩]
    have := pk_some (tr := tr) (l := l.reverse) (x := (l.length - 1 - x.2, l.length - 1 - x.1)) ⟨q3, fun y hy => by
      obtain ⟨r1, r2, r3⟩ := (mem y).mp hy
      have := h2 _ r3
      have a1 : x.1 ≤ l.length - 1 - y.2 := this.1
      have a2 : l.length - 1 - y.1 ≤ x.2 := this.2
      exact ⟨by show l.length - 1 - x.2 ≤ y.1; omega, by show y.2 ≤ l.length - 1 - x.1; omega⟩⟩
    rw [this]
    show some (l.reverse.getD (l.length - 1 - x.2) 0, l.reverse.getD (l.length - 1 - x.1) 0) = some (l.getD x.2 0, l.getD x.1 0)
    rw [rev_at (by omega), rev_at (by omega), show l.length - 1 - (l.length - 1 - x.2) = x.2 by omega, show l.length - 1 - (l.length - 1 - x.1) = x.1 by omega]
  · have h' : ¬ ∃ x, Big (clB tr l.reverse) x := by
      rintro ⟨x, h1, h2⟩
      obtain ⟨r1, r2, r3⟩ := (mem x).mp h1
      refine h ⟨_, r3, fun y hy => ?_⟩
      obtain ⟨q1, q2, q3⟩ := memb y hy
      have := h2 _ q3
      have a1 : x.1 ≤ l.length - 1 - y.2 := this.1
      have a2 : l.length - 1 - y.1 ≤ x.2 := this.2
      exact ⟨by show l.length - 1 - x.2 ≤ y.1; omega, by show y.2 ≤ l.length - 1 - x.1; omega⟩
    unfold pk
    rw [dif_neg h, dif_neg h']
    rfl
end
end TR

namespace TR
section
variable {tr : List E2}
/-- two simple walks that leave a station by different neighbours make one -/
theorem sw_join (T : TreeL tr) {a s b x y : Nat} {p q : List Nat} (h1 : SW tr s a p) (h2 : SW tr s b q) (hx : p[1]? = some x) (hy : q[1]? = some y) (ne : x ≠ y) : SW tr a b (p.reverse ++ q.tail) := by
  obtain ⟨p', rfl⟩ : ∃ p', p = s :: x :: p' := by
    match p, h1.hd, hx with
    | u :: v :: p', h, k => cases h; cases k; exact ⟨p', rfl⟩
  obtain ⟨q', rfl⟩ : ∃ q', q = s :: y :: q' := by
    match q, h2.hd, hy with
    | u :: v :: q', h, k => cases h; cases k; exact ⟨q', rfl⟩
  have w1 := h1.wk.rev
  have n1 := (List.reverse_perm _).nodup_iff.mpr h1.nd
  have n2 := h2.nd
  have w2 := h2.wk
  have dis : ∀ z, z ∈ s :: x :: p' → z ∈ y :: q' → False := fun z m1 m2 => by
    by_cases c : z = s
    · subst c
      exact (List.nodup_cons.mp n2).1 m2
    · obtain ⟨i, hi⟩ := List.mem_iff_getElem?.mp m1
      obtain ⟨j, hj⟩ := List.mem_iff_getElem?.mp (List.mem_cons_of_mem s m2)
      have t1 := h1.take hi
      have t2 := h2.take hj
      have e := SW.uniq T t1 t2
      cases i with
      | zero => cases hi; exact c rfl
      | succ i =>
        cases j with
        | zero => cases hj; exact c rfl
        | succ j =>
          have := congrArg (fun l => l[1]?) e
          simp at this
          exact ne this
  refine ⟨?_, ?_, ?_, ?_⟩
  · show Wk tr ((s :: x :: p').reverse ++ (y :: q'))
    rw [List.reverse_cons] at w1 ⊢
    rw [List.append_assoc]
    exact Wk.glue w1 w2
  · show ((s :: x :: p').reverse ++ (y :: q')).Nodup
    rw [List.nodup_append]
    refine ⟨n1, (List.nodup_cons.mp n2).2, fun u hu v hv e => ?_⟩
    subst e
    exact dis u (List.mem_reverse.mp hu) hv
  · rw [List.head?_append, List.head?_reverse, h1.lt]
    rfl
  · show ((s :: x :: p').reverse ++ (y :: q')).getLast? = some b
    rw [List.getLast?_append]
    have := h2.lt
    rw [List.getLast?_cons_cons] at this
    rw [this]
    rfl
/-- a deepest way behind a station -/
theorem deep_ex (T : TreeL tr) : ∀ (n s b : Nat), dph tr s b = n → s ≤ tr.length → Adj tr s b → ∃ (p : List Nat) (a : Nat), SW tr s a p ∧ p.length = n + 1 ∧ (1 ≤ n → ∃ x, p[1]? = some x ∧ x ≠ b)
  | 0, s, b, h, hs, _ => ⟨[s], s, SW.one s, rfl, fun z => absurd z (by decide)⟩
  | n + 1, s, b, h, hs, ha => by
    rcases dph_ex T (b := b) hs with h0 | ⟨w, hw, hne, e⟩
    · omega
    · have hadj := (mem_nb T.ne).mp hw
      obtain ⟨p, a, sw, hl, hx⟩ := deep_ex T n w s (by omega) (T.adj_le hadj).2 hadj.sym
      have two : SW tr w s [w, s] := ⟨⟨hadj.sym, trivial⟩, by simpa using (T.adj_ne hadj).symm, rfl, rfl⟩
      refine ⟨s :: p, a, ?_, by rw [List.length_cons, hl], fun _ => ⟨w, ?_, hne⟩⟩
      · by_cases c : 1 ≤ n
        · obtain ⟨x, h1, h2⟩ := hx c
          have := sw_join T sw two h1 rfl h2
          have r := this.rev
          rw [show (p.reverse ++ [w, s].tail).reverse = s :: p from by simp] at r
          exact r
        · have : p = [w] := by
            have := sw.hd
            match p, hl, this with
            | [u], _, h => cases h; rfl
            | _ :: _ :: _, hl, _ => simp at hl; omega
          subst this
          cases sw.lt
          exact two.rev
      · match p, sw.hd with
        | u :: _, h => cases h; rfl
/-- a move reversed -/
theorem can_rev (T : TreeL tr) {l : List Nat} {e : Bool} {w : Nat} : canM tr l.reverse (!e, w) = canM tr l (e, w) := by
  unfold canM
  refine decide_eq_decide.mpr ?_
  rw [mem_fre T, mem_fre T, List.mem_reverse]
  cases e with
  | true =>
    show Adj tr (lt0 l.reverse) w ∧ _ ↔ Adj tr (hd0 l) w ∧ _
    rw [lt0_rev]
  | false =>
    show Adj tr (hd0 l.reverse) w ∧ _ ↔ Adj tr (lt0 l) w ∧ _
    rw [hd0_rev]
theorem aft_rev {l : List Nat} {e : Bool} {w : Nat} : aft l.reverse (!e, w) = (aft l (e, w)).reverse := by
  cases e with
  | true =>
    show l.reverse.tail ++ [w] = (w :: l.dropLast).reverse
    rw [List.reverse_cons, List.tail_reverse]
  | false =>
    show w :: l.reverse.dropLast = (l.tail ++ [w]).reverse
    rw [List.reverse_append, List.dropLast_reverse]
    rfl
/-- one body leads to another -/
def Leads (tr : List E2) (l m : List Nat) : Prop := ∃ ms, okM tr l ms = true ∧ endB l ms = m
theorem Leads.refl (l : List Nat) : Leads tr l l := ⟨[], rfl, rfl⟩
theorem Leads.trans {l m k : List Nat} (h : Leads tr l m) (g : Leads tr m k) : Leads tr l k := by
  obtain ⟨ms, h1, rfl⟩ := h
  obtain ⟨ns, g1, rfl⟩ := g
  exact ⟨ms ++ ns, by rw [okM_app, h1, g1]; rfl, endB_app ms ns l⟩
theorem Leads.one {l : List Nat} {m : Mv} (h : canM tr l m = true) : Leads tr l (aft l m) := ⟨[m], by show (canM tr l m && true) = true; rw [h]; rfl, rfl⟩
theorem leads_ind {C : List Nat → Prop} (hs : ∀ l m, C l → canM tr l m = true → C (aft l m)) : ∀ (ms : List Mv) (l : List Nat), okM tr l ms = true → C l → C (endB l ms)
  | [], _, _, h => h
  | m :: ms, l, ok, h => by
    have ok : (canM tr l m && okM tr (aft l m) ms) = true := ok
    rw [Bool.and_eq_true] at ok
    exact leads_ind hs ms (aft l m) ok.2 (hs l m h ok.1)
theorem Leads.bd (T : TreeL tr) {l m : List Nat} (h : Leads tr l m) (b : Bd tr l) : Bd tr m ∧ m.length = l.length := by
  obtain ⟨ms, ok, rfl⟩ := h
  exact leads_ind (C := fun k => Bd tr k ∧ k.length = l.length) (fun k m hk hc => ⟨(hk.1.aft T hc).1, (hk.1.aft T hc).2.trans hk.2⟩) ms l ok ⟨b, rfl⟩
theorem Leads.symm (T : TreeL tr) {l m : List Nat} (h : Leads tr l m) (b : Bd tr l) : Leads tr m l := by
  obtain ⟨ms, ok, rfl⟩ := h
  refine (leads_ind (C := fun k => Bd tr k ∧ Leads tr k l) (fun k m hk hc => ⟨(hk.1.aft T hc).1, ?_⟩) ms l ok ⟨b, .refl l⟩).2
  obtain ⟨h1, h2⟩ := hk.1.back T hc
  have := Leads.one h1
  rw [h2] at this
  exact this.trans hk.2
theorem Leads.rev (T : TreeL tr) {l m : List Nat} (h : Leads tr l m) : Leads tr l.reverse m.reverse := by
  obtain ⟨ms, ok, rfl⟩ := h
  refine leads_ind (C := fun k => Leads tr l.reverse k.reverse) (fun k m hk hc => ?_) ms l ok (.refl _)
  obtain ⟨e, w⟩ := m
  rw [← can_rev T] at hc
  have := Leads.one hc
  rw [aft_rev] at this
  exact hk.trans this
/-- the head goes along a way -/
theorem leads_ext (T : TreeL tr) {l : List Nat} (b : Bd tr l) : ∀ (q : List Nat), Wk tr (q ++ l) → (q ++ l).Nodup → Leads tr l ((q ++ l).take l.length)
  | [], _, _ => by
    rw [List.nil_append, List.take_length]
    exact .refl l
  | w :: q, hw, hn => by
    have hw' : Wk tr (q ++ l) := Wk.tail hw
    have hn' := List.nodup_cons.mp hn
    have ih := leads_ext T b q hw' hn'.2
    have ib := ih.bd T b
    have b2 := b.two
    have hne : ∃ x r, q ++ l = x :: r := by
      cases q with
      | nil =>
        obtain ⟨a, r, e, _⟩ := bd_cons b2
        exact ⟨a, r, e⟩
      | cons x q => exact ⟨x, q ++ l, rfl⟩
    obtain ⟨x, r, e⟩ := hne
    have hc : canM tr ((q ++ l).take l.length) (true, w) = true := by
      refine decide_eq_true ((mem_fre T).mpr ⟨?_, fun m => hn'.1 (List.mem_of_mem_take m)⟩)
      have h2 : Adj tr w x := by
        have hw2 : Wk tr (w :: (q ++ l)) := hw
        rw [e] at hw2
        exact hw2.1
      show Adj tr (hd0 ((q ++ l).take l.length)) w
      rw [e]
      obtain ⟨k, hk⟩ : ∃ k, l.length = k + 1 := ⟨l.length - 1, by omega⟩
      rw [hk]
      exact h2.sym
    have := ih.trans (.one hc)
    have e2 : aft ((q ++ l).take l.length) (true, w) = (w :: q ++ l).take l.length := by
      show w :: ((q ++ l).take l.length).dropLast = _
      obtain ⟨k, hk⟩ : ∃ k, l.length = k + 1 := ⟨l.length - 1, by omega⟩
      rw [hk]
      show w :: ((q ++ l).take (k + 1)).dropLast = w :: (q ++ l).take k
      have ll : (q ++ l).length = q.length + l.length := List.length_append
      rw [List.dropLast_eq_take, List.length_take, List.take_take, show min (min (k + 1) (q ++ l).length - 1) (k + 1) = k from by omega]
    rw [e2] at this
    exact this
/-- .. and so far that the way is made -/
theorem leads_way (T : TreeL tr) {l : List Nat} (b : Bd tr l) {p : List Nat} {a x y : Nat} (h : SW tr (hd0 l) a p) (hx : p[1]? = some x) (hy : l[1]? = some y) (ne : x ≠ y) : Leads tr l ((p.tail.reverse ++ l).take l.length) := by
  have j := sw_join T h b.sw hx hy ne
  have e : p.reverse ++ l.tail = p.tail.reverse ++ l := by
    obtain ⟨u, r, e2, _⟩ := bd_cons b.two
    subst e2
    match p, h.hd with
    | v :: p', hh =>
      have : v = u := Option.some.inj hh
      subst this
      simp
  rw [e] at j
  exact leads_ext T b _ j.wk j.nd
end
end TR

namespace TR
section
variable {tr : List E2}
/-- a body of the class that begins with a part of the body, that ends with it -/
def WF (tr : List E2) (l : List Nat) (i j : Nat) : Prop := ∃ m, Leads tr l m ∧ m.take (j - i + 1) = prt l i j
def WT (tr : List E2) (l : List Nat) (i j : Nat) : Prop := ∃ m, Leads tr l m ∧ m.drop (l.length - (j - i + 1)) = prt l i j
theorem prt_rev {l : List Nat} {i j : Nat} (h1 : i < j) (h2 : j < l.length) : prt l.reverse (l.length - 1 - j) (l.length - 1 - i) = (prt l i j).reverse := by
  refine List.ext_getElem? fun k => ?_
  by_cases c : k < j - i + 1
  · have h3 : (prt l i j).length = j - i + 1 := prt_len h1 h2
    rw [prt_at (by omega), List.getElem?_reverse (by omega), List.getElem?_reverse (by omega), h3, prt_at (by omega)]
    congr 1
    omega
  · rw [List.getElem?_eq_none (by rw [prt_len (by omega) (by rw [List.length_reverse]; omega)]; omega), List.getElem?_eq_none (by rw [List.length_reverse, prt_len h1 h2]; omega)]
theorem nrB_rev {l : List Nat} {i : Nat} (h : i + 1 < l.length) : nrB tr l.reverse i = frB tr l (l.length - 1 - i) := by
  unfold nrB frB
  rw [rev_at (by omega), rev_at (by omega), show l.length - 1 - (i + 1) = l.length - 1 - i - 1 by omega]
theorem frB_rev {l : List Nat} {j : Nat} (h1 : 1 ≤ j) (h : j < l.length) : frB tr l.reverse j = nrB tr l (l.length - 1 - j) := by
  unfold nrB frB
  rw [rev_at (by omega), rev_at (by omega), show l.length - 1 - (j - 1) = l.length - 1 - j + 1 by omega]
theorem wt_of_rev (T : TreeL tr) {l : List Nat} (b : Bd tr l) {i j : Nat} (h1 : i < j) (h2 : j < l.length) (h : WF tr l.reverse (l.length - 1 - j) (l.length - 1 - i)) : WT tr l i j := by
  obtain ⟨m, hm, e⟩ := h
  have hl := (hm.bd T b.rev).2
  rw [List.length_reverse] at hl
  have hr := hm.rev T
  rw [List.reverse_reverse] at hr
  refine ⟨m.reverse, hr, ?_⟩
  rw [prt_rev h1 h2] at e
  rw [List.drop_reverse, hl, show l.length - (l.length - (j - i + 1)) = (l.length - 1 - i) - (l.length - 1 - j) + 1 by omega, e, List.reverse_reverse]
theorem wf_of_rev (T : TreeL tr) {l : List Nat} (b : Bd tr l) {i j : Nat} (h1 : i < j) (h2 : j < l.length) (h : WT tr l.reverse (l.length - 1 - j) (l.length - 1 - i)) : WF tr l i j := by
  have b2 := b.two
  have := wt_of_rev T b.rev (i := l.length - 1 - j) (j := l.length - 1 - i) (by omega) (by rw [List.length_reverse]; omega)
  obtain ⟨m, hm, e⟩ := h
  have hl := (hm.bd T b.rev).2
  rw [List.length_reverse] at hl e
  have hr := hm.rev T
  rw [List.reverse_reverse] at hr
  refine ⟨m.reverse, hr, ?_⟩
  rw [prt_rev h1 h2] at e
  rw [List.take_reverse, hl, show l.length - (j - i + 1) = l.length - (l.length - 1 - i - (l.length - 1 - j) + 1) by omega, e, List.reverse_reverse]
theorem rev_wf (T : TreeL tr) {l : List Nat} (b : Bd tr l) {i j : Nat} (h1 : i < j) (h2 : j < l.length) (h : WT tr l i j) : WF tr l.reverse (l.length - 1 - j) (l.length - 1 - i) := by
  have b2 := b.two
  refine wf_of_rev T b.rev (by omega) (by rw [List.length_reverse]; omega) ?_
  rw [List.length_reverse, List.reverse_reverse, show l.length - 1 - (l.length - 1 - i) = i by omega, show l.length - 1 - (l.length - 1 - j) = j by omega]
  exact h
theorem rev_wt (T : TreeL tr) {l : List Nat} (b : Bd tr l) {i j : Nat} (h1 : i < j) (h2 : j < l.length) (h : WF tr l i j) : WT tr l.reverse (l.length - 1 - j) (l.length - 1 - i) := by
  have b2 := b.two
  refine wt_of_rev T b.rev (by omega) (by rw [List.length_reverse]; omega) ?_
  rw [List.length_reverse, List.reverse_reverse, show l.length - 1 - (l.length - 1 - i) = i by omega, show l.length - 1 - (l.length - 1 - j) = j by omega]
  exact h
/-- the head of such a body, and the station behind it -/
theorem wf_at {l m : List Nat} {i j : Nat} (h1 : i < j) (h2 : j < l.length) (e : m.take (j - i + 1) = prt l i j) : m[0]? = some (l.getD i 0) ∧ m[1]? = some (l.getD (i + 1) 0) := by
  have key : ∀ k, k < j - i + 1 → m[k]? = some (l.getD (i + k) 0) := fun k hk => by
    have := congrArg (fun z => z[k]?) e
    rw [List.getElem?_take, if_pos hk, prt_at (by omega), gD (l := l) (i := i + k) (by omega)] at this
    exact this
  exact ⟨key 0 (by omega), key 1 (by omega)⟩
/-- a deep way before the head -/
theorem wf_deep (T : TreeL tr) {l : List Nat} (b : Bd tr l) {i j : Nat} (h1 : i < j) (h2 : j < l.length) (h : WF tr l i j) {f : Nat} (hf : f ≤ nrB tr l i) (h0 : 1 ≤ f) :
    ∃ (m p : List Nat) (a x : Nat), Leads tr l m ∧ m.take (j - i + 1) = prt l i j ∧ SW tr (l.getD i 0) a p ∧ p.length = f + 1 ∧ p[1]? = some x ∧ x ≠ l.getD (i + 1) 0 ∧ Leads tr l ((p.tail.reverse ++ m).take l.length) := by
  obtain ⟨m, hm, e⟩ := h
  obtain ⟨e0, e1⟩ := wf_at h1 h2 e
  obtain ⟨bm, ml⟩ := hm.bd T b
  have hh : hd0 m = l.getD i 0 := by
    unfold hd0
    rw [List.headD_eq_head?_getD, List.head?_eq_getElem?, e0]
    rfl
  have g0 := gD (l := l) (i := i) (by omega)
  have g1 := gD (l := l) (i := i + 1) (by omega)
  have ha := wk_at b.sw.wk g0 g1
  have hs : l.getD i 0 ≤ tr.length := (T.adj_le ha).1
  obtain ⟨p, a, sw, hl, hx⟩ := deep_ex T (nrB tr l i) (l.getD i 0) (l.getD (i + 1) 0) rfl hs ha
  obtain ⟨x, hx1, hx2⟩ := hx (by omega)
  have gf : ∃ z, p[f]? = some z := ⟨_, List.getElem?_eq_getElem (by omega)⟩
  obtain ⟨z, hz⟩ := gf
  have sf := sw.take hz
  have lf : (p.take (f + 1)).length = f + 1 := by rw [List.length_take]; omega
  have xf : (p.take (f + 1))[1]? = some x := by rw [List.getElem?_take, if_pos (by omega)]; exact hx1
  have := leads_way T bm (by rw [hh]; exact sf) xf e1 hx2
  rw [ml] at this
  exact ⟨m, p.take (f + 1), z, x, hm, e, sf, lf, xf, hx2, hm.trans this⟩
theorem wf_less {l : List Nat} {i j k : Nat} (h1 : i < k) (h2 : k ≤ j) (h : WF tr l i j) : WF tr l i k := by
  obtain ⟨m, hm, e⟩ := h
  refine ⟨m, hm, ?_⟩
  have := congrArg (fun z => z.take (k - i + 1)) e
  rw [List.take_take, Nat.min_eq_left (by omega), prt_take h2 (by omega)] at this
  exact this
/-- the front side's turn -/
theorem wt_front (T : TreeL tr) {l : List Nat} (b : Bd tr l) {i j : Nat} (st : StI (nrB tr l) (frB tr l) (l.length - 1) i j) (hn : nrB tr l i < l.length - 1) (h : WF tr l i j) : WT tr l i (i + (l.length - 1) - nrB tr l i) := by
  have b2 := b.two
  have h1 := st.lt
  have h2 := st.le
  obtain ⟨s2, le, _⟩ := st.front (brn_of T b) hn
  have lt2 := s2.lt
  have h' := wf_less lt2 le h
  by_cases c : 1 ≤ nrB tr l i
  · obtain ⟨m, p, a, x, hm, e, sw, hl, _, _, hk⟩ := wf_deep T b lt2 (by omega) h' (Nat.le_refl _) c
    have ml := (hm.bd T b).2
    refine ⟨_, hk, ?_⟩
    have lp : p.tail.reverse.length = nrB tr l i := by rw [List.length_reverse, List.length_tail, hl]; rfl
    rw [show l.length - (i + (l.length - 1) - nrB tr l i - i + 1) = nrB tr l i by omega, List.drop_take, List.drop_append_of_le_length (by omega), List.drop_of_length_le (by omega), List.nil_append]
    rw [← e]
    congr 1
    omega
  · obtain ⟨m, hm, e⟩ := h'
    have ml := (hm.bd T b).2
    refine ⟨m, hm, ?_⟩
    have i0 : i = 0 := by omega
    subst i0
    rw [show l.length - (0 + (l.length - 1) - nrB tr l 0 - 0 + 1) = 0 by omega, List.drop_zero, ← e, List.take_of_length_le (by omega)]
theorem st_rev (T : TreeL tr) {l : List Nat} (b : Bd tr l) {i j : Nat} (st : StI (nrB tr l) (frB tr l) (l.length - 1) i j) : StI (nrB tr l.reverse) (frB tr l.reverse) (l.reverse.length - 1) (l.length - 1 - j) (l.length - 1 - i) := by
  have b2 := b.two
  have h1 := st.lt
  have h2 := st.le
  have h3 := st.n
  have h4 := st.f
  refine ⟨by omega, by rw [List.length_reverse]; omega, ?_, ?_⟩
  · rw [List.length_reverse, nrB_rev (by omega), show l.length - 1 - (l.length - 1 - j) = j by omega]
    omega
  · rw [List.length_reverse, frB_rev (by omega) (by omega), show l.length - 1 - (l.length - 1 - i) = i by omega]
    omega
theorem wf_rear (T : TreeL tr) {l : List Nat} (b : Bd tr l) {i j : Nat} (st : StI (nrB tr l) (frB tr l) (l.length - 1) i j) (hn : frB tr l j < l.length - 1) (h : WT tr l i j) : WF tr l (j + frB tr l j - (l.length - 1)) j := by
  have b2 := b.two
  have h1 := st.lt
  have h2 := st.le
  obtain ⟨s2, le, _⟩ := st.rear (brn_of T b) hn
  have lt2 := s2.lt
  have hr := rev_wf T b h1 (by omega) h
  have e1 : nrB tr l.reverse (l.length - 1 - j) = frB tr l j := by rw [nrB_rev (by omega), show l.length - 1 - (l.length - 1 - j) = j by omega]
  have := wt_front T b.rev (st_rev T b st) (by rw [e1, List.length_reverse]; exact hn) hr
  rw [e1, List.length_reverse] at this
  refine wf_of_rev T b lt2 (by omega) ?_
  rw [show l.length - 1 - (j + frB tr l j - (l.length - 1)) = l.length - 1 - j + (l.length - 1) - frB tr l j by omega]
  exact this
theorem wt_less {l : List Nat} {i j k : Nat} (h1 : i ≤ k) (h2 : k < j) (hj : j < l.length) (hl : j - i + 1 ≤ l.length) (h : WT tr l i j) : WT tr l k j := by
  obtain ⟨m, hm, e⟩ := h
  refine ⟨m, hm, ?_⟩
  have := congrArg (fun z => z.drop (k - i)) e
  rw [List.drop_drop, prt_drop (by omega), show i + (k - i) = k by omega] at this
  rw [← this]
  congr 1
  omega
/-- all parts of a climb are found in the class -/
theorem prg_wf (T : TreeL tr) {l : List Nat} (b : Bd tr l) {n i j : Nat} {r : List (Nat × Nat)} (h : Prg (nrB tr l) (frB tr l) (l.length - 1) n i j r) : StI (nrB tr l) (frB tr l) (l.length - 1) i j → WF tr l i j → WT tr l i j → WF tr l (lst2 (i, j) r).1 (lst2 (i, j) r).2 ∧ WT tr l (lst2 (i, j) r).1 (lst2 (i, j) r).2 := by
  have b2 := b.two
  induction h with
  | loose _ => exact fun _ h1 h2 => ⟨h1, h2⟩
  | fixed _ _ _ _ => exact fun _ h1 h2 => ⟨h1, h2⟩
  | @front n i j r n1 n2 n3 q ih =>
    intro st h1 h2
    obtain ⟨s2, le, _⟩ := st.front (brn_of T b) n1
    have lt2 := s2.lt
    rw [lst2_cons]
    exact ih s2 (wf_less lt2 le h1) (wt_front T b st n1 h1)
  | @rear n i j r n1 n2 n3 n4 q ih =>
    intro st h1 h2
    obtain ⟨s2, le, _⟩ := st.rear (brn_of T b) n2
    have lt2 := s2.lt
    have h3 := st.lt
    have h4 := st.le
    rw [lst2_cons]
    exact ih s2 (wf_rear T b st n2 h2) (wt_less le lt2 (by omega) (by omega) h2)
theorem wf_all {l : List Nat} (h : 2 ≤ l.length) : WF tr l 0 (l.length - 1) ∧ WT tr l 0 (l.length - 1) := by
  refine ⟨⟨l, .refl l, ?_⟩, ⟨l, .refl l, ?_⟩⟩
  · rw [prt_all h, List.take_of_length_le (by omega)]
  · rw [prt_all h, show l.length - (l.length - 1 - 0 + 1) = 0 by omega, List.drop_zero]
end
end TR

namespace TR
section
variable {tr : List E2}
/-- what is found at the end of a climb -/
theorem pk_cases (T : TreeL tr) {l : List Nat} (b : Bd tr l) :
    (pk tr l = none ∧ ∃ i j, StI (nrB tr l) (frB tr l) (l.length - 1) i j ∧ WF tr l i j ∧ WT tr l i j ∧ (l.length - 1 ≤ nrB tr l i ∨ l.length - 1 ≤ frB tr l j)) ∨
    ∃ p q, pk tr l = some (l.getD p 0, l.getD q 0) ∧ Fx (nrB tr l) (frB tr l) (l.length - 1) p q ∧ WF tr l p q ∧ WT tr l p q := by
  have b2 := b.two
  have br := brn_of T b
  have st0 : StI (nrB tr l) (frB tr l) (l.length - 1) 0 (l.length - 1) := .start (by omega)
  obtain ⟨n0, r, c, cm⟩ := clm_ex br (3 * (l.length - 1) + 2) 0 0 0 (l.length - 1) st0 (by decide) (by omega)
  have si : Si (nrB tr l) (frB tr l) (l.length - 1) 0 0 0 (l.length - 1) := ⟨fun z => absurd z (by omega), fun z => absurd z (by omega)⟩
  obtain ⟨a1, _, _, _, a5, a6, _⟩ := clm_end br cm (by decide) st0 si
  obtain ⟨n2, pg⟩ := clm_prg br cm (by decide) st0 ⟨fun z => absurd rfl z, fun _ z => absurd z (by decide), fun z => absurd z (by decide)⟩
  have e := pk_clm T b cm
  obtain ⟨w1, w2⟩ := prg_wf T b pg st0 (wf_all b2).1 (wf_all b2).2
  cases c with
  | true =>
    rw [if_pos rfl] at e
    exact .inl ⟨e, _, _, a1, w1, w2, a6 rfl⟩
  | false =>
    rw [if_neg (by decide)] at e
    exact .inr ⟨_, _, e, a5 rfl, w1, w2⟩
/-- a deepest way, by choice -/
noncomputable def dpw (tr : List E2) (s b : Nat) : List Nat := open Classical in if h : ∃ (p : List Nat) (a : Nat), SW tr s a p ∧ p.length = dph tr s b + 1 ∧ (1 ≤ dph tr s b → ∃ x, p[1]? = some x ∧ x ≠ b) then h.choose else []
theorem dpw_spec (T : TreeL tr) {s b : Nat} (hs : s ≤ tr.length) (ha : Adj tr s b) : ∃ a : Nat, SW tr s a (dpw tr s b) ∧ (dpw tr s b).length = dph tr s b + 1 ∧ (1 ≤ dph tr s b → ∃ x, (dpw tr s b)[1]? = some x ∧ x ≠ b) := by
  have h : ∃ (p : List Nat) (a : Nat), SW tr s a p ∧ p.length = dph tr s b + 1 ∧ (1 ≤ dph tr s b → ∃ x, p[1]? = some x ∧ x ≠ b) := deep_ex T _ s b rfl hs ha
  unfold dpw
  rw [dif_pos h]
  exact h.choose_spec
/-- the standing of a class that its pocket tells -/
noncomputable def canP (tr : List E2) (u v : Nat) : List Nat := (dpw tr u ((pl tr u v).getD 1 0)).tail.reverse ++ pl tr u v
theorem prt_pl (T : TreeL tr) {l : List Nat} (b : Bd tr l) {i j : Nat} (h1 : i < j) (h2 : j < l.length) : prt l i j = pl tr (l.getD i 0) (l.getD j 0) := by
  have r := prt_bd T b h1 h2
  have := r.bd.sw
  rw [r.h, r.t] at this
  exact (pl_eq T this).symm
theorem pk_canP (T : TreeL tr) {l : List Nat} (b : Bd tr l) {u v : Nat} (h : pk tr l = some (u, v)) : Leads tr l (canP tr u v) := by
  have b2 := b.two
  rcases pk_cases T b with ⟨e, _⟩ | ⟨p, q, e, fx, w1, _⟩
  · rw [e] at h
    cases h
  · rw [e] at h
    have h := Option.some.inj h
    have eu : l.getD p 0 = u := (Prod.mk.inj h).1
    have ev : l.getD q 0 = v := (Prod.mk.inj h).2
    have f1 := fx.lt
    have f2 := fx.le
    have f3 := fx.n
    obtain ⟨m, hm, em⟩ := w1
    obtain ⟨bm, ml⟩ := hm.bd T b
    obtain ⟨m0, m1⟩ := wf_at f1 (by omega) em
    have ep := prt_pl T b f1 (by omega : q < l.length)
    rw [eu, ev] at ep
    have e1 : (pl tr u v).getD 1 0 = l.getD (p + 1) 0 := by
      rw [← ep]
      refine gD_of ?_
      rw [prt_at (by omega)]
      exact gD (by omega)
    have g0 := gD (l := l) (i := p) (by omega)
    have g1 := gD (l := l) (i := p + 1) (by omega)
    have ha := wk_at b.sw.wk g0 g1
    obtain ⟨a, sw, hl, hx⟩ := dpw_spec T (T.adj_le ha).1 ha
    have hh : hd0 m = l.getD p 0 := by
      unfold hd0
      rw [List.headD_eq_head?_getD, List.head?_eq_getElem?, m0]
      rfl
    unfold canP
    rw [e1, ← ep, ← eu, ← em]
    have en : dph tr (l.getD p 0) (l.getD (p + 1) 0) = nrB tr l p := rfl
    rw [en] at hl hx
    generalize dpw tr (l.getD p 0) (l.getD (p + 1) 0) = d at sw hl hx ⊢
    clear en e1 ep eu ev e
    generalize nrB tr l p = f at *
    by_cases c : 1 ≤ f
    · obtain ⟨x, hx1, hx2⟩ := hx c
      clear hx
      have k := leads_way T bm (by rw [hh]; exact sw) hx1 m1 hx2
      have lp : d.tail.reverse.length = f := by rw [List.length_reverse, List.length_tail, hl]; rfl
      have e2 : (d.tail.reverse ++ m).take m.length = d.tail.reverse ++ m.take (q - p + 1) := by
        rw [List.take_append, List.take_of_length_le (by omega), lp]
        congr 2
        omega
      rw [e2] at k
      exact hm.trans k
    · clear hx
      have : d = [l.getD p 0] := by
        have := sw.hd
        match d, hl, this with
        | [y], _, h => cases h; rfl
        | [], hl, _ => simp at hl
        | _ :: _ :: _, hl, _ => simp at hl; omega
      rw [this]
      show Leads tr l ([] ++ m.take (q - p + 1))
      rw [List.nil_append, List.take_of_length_le (by omega)]
      exact hm
/-- two bodies of one length with one pocket -/
theorem pk_leads (T : TreeL tr) {l m : List Nat} (b : Bd tr l) (c : Bd tr m) {u v : Nat} (h : pk tr l = some (u, v)) (k : pk tr m = some (u, v)) : Leads tr l m :=
  (pk_canP T b h).trans ((pk_canP T c k).symm T c)
theorem pk_class (T : TreeL tr) {l m : List Nat} (b : Bd tr l) (h : Leads tr l m) : pk tr m = pk tr l := by
  obtain ⟨ms, ok, rfl⟩ := h
  exact pk_run T ms b ok
/-- the pocket lies on all bodies of a class, and only it -/
theorem pk_common (T : TreeL tr) {l : List Nat} (b : Bd tr l) {u v : Nat} (h : pk tr l = some (u, v)) : ∃ p q, p < q ∧ q < l.length ∧ l.getD p 0 = u ∧ l.getD q 0 = v ∧ (∀ z, (∀ m, Leads tr l m → z ∈ m) ↔ z ∈ prt l p q) ∧ (∃ m, Leads tr l m ∧ hd0 m = u) ∧ ∃ m, Leads tr l m ∧ lt0 m = v := by
  have b2 := b.two
  rcases pk_cases T b with ⟨e, _⟩ | ⟨p, q, e, fx, w1, w2⟩
  · rw [e] at h
    cases h
  · rw [e] at h
    have h := Option.some.inj h
    have eu : l.getD p 0 = u := (Prod.mk.inj h).1
    have ev : l.getD q 0 = v := (Prod.mk.inj h).2
    have f1 := fx.lt
    have f2 := fx.le
    obtain ⟨m, hm, em⟩ := w1
    obtain ⟨k, hk, ek⟩ := w2
    obtain ⟨bm, ml⟩ := hm.bd T b
    obtain ⟨bk, kl⟩ := hk.bd T b
    have ep := prt_pl T b f1 (by omega : q < l.length)
    have hpr := prt_len f1 (show q < l.length by omega)
    have rp := prt_bd T b f1 (show q < l.length by omega)
    have hh : hd0 m = u := by
      obtain ⟨m0, _⟩ := wf_at f1 (by omega) em
      unfold hd0
      rw [List.headD_eq_head?_getD, List.head?_eq_getElem?, m0, ← eu]
      rfl
    have ht : lt0 k = v := by
      have e0 : k = k.take (l.length - (q - p + 1)) ++ prt l p q := by rw [← ek, List.take_append_drop]
      unfold lt0
      rw [e0, List.getLastD_eq_getLast?, List.getLast?_append, rp.bd.sw.lt, rp.t, ← ev]
      rfl
    refine ⟨p, q, f1, by omega, eu, ev, fun z => ⟨fun hz => ?_, fun hz m' hm' => ?_⟩, ⟨m, hm, hh⟩, ⟨k, hk, ht⟩⟩
    · refine Classical.byContradiction fun nz => ?_
      have z1 := hz m hm
      have z2 := hz k hk
      have em' : m = prt l p q ++ m.drop (q - p + 1) := by rw [← em, List.take_append_drop]
      have ek' : k = k.take (l.length - (q - p + 1)) ++ prt l p q := by rw [← ek, List.take_append_drop]
      have d1 : z ∈ m.drop (q - p + 1) := by
        rw [em'] at z1
        rcases List.mem_append.mp z1 with h | h
        · exact absurd h nz
        · exact h
      have d2 : z ∈ k.take (l.length - (q - p + 1)) := by
        rw [ek'] at z2
        rcases List.mem_append.mp z2 with h | h
        · exact h
        · exact absurd h nz
      obtain ⟨i, hi⟩ := List.mem_iff_getElem?.mp d1
      obtain ⟨j, hj⟩ := List.mem_iff_getElem?.mp d2
      have jl := (List.getElem?_eq_some_iff.mp hj).1
      rw [List.length_take] at jl
      rw [List.getElem?_drop] at hi
      rw [List.getElem?_take, if_pos (by omega)] at hj
      -- u .. v .. z, and z .. u .. v
      have mq : m[q - p]? = some v := by
        rw [em', List.getElem?_append_left (by omega), prt_at (by omega), show p + (q - p) = q by omega, gD (by omega), ev]
      have m0 := sw_at0 bm.sw
      rw [hh] at m0
      have ku : k[l.length - (q - p + 1)]? = some u := by
        rw [ek', List.getElem?_append_right (by rw [List.length_take]; omega), List.length_take, show l.length - (q - p + 1) - min (l.length - (q - p + 1)) k.length = 0 by omega, prt_at (by omega), Nat.add_zero, gD (by omega), eu]
      have kv : k[l.length - 1]? = some v := by
        have := sw_atl bk.sw
        rw [ht, kl] at this
        exact this
      -- v to z in m
      have s1 := (bm.sw.take hi).drop (show (m.take (q - p + 1 + i + 1))[q - p]? = some v by rw [List.getElem?_take, if_pos (by omega)]; exact mq)
      -- z to v in k
      have s2 := (bk.sw.take kv).drop (show (k.take (l.length - 1 + 1))[j]? = some z by rw [List.getElem?_take, if_pos (by omega)]; exact hj)
      have e3 := SW.uniq T s1 s2.rev
      have hu : u ∈ (m.take (q - p + 1 + i + 1)).drop (q - p) := by
        rw [e3, List.mem_reverse]
        refine List.mem_iff_getElem?.mpr ⟨l.length - (q - p + 1) - j, ?_⟩
        rw [List.getElem?_drop, List.getElem?_take, if_pos (by omega), show j + (l.length - (q - p + 1) - j) = l.length - (q - p + 1) by omega]
        exact ku
      obtain ⟨w, hw⟩ := List.mem_iff_getElem?.mp hu
      rw [List.getElem?_drop, List.getElem?_take] at hw
      split at hw
      · exact sw_ne bm.sw m0 hw (by omega) rfl
      · cases hw
    · obtain ⟨b', l'⟩ := hm'.bd T b
      have b2' := b'.two
      have e' := pk_class T b hm'
      rw [e] at e'
      rcases pk_cases T b' with ⟨e2, _⟩ | ⟨p', q', e2, fx', _⟩
      · rw [e2] at e'
        cases e'
      · rw [e2] at e'
        have e' := Option.some.inj e'
        have f1' := fx'.lt
        have f2' := fx'.le
        have ep' := prt_pl T b' f1' (by omega : q' < m'.length)
        rw [(Prod.mk.inj e').1, (Prod.mk.inj e').2, ← ep] at ep'
        rw [← ep'] at hz
        unfold prt at hz
        exact List.mem_of_mem_drop (List.mem_of_mem_take hz)
/-- a free body's class has two bodies with at most one station in common -/
theorem free_apart (T : TreeL tr) {l : List Nat} (b : Bd tr l) (h : pk tr l = none) : ∃ m k s, Leads tr l m ∧ Leads tr l k ∧ ∀ z, z ∈ m → z ∈ k → z = s := by
  have key : ∀ {l : List Nat}, Bd tr l → ∀ {i j : Nat}, StI (nrB tr l) (frB tr l) (l.length - 1) i j → WF tr l i j → l.length - 1 ≤ nrB tr l i → ∃ m k s, Leads tr l m ∧ Leads tr l k ∧ ∀ z, z ∈ m → z ∈ k → z = s := by
    intro l b i j st w hn
    have b2 := b.two
    have h1 := st.lt
    have h2 := st.le
    obtain ⟨m, p, a, x, hm, e, sw, hl, hx, ne, hk⟩ := wf_deep T b h1 (by omega) w (f := l.length - 1) hn (by omega)
    obtain ⟨bm, ml⟩ := hm.bd T b
    obtain ⟨m0, m1⟩ := wf_at h1 (by omega) e
    have hh : hd0 m = l.getD i 0 := by
      unfold hd0
      rw [List.headD_eq_head?_getD, List.head?_eq_getElem?, m0]
      rfl
    refine ⟨m, _, l.getD i 0, hm, hk, fun z z1 z2 => ?_⟩
    have sm := bm.sw
    rw [hh] at sm
    have j := sw_join T sw sm hx m1 ne
    have lp : p.tail.reverse.length = l.length - 1 := by rw [List.length_reverse, List.length_tail, hl]; rfl
    have z2' := z2
    rw [List.take_append, List.take_of_length_le (by omega), lp, show l.length - (l.length - 1) = 1 by omega] at z2
    rcases List.mem_append.mp z2 with z2 | z2
    · have nd := j.nd
      rw [List.nodup_append] at nd
      obtain ⟨y, r, em, _⟩ := bd_cons bm.two
      have hy : y = l.getD i 0 := by
        rw [em] at m0
        exact Option.some.inj m0
      rw [em] at z1
      rcases List.mem_cons.mp z1 with rfl | z1
      · exact hy
      · refine absurd rfl (nd.2.2 z (List.mem_reverse.mpr (List.mem_of_mem_tail (List.mem_reverse.mp z2))) z ?_)
        rw [em]
        exact z1
    · obtain ⟨y, r, em, _⟩ := bd_cons bm.two
      rw [em] at z2 m0
      have : z = y := by simpa using z2
      rw [this]
      exact Option.some.inj m0
  rcases pk_cases T b with ⟨_, i, j, st, w1, w2, hn | hf⟩ | ⟨p, q, e, _⟩
  · exact key b st w1 hn
  · have b2 := b.two
    have h1 := st.lt
    have h2 := st.le
    have e1 : nrB tr l.reverse (l.length - 1 - j) = frB tr l j := by rw [nrB_rev (by omega), show l.length - 1 - (l.length - 1 - j) = j by omega]
    obtain ⟨m, k, s, hm, hk, hz⟩ := key b.rev (st_rev T b st) (rev_wf T b h1 (by omega) w2) (by rw [e1, List.length_reverse]; exact hf)
    have hm := hm.rev T
    have hk := hk.rev T
    rw [List.reverse_reverse] at hm hk
    exact ⟨_, _, s, hm, hk, fun z z1 z2 => hz z (List.mem_reverse.mp z1) (List.mem_reverse.mp z2)⟩
  · rw [e] at h
    cases h
end
end TR

namespace TR
section
variable {tr : List E2}
/-- a body held between two shallow branches of a station -/
structure Hld (tr : List E2) (N x q y : Nat) (l : List Nat) : Prop where
  bd : Bd tr l
  len : l.length = N
  at_ : ∃ k, l[k]? = some x ∧ l[k + 1]? = some q ∧ l[k + 2]? = some y
theorem nr_ge (T : TreeL tr) {l : List Nat} (b : Bd tr l) {k x q : Nat} (hx : l[k]? = some x) (hq : l[k + 1]? = some q) : k ≤ dph tr x q := by
  have lt := (List.getElem?_eq_some_iff.mp hq).1
  have := (brn_of T b).up_le (i := 0) (p := k) (Nat.zero_le _) (by omega)
  unfold nrB at this
  rw [gD_of hx, gD_of hq] at this
  omega
theorem fr_ge (T : TreeL tr) {l : List Nat} (b : Bd tr l) {k q y : Nat} (hq : l[k]? = some q) (hy : l[k + 1]? = some y) : l.length - 1 - (k + 1) ≤ dph tr y q := by
  have lt := (List.getElem?_eq_some_iff.mp hy).1
  have := (brn_of T b).dn_le (q := k + 1) (j := l.length - 1) (by omega) (by omega) (Nat.le_refl _)
  unfold frB at this
  rw [gD_of hy, show k + 1 - 1 = k by omega, gD_of hq] at this
  omega
theorem held_step (T : TreeL tr) {N x q y : Nat} (d1 : dph tr x q + 1 < N - 1) (d2 : dph tr y q + 1 < N - 1) (l : List Nat) (m : Mv) (h : Hld tr N x q y l) (hm : canM tr l m = true) : Hld tr N x q y (aft l m) := by
  obtain ⟨b, len, k, hx, hq, hy⟩ := h
  obtain ⟨b2, l2⟩ := b.aft T hm
  refine ⟨b2, by rw [l2, len], ?_⟩
  have ly := (List.getElem?_eq_some_iff.mp hy).1
  obtain ⟨e, w⟩ := m
  cases e with
  | true =>
    have up : ∀ {i v : Nat}, l[i]? = some v → i + 1 < l.length → (aft l (true, w))[i + 1]? = some v := fun {i v} hv lt => by
      show (w :: l.dropLast)[i + 1]? = some v
      rw [List.getElem?_cons_succ, List.getElem?_dropLast, if_pos (by omega)]
      exact hv
    have g := nr_ge T b2 (up hx (by omega)) (up hq (by omega))
    exact ⟨k + 1, up hx (by omega), up hq (by omega), up hy (by omega)⟩
  | false =>
    have dn : ∀ {i v : Nat}, l[i + 1]? = some v → (aft l (false, w))[i]? = some v := fun {i v} hv => by
      show (l.tail ++ [w])[i]? = some v
      have lt := (List.getElem?_eq_some_iff.mp hv).1
      rw [List.getElem?_append_left (by rw [List.length_tail]; omega), List.getElem?_tail]
      exact hv
    cases k with
    | zero =>
      have g := fr_ge T b2 (dn hq) (dn hy)
      rw [l2, len] at g
      omega
    | succ k => exact ⟨k, dn hx, dn hq, dn hy⟩
/-- such a body is not free -/
theorem held (T : TreeL tr) {l : List Nat} (b : Bd tr l) {k x q y : Nat} (hx : l[k]? = some x) (hq : l[k + 1]? = some q) (hy : l[k + 2]? = some y) (d1 : dph tr x q + 1 < l.length - 1) (d2 : dph tr y q + 1 < l.length - 1) : pk tr l ≠ none := fun h => by
  obtain ⟨m, j, s, h1, h2, ap⟩ := free_apart T b h
  have all : ∀ {n : List Nat}, Leads tr l n → Hld tr l.length x q y n := fun {n} ⟨ms, ok, e⟩ => by
    have := leads_ind (tr := tr) (C := Hld tr l.length x q y) (held_step T d1 d2) ms l ok ⟨b, rfl, k, hx, hq, hy⟩
    rw [e] at this
    exact this
  obtain ⟨b1, _, i1, p1, p2, _⟩ := all h1
  obtain ⟨_, _, i2, q1, q2, _⟩ := all h2
  have e1 := ap x (List.mem_of_getElem? p1) (List.mem_of_getElem? q1)
  have e2 := ap q (List.mem_of_getElem? p2) (List.mem_of_getElem? q2)
  have := (List.getElem?_inj (i := i1) (j := i1 + 1) (by have := (List.getElem?_eq_some_iff.mp p2).1; omega) b1.sw.nd).mp (by rw [p1, p2, e1, e2])
  omega
/-- how two paths from a station part -/
theorem sw_part (T : TreeL tr) : ∀ (p q : List Nat) (s a b : Nat), SW tr s a p → SW tr s b q → ∃ (c : Nat) (r p' q' : List Nat), p = r ++ p' ∧ q = r ++ q' ∧ SW tr c a p' ∧ SW tr c b q' ∧ (p' = [c] ∨ q' = [c] ∨ ∃ x y, p'[1]? = some x ∧ q'[1]? = some y ∧ x ≠ y)
  | [], q, s, a, b, h, _ => nomatch h.hd
  | [u], q, s, a, b, h, k => by
    cases h.hd
    exact ⟨u, [], [u], q, rfl, rfl, h, k, .inl rfl⟩
  | u :: v :: p, [], s, a, b, h, k => nomatch k.hd
  | u :: v :: p, [w], s, a, b, h, k => by
    cases k.hd
    exact ⟨w, [], _, _, rfl, rfl, h, k, .inr (.inl rfl)⟩
  | u :: v :: p, w :: z :: q, s, a, b, h, k => by
    cases h.hd
    cases k.hd
    by_cases c : v = z
    · subst c
      have h' : SW tr v a (v :: p) := ⟨h.wk.2, (List.nodup_cons.mp h.nd).2, rfl, by have := h.lt; rwa [List.getLast?_cons_cons] at this⟩
      have k' : SW tr v b (v :: q) := ⟨k.wk.2, (List.nodup_cons.mp k.nd).2, rfl, by have := k.lt; rwa [List.getLast?_cons_cons] at this⟩
      obtain ⟨x, r, p', q', e1, e2, h1, h2, h3⟩ := sw_part T (v :: p) (v :: q) v a b h' k'
      exact ⟨x, u :: r, p', q', by rw [e1]; rfl, by rw [e2]; rfl, h1, h2, h3⟩
    · exact ⟨u, [], _, _, rfl, rfl, h, k, .inr (.inr ⟨v, z, rfl, rfl, c⟩)⟩
end
end TR

namespace TR
section
variable {tr : List E2}
theorem filter_all {P : Nat → Bool} {l : List Nat} (h : ∀ z ∈ l, P z = true) : l.filter P = l := List.filter_eq_self.mpr h
theorem filter_none {P : Nat → Bool} {l : List Nat} (h : ∀ z ∈ l, P z = false) : l.filter P = [] := List.filter_eq_nil_iff.mpr fun z hz => by rw [h z hz]; decide
/-- where a station hangs on a line -/
structure Gt (tr : List E2) (m : List Nat) (s i g : Nat) (r : List Nat) : Prop where
  num : mkN tr m s = i + 1
  at_ : m[i]? = some g
  pth : SW tr (hd0 m) s (m.take (i + 1) ++ r)
  off : ∀ z ∈ r, z ∉ m
theorem gate (T : TreeL tr) {m : List Nat} (b : Bd tr m) {s : Nat} (hs : s ≤ tr.length) : ∃ i g r, Gt tr m s i g r := by
  obtain ⟨p, sp, _⟩ := sw_ex T b.hle hs
  obtain ⟨c, r, p', m', e1, e2, h1, h2, h3⟩ := sw_part T p m _ _ _ sp b.sw
  obtain ⟨p2, rfl⟩ : ∃ p2, p' = c :: p2 := by
    match p', h1.hd with
    | u :: p2, h => cases h; exact ⟨p2, rfl⟩
  obtain ⟨m2, rfl⟩ : ∃ m2, m' = c :: m2 := by
    match m', h2.hd with
    | u :: m2, h => cases h; exact ⟨m2, rfl⟩
  have nd := sp.nd
  rw [e1] at nd
  have off : ∀ z ∈ p2, z ∉ m := fun z hz hm => by
    rw [e2] at hm
    rcases List.mem_append.mp hm with hm | hm
    · exact (List.nodup_append.mp nd).2.2 z hm z (List.mem_cons_of_mem _ hz) rfl
    rcases List.mem_cons.mp hm with rfl | hm
    · exact (List.nodup_cons.mp (List.nodup_append.mp nd).2.1).1 hz
    rcases h3 with h3 | h3 | ⟨x, y, hx, hy, ne⟩
    · cases h3
      cases hz
    · cases h3
      cases hm
    · have j := (sw_join T h1 h2 hx hy ne).nd
      rw [List.reverse_cons, List.append_assoc] at j
      exact (List.nodup_append.mp j).2.2 z (List.mem_reverse.mpr hz) z (List.mem_append_right _ hm) rfl
  have tk : m.take (r.length + 1) = r ++ [c] := by
    rw [e2, List.take_append, List.take_of_length_le (by omega), Nat.add_sub_cancel_left]
    rfl
  have ep : p = (r ++ [c]) ++ p2 := by rw [e1]; simp
  refine ⟨r.length, c, p2, ?_, ?_, ?_, off⟩
  · unfold mkN
    rw [pl_eq T sp, ep, List.filter_append, filter_all (fun z hz => ?_), filter_none (fun z hz => decide_eq_false (off z hz))]
    · simp
    · rw [decide_eq_true_iff, e2]
      rcases List.mem_append.mp hz with hz | hz
      · exact List.mem_append_left _ hz
      · rw [List.mem_singleton.mp hz]
        simp
  · rw [e2, List.getElem?_append_right (Nat.le_refl _), Nat.sub_self]
    rfl
  · rw [tk, ← ep]
    exact sp
theorem Gt.way (T : TreeL tr) {m : List Nat} {s i g : Nat} {r : List Nat} (h : Gt tr m s i g r) : SW tr g s (g :: r) := by
  have lt := (List.getElem?_eq_some_iff.mp h.at_).1
  have e : m.take (i + 1) = m.take i ++ [g] := take_snoc h.at_
  have := h.pth
  rw [e, List.append_assoc] at this
  exact this.part
/-- a branch beside a divide is shallow all the way -/
theorem shallow (T : TreeL tr) {m : List Nat} (bm : Bd tr m) {L : Nat} (dv : isDv tr L m = true) {g a : Nat} {r : List Nat} (hg : g ∈ m) (sw : SW tr g a (g :: r)) (off : ∀ z ∈ r, z ∉ m) {k c x : Nat} (hc : (g :: r)[k]? = some c) (hx : (g :: r)[k + 1]? = some x) : dph tr x c + k + 1 < L := by
  match r, sw, off, hc, hx with
  | [], sw, off, hc, hx =>
    rw [List.getElem?_cons_succ] at hx
    cases hx
  | w :: r, sw, off, hc, hx =>
    have hw : Adj tr g w := sw.wk.1
    have ne : g ≠ a := fun z => by
      have := sw.lt
      rw [List.getLast?_cons_cons] at this
      have := List.mem_of_getLast? this
      rw [← z] at this
      exact (List.nodup_cons.mp sw.nd).1 this
    obtain ⟨b, _, _⟩ := sw_bd T sw (bm.le g hg) ne
    have lt := (List.getElem?_eq_some_iff.mp hx).1
    have := (brn_of T b).dn_le (q := 1) (j := k + 1) (Nat.le_refl _) (by omega) (by omega)
    unfold frB at this
    rw [gD_of hx, show k + 1 - 1 = k by omega, gD_of hc] at this
    have e1 : (g :: w :: r).getD 1 0 = w := rfl
    have e0 : (g :: w :: r).getD (1 - 1) 0 = g := rfl
    rw [e1, e0] at this
    have := (of_decide_eq_true dv) g hg w ((mem_nb T.ne).mpr hw) (off w List.mem_cons_self)
    omega
/-- head and tail of a free standing have different marks on a divide -/
theorem mk_ne (T : TreeL tr) {m l : List Nat} (bm : Bd tr m) {L : Nat} (dv : isDv tr L m = true) (b : Bd tr l) (len : l.length = L + 1) (free : pk tr l = none) : mkN tr m (hd0 l) ≠ mkN tr m (lt0 l) := fun h => by
  have b2 := b.two
  obtain ⟨i, g, r1, g1⟩ := gate T bm b.hle
  obtain ⟨i2, g', r2, g2⟩ := gate T bm b.lle
  rw [g1.num, g2.num] at h
  cases Nat.succ.inj h
  cases g1.at_.symm.trans g2.at_
  have hg := List.mem_of_getElem? g1.at_
  have w1 := g1.way T
  have w2 := g2.way T
  obtain ⟨c, r, p', q', e1, e2, h1, h2, h3⟩ := sw_part T _ _ _ _ _ w1 w2
  have out : ∀ {r1 p' r : List Nat} {a : Nat}, SW tr g a (g :: r1) → (∀ z ∈ r1, z ∉ m) → g :: r1 = r ++ p' → p'.length = L + 1 → False := fun {r1 p' r a} w off e hl => by
    have el := congrArg List.length e
    rw [List.length_append] at el
    obtain ⟨k, ek⟩ : ∃ k, (g :: r1).length = k + 2 := ⟨(g :: r1).length - 2, by omega⟩
    have := shallow T bm dv hg w off (k := k) (gD (by omega)) (gD (by omega))
    omega
  rcases h3 with h3 | h3 | ⟨x, y, hx, hy, ne⟩
  · subst h3
    have ec : c = hd0 l := Option.some.inj h1.lt
    rw [ec] at h2
    have := SW.uniq T h2 b.sw
    exact out w2 g2.off e2 (by rw [this, len])
  · subst h3
    have ec : c = lt0 l := Option.some.inj h2.lt
    rw [ec] at h1
    have := SW.uniq T h1 b.sw.rev
    exact out w1 g1.off e1 (by rw [this, List.length_reverse, len])
  · have el := SW.uniq T (sw_join T h1 h2 hx hy ne) b.sw
    obtain ⟨p2, rfl⟩ : ∃ p2, p' = c :: x :: p2 := by
      match p', h1.hd, hx with
      | u :: v :: p2, h, k => cases h; cases k; exact ⟨p2, rfl⟩
    obtain ⟨q2, rfl⟩ : ∃ q2, q' = c :: y :: q2 := by
      match q', h2.hd, hy with
      | u :: v :: q2, h, k => cases h; cases k; exact ⟨q2, rfl⟩
    have e3 : (c :: x :: p2).reverse ++ (c :: y :: q2).tail = p2.reverse ++ (x :: c :: y :: q2) := by simp
    rw [e3] at el
    have at_ : ∀ d, l[p2.length + d]? = (x :: c :: y :: q2)[d]? := fun d => by
      rw [← el, List.getElem?_append_right (by rw [List.length_reverse]; omega), List.length_reverse, Nat.add_sub_cancel_left]
    have a1 : (g :: r1)[r.length]? = some c ∧ (g :: r1)[r.length + 1]? = some x := by
      rw [e1, List.getElem?_append_right (Nat.le_refl _), List.getElem?_append_right (by omega), Nat.sub_self, Nat.add_sub_cancel_left]
      exact ⟨rfl, rfl⟩
    have a2 : (g :: r2)[r.length]? = some c ∧ (g :: r2)[r.length + 1]? = some y := by
      rw [e2, List.getElem?_append_right (Nat.le_refl _), List.getElem?_append_right (by omega), Nat.sub_self, Nat.add_sub_cancel_left]
      exact ⟨rfl, rfl⟩
    have d1 := shallow T bm dv hg w1 g1.off a1.1 a1.2
    have d2 := shallow T bm dv hg w2 g2.off a2.1 a2.2
    exact held T b (at_ 0) (at_ 1) (at_ 2) (by omega) (by omega) free
end
end TR

namespace TR
section
variable {tr : List E2}
theorem mk_at (T : TreeL tr) {m : List Nat} (b : Bd tr m) {i s : Nat} (h : m[i]? = some s) : mkN tr m s = i + 1 := by
  have lt := (List.getElem?_eq_some_iff.mp h).1
  unfold mkN
  rw [pl_eq T (b.sw.take h), filter_all fun z hz => decide_eq_true (List.mem_of_mem_take hz), List.length_take]
  omega
theorem mk_pos (T : TreeL tr) {m : List Nat} (b : Bd tr m) {s : Nat} (hs : s ≤ tr.length) : 1 ≤ mkN tr m s := by
  obtain ⟨i, g, r, h⟩ := gate T b hs
  rw [h.num]
  omega
/-- the mark of a neighbour farther from the first station -/
theorem mk_on (T : TreeL tr) {m : List Nat} (b : Bd tr m) {s w : Nat} {p : List Nat} (sp : SW tr (hd0 m) s p) (h : Adj tr s w) (hw : w ∉ p) : mkN tr m w = mkN tr m s ∨ (mkN tr m w = mkN tr m s + 1 ∧ m[mkN tr m s - 1]? = some s ∧ m[mkN tr m s]? = some w) := by
  have sw := sp.snoc h hw
  have e : mkN tr m w = mkN tr m s + if w ∈ m then 1 else 0 := by
    unfold mkN
    rw [pl_eq T sw, pl_eq T sp, List.filter_append, List.length_append]
    by_cases c : w ∈ m
    · rw [if_pos c, filter_all (l := [w]) fun z hz => decide_eq_true (by rw [List.mem_singleton.mp hz]; exact c)]
      rfl
    · rw [if_neg c, filter_none (l := [w]) fun z hz => decide_eq_false (by rw [List.mem_singleton.mp hz]; exact c)]
      rfl
  by_cases c : w ∈ m
  · rw [if_pos c] at e
    refine .inr ⟨e, ?_⟩
    obtain ⟨i, hi⟩ := List.mem_iff_getElem?.mp c
    have lt := (List.getElem?_eq_some_iff.mp hi).1
    have e2 := mk_at T b hi
    have e3 := SW.uniq T sw (b.sw.take hi)
    have hp : p ≠ [] := fun z => by
      have := sp.hd
      rw [z] at this
      cases this
    have lp : p.length = i := by
      have := congrArg List.length e3
      rw [List.length_append, List.length_take, List.length_singleton] at this
      omega
    have pos := List.length_pos_iff.mpr hp
    rw [show mkN tr m s = i by omega]
    refine ⟨?_, hi⟩
    have h1 : (p ++ [w])[i - 1]? = some s := by
      rw [List.getElem?_append_left (by omega)]
      have := sp.lt
      rw [List.getLast?_eq_getElem?, lp] at this
      exact this
    rw [e3, List.getElem?_take, if_pos (by omega)] at h1
    exact h1
  · rw [if_neg c] at e
    exact .inl e
/-- the marks of neighbours -/
theorem mk_step (T : TreeL tr) {m : List Nat} (b : Bd tr m) {s w : Nat} (hs : s ≤ tr.length) (h : Adj tr s w) :
    mkN tr m w = mkN tr m s ∨ (mkN tr m w = mkN tr m s + 1 ∧ m[mkN tr m s - 1]? = some s ∧ m[mkN tr m s]? = some w) ∨ (mkN tr m s = mkN tr m w + 1 ∧ m[mkN tr m w - 1]? = some w ∧ m[mkN tr m w]? = some s) := by
  obtain ⟨p, sp, _⟩ := sw_ex T b.hle hs
  by_cases c : w ∈ p
  · obtain ⟨A, B, rfl⟩ := List.append_of_mem c
    have pre := sp.pre
    have hB : B ≠ [] := fun z => by
      have := sp.lt
      rw [z, List.getLast?_append] at this
      exact (T.adj_ne h) (Option.some.inj this).symm
    have hn : s ∉ A ++ [w] := fun z => by
      have lt := sp.lt
      rw [List.append_cons, List.getLast?_append] at lt
      have hm : s ∈ B := by
        cases e : B.getLast? with
        | none => exact absurd (List.getLast?_eq_none_iff.mp e) hB
        | some v =>
          rw [e] at lt
          cases lt
          exact List.mem_of_getLast? e
      have nd := sp.nd
      rw [List.append_cons] at nd
      exact (List.nodup_append.mp nd).2.2 s z s hm rfl
    rcases mk_on T b pre h.symm hn with e | e
    · exact .inl e.symm
    · exact .inr (.inr e)
  · rcases mk_on T b sp h c with e | e
    · exact .inl e
    · exact .inr (.inl e)
theorem order_head (T : TreeL tr) {m l : List Nat} (bm : Bd tr m) (b : Bd tr l) {w : Nat} (h : canM tr l (true, w) = true) (n1 : mkN tr m (hd0 l) ≠ mkN tr m (lt0 l)) (n2 : mkN tr m (hd0 (aft l (true, w))) ≠ mkN tr m (lt0 (aft l (true, w)))) :
    mkN tr m (hd0 l) < mkN tr m (lt0 l) ↔ mkN tr m (hd0 (aft l (true, w))) < mkN tr m (lt0 (aft l (true, w))) := by
  obtain ⟨hw1, hw2⟩ := List.mem_filter.mp (of_decide_eq_true h)
  have hw2 : w ∉ l := of_decide_eq_true hw2
  have ad : Adj tr (hd0 l) w := (mem_nb T.ne).mp hw1
  have two := b.two
  have e1 : hd0 (aft l (true, w)) = w := rfl
  have hlt : l[l.length - 1]? = some (lt0 l) := by
    have := b.sw.lt
    rwa [List.getLast?_eq_getElem?] at this
  have e2 : lt0 (aft l (true, w)) = l.getD (l.length - 2) 0 := by
    refine lt0_of ?_
    show (w :: l.dropLast).getLast? = _
    rw [List.getLast?_eq_getElem?, List.length_cons, List.length_dropLast, Nat.add_sub_cancel, show l.length - 1 = l.length - 2 + 1 by omega, List.getElem?_cons_succ, List.getElem?_dropLast, if_pos (by omega)]
    exact gD (by omega)
  have ad2 : Adj tr (l.getD (l.length - 2) 0) (lt0 l) := wk_at b.sw.wk (i := l.length - 2) (gD (by omega)) (by rw [show l.length - 2 + 1 = l.length - 1 by omega]; exact hlt)
  have le2 : l.getD (l.length - 2) 0 ≤ tr.length := b.le _ (List.mem_of_getElem? (gD (by omega)))
  rw [e1, e2] at n2 ⊢
  generalize l.getD (l.length - 2) 0 = t at ad2 le2 n2 ⊢
  have lin : lt0 l ∈ l := List.mem_of_getElem? hlt
  have wl : w ≠ lt0 l := fun z => hw2 (by rw [z]; exact lin)
  have s1 := mk_step T bm b.hle ad
  have s2 := mk_step T bm le2 ad2
  have p1 := mk_pos T bm b.hle
  have p2 := mk_pos T bm b.lle
  have p3 := mk_pos T bm le2
  have same : ∀ {i j : Nat}, i = j → m[i]? = some w → m[j]? = some (lt0 l) → False := fun {i j} e h1 h2 => by
    rw [e, h2] at h1
    exact wl (Option.some.inj h1).symm
  generalize mkN tr m (hd0 l) = A at *
  generalize mkN tr m (lt0 l) = B at *
  generalize mkN tr m w = A' at *
  generalize mkN tr m t = B' at *
  constructor
  · intro lt
    apply Decidable.byContradiction
    intro hn
    rcases s1 with s1 | ⟨s1, u1, u2⟩ | ⟨s1, u1, u2⟩
    · rcases s2 with s2 | ⟨s2, _⟩ | ⟨s2, _⟩ <;> omega
    · rcases s2 with s2 | ⟨s2, v1, v2⟩ | ⟨s2, _⟩
      · omega
      · exact same (by omega) u2 v2
      · omega
    · rcases s2 with s2 | ⟨s2, _⟩ | ⟨s2, _⟩ <;> omega
  · intro lt
    apply Decidable.byContradiction
    intro hn
    rcases s1 with s1 | ⟨s1, u1, u2⟩ | ⟨s1, u1, u2⟩
    · rcases s2 with s2 | ⟨s2, _⟩ | ⟨s2, _⟩ <;> omega
    · rcases s2 with s2 | ⟨s2, _⟩ | ⟨s2, _⟩ <;> omega
    · rcases s2 with s2 | ⟨s2, _⟩ | ⟨s2, v1, v2⟩
      · omega
      · omega
      · exact same (by omega) u1 v1
/-- the order of the marks stays in a move -/
theorem order_move (T : TreeL tr) {m l : List Nat} (bm : Bd tr m) {L : Nat} (dv : isDv tr L m = true) (b : Bd tr l) (len : l.length = L + 1) (free : pk tr l = none) {mv : Mv} (h : canM tr l mv = true) :
    mkN tr m (hd0 l) < mkN tr m (lt0 l) ↔ mkN tr m (hd0 (aft l mv)) < mkN tr m (lt0 (aft l mv)) := by
  obtain ⟨b2, l2⟩ := b.aft T h
  have n1 := mk_ne T bm dv b len free
  have n2 := mk_ne T bm dv b2 (by rw [l2, len]) (by rw [pk_class T b (.one h)]; exact free)
  obtain ⟨e, w⟩ := mv
  cases e with
  | true => exact order_head T bm b h n1 n2
  | false =>
    have ar := aft_rev (l := l) (e := false) (w := w)
    have h' : canM tr l.reverse (true, w) = true := (can_rev T (l := l) (e := false) (w := w)).trans h
    have ar : aft l.reverse (true, w) = (aft l (false, w)).reverse := ar
    have := order_head T bm b.rev h' (by rw [hd0_rev, lt0_rev]; exact n1.symm) (by rw [ar, hd0_rev, lt0_rev]; exact n2.symm)
    rw [ar, hd0_rev, lt0_rev, hd0_rev, lt0_rev] at this
    omega
/-- .. and along a run -/
theorem order_leads (T : TreeL tr) {m l l' : List Nat} (bm : Bd tr m) {L : Nat} (dv : isDv tr L m = true) (b : Bd tr l) (len : l.length = L + 1) (free : pk tr l = none) (h : Leads tr l l') :
    Bd tr l' ∧ (mkN tr m (hd0 l') < mkN tr m (lt0 l') ↔ mkN tr m (hd0 l) < mkN tr m (lt0 l)) ∧ (mkN tr m (lt0 l') < mkN tr m (hd0 l') ↔ mkN tr m (lt0 l) < mkN tr m (hd0 l)) := by
  obtain ⟨ms, ok, rfl⟩ := h
  have := leads_ind (tr := tr) (C := fun l' => Bd tr l' ∧ l'.length = L + 1 ∧ pk tr l' = none ∧ (mkN tr m (hd0 l) < mkN tr m (lt0 l) ↔ mkN tr m (hd0 l') < mkN tr m (lt0 l'))) (fun l1 mv ⟨b1, e1, f1, o1⟩ hm => by
    obtain ⟨b2, e2⟩ := b1.aft T hm
    exact ⟨b2, by rw [e2, e1], by rw [pk_class T b1 (.one hm)]; exact f1, o1.trans (order_move T bm dv b1 e1 f1 hm)⟩) ms l ok ⟨b, len, free, Iff.rfl⟩
  obtain ⟨b2, e2, f2, o2⟩ := this
  have n1 := mk_ne T bm dv b len free
  have n2 := mk_ne T bm dv b2 e2 f2
  exact ⟨b2, by omega, by omega⟩
end
end TR

namespace TR
section
variable {tr : List E2}
/-- the greatest path is at most as long as the way round -/
theorem tri (T : TreeL tr) {c a b : Nat} {p q r : List Nat} (h1 : SW tr c a p) (h2 : SW tr c b q) (h3 : SW tr a b r) : r.length + 1 ≤ p.length + q.length := by
  obtain ⟨d, s, p', q', rfl, rfl, k1, k2, k3⟩ := sw_part T p q c a b h1 h2
  rw [List.length_append, List.length_append]
  rcases k3 with rfl | rfl | ⟨x, y, hx, hy, ne⟩
  · have : d = a := Option.some.inj k1.lt
    subst this
    have := SW.uniq T k2 h3
    subst this
    rw [List.length_singleton]
    omega
  · have : d = b := Option.some.inj k2.lt
    subst this
    have := SW.uniq T k1.rev h3
    subst this
    rw [List.length_singleton, List.length_reverse]
    omega
  · have := SW.uniq T (sw_join T k1 k2 hx hy ne) h3
    subst this
    have := (List.getElem?_eq_some_iff.mp hy).1
    rw [List.length_append, List.length_reverse, List.length_tail]
    omega
theorem join_len (T : TreeL tr) {c a b x y : Nat} {p q r : List Nat} (h1 : SW tr c a p) (h2 : SW tr c b q) (hx : p[1]? = some x) (hy : q[1]? = some y) (ne : x ≠ y) (h3 : SW tr a b r) : r.length + 1 = p.length + q.length := by
  have := SW.uniq T (sw_join T h1 h2 hx hy ne) h3
  subst this
  have := (List.getElem?_eq_some_iff.mp hy).1
  rw [List.length_append, List.length_reverse, List.length_tail]
  omega
theorem sw_one {a b : Nat} {p : List Nat} (h : SW tr a b p) (hp : p[1]? = none) : p = [a] := by
  match p, h.hd, hp with
  | [u], h, _ => cases h; rfl
  | u :: v :: p, _, hp => cases hp
/-- two sweeps find a longest path -/
theorem far_two (T : TreeL tr) {e0 e1 m0 m1 : Nat} (h0 : FarE tr 0 e0 m0) (h1 : FarE tr e0 e1 m1) {a b : Nat} {p : List Nat} (ha : a ≤ tr.length) (sp : SW tr a b p) : p.length ≤ m1 := by
  obtain ⟨⟨l0, s0, e0l⟩, f0⟩ := h0
  obtain ⟨_, f1⟩ := h1
  have z0 : 0 ≤ tr.length := Nat.zero_le _
  have he0 : e0 ≤ tr.length := sw_le T s0 z0 _ s0.mem
  have hb : b ≤ tr.length := sw_le T sp ha _ sp.mem
  obtain ⟨pa, wa, _⟩ := sw_ex T he0 ha
  obtain ⟨pb, wb, _⟩ := sw_ex T he0 hb
  have la := f1 _ _ wa
  have lb := f1 _ _ wb
  obtain ⟨c, R, p', q', rfl, rfl, k1, k2, k3⟩ := sw_part T pa pb e0 a b wa wb
  rw [List.length_append] at la lb
  rcases k3 with rfl | rfl | ⟨x, y, hx, hy, ne⟩
  · have : c = a := Option.some.inj k1.lt
    subst this
    have := SW.uniq T k2 sp
    subst this
    omega
  · have : c = b := Option.some.inj k2.lt
    subst this
    have := SW.uniq T k1.rev sp
    subst this
    rw [List.length_reverse]
    omega
  · have lj := join_len T k1 k2 hx hy ne sp
    have hc : c ≤ tr.length := sw_le T wa he0 c (List.mem_append_right _ (List.mem_of_getElem? (sw_at0 k1)))
    obtain ⟨pr, wr, _⟩ := sw_ex T hc z0
    -- from the middle to e0
    have wc : SW tr e0 c (R ++ [c]) := by
      obtain ⟨t, rfl⟩ : ∃ t, p' = c :: t := by
        match p', k1.hd with
        | u :: t, h => cases h; exact ⟨t, rfl⟩
      exact wa.pre
    have t0 := tri T wr wc.rev s0
    rw [List.length_reverse, List.length_append, List.length_singleton] at t0
    have side : ∀ {v z : Nat} {q : List Nat}, SW tr c v q → q[1]? = some z → pr[1]? ≠ some z → q.length ≤ R.length + 1 := fun {v z q} w hz n => by
      have hv : v ≤ tr.length := sw_le T w hc _ w.mem
      obtain ⟨p0, w0, _⟩ := sw_ex T z0 hv
      have g := f0 _ _ w0
      cases e : pr[1]? with
      | none =>
        have e1 := sw_one wr e
        rw [e1] at wr t0
        have : c = 0 := Option.some.inj wr.lt
        subst this
        have := SW.uniq T w w0
        subst this
        rw [List.length_singleton] at t0
        omega
      | some u =>
        have := join_len T wr w e hz (fun q => n (by rw [e, q])) w0
        omega
    by_cases cx : pr[1]? = some x
    · have := side k2 hy (fun q => ne (Option.some.inj (cx.symm.trans q)))
      omega
    · have := side k1 hx cx
      omega
/-- a way into a branch -/
theorem way_ex (T : TreeL tr) {q w : Nat} (hw : Adj tr q w) : ∃ (p : List Nat) (a : Nat), SW tr q a p ∧ p[1]? = some w ∧ p.length = dph tr w q + 2 := by
  have hle := T.adj_le hw
  obtain ⟨p, a, sw, hl, hx⟩ := deep_ex T _ w q rfl hle.2 hw.symm
  have two : SW tr w q [w, q] := ⟨⟨hw.symm, trivial⟩, by simpa using (T.adj_ne hw).symm, rfl, rfl⟩
  by_cases c : 1 ≤ dph tr w q
  · obtain ⟨x, hx1, hx2⟩ := hx c
    have j := sw_join T two sw rfl hx1 hx2.symm
    refine ⟨_, a, j, ?_, ?_⟩
    · show (q :: w :: p.tail)[1]? = some w
      rfl
    · rw [List.length_append, List.length_reverse, List.length_tail, hl]
      show 2 + _ = _
      omega
  · have e : p = [w] := by
      have := sw.hd
      match p, hl, this with
      | [u], _, h => cases h; rfl
      | [], hl, _ => simp at hl
      | _ :: _ :: _, hl, _ => simp at hl; omega
    exact ⟨[q, w], w, two.rev, rfl, by show 2 = _; omega⟩
theorem way_le (T : TreeL tr) {q a w : Nat} {p : List Nat} (hq : q ≤ tr.length) (sw : SW tr q a p) (hw : p[1]? = some w) : p.length ≤ dph tr w q + 2 := by
  have ne : q ≠ a := fun z => by
    have h := sw.lt
    match p, sw.hd, hw, sw.nd, h with
    | u :: v :: r, h1, _, nd, h =>
      cases h1
      rw [List.getLast?_cons_cons] at h
      have := List.mem_of_getLast? h
      rw [← z] at this
      exact (List.nodup_cons.mp nd).1 this
  obtain ⟨b, _, _⟩ := sw_bd T sw hq ne
  have := fr_ge T b (sw_at0 sw) hw
  omega
/-- how many branches of a station are deep -/
noncomputable def dpN (tr : List E2) (L s : Nat) : List Nat := (nb tr s).filter fun w => decide (L ≤ dph tr w s + 1)
theorem dpN_nd (T : TreeL tr) (L s : Nat) : (dpN tr L s).Nodup := (nb_nd T s).filter _
theorem dpN_mem (T : TreeL tr) {L s w : Nat} : w ∈ dpN tr L s ↔ Adj tr s w ∧ L ≤ dph tr w s + 1 := by
  unfold dpN
  rw [List.mem_filter, mem_nb T.ne, decide_eq_true_iff]
theorem two_of {l : List Nat} (nd : l.Nodup) (h : 2 ≤ l.length) : ∃ x y, x ∈ l ∧ y ∈ l ∧ x ≠ y := by
  match l, h, nd with
  | x :: y :: r, _, nd => exact ⟨x, y, by simp, by simp, fun z => (List.nodup_cons.mp nd).1 (by rw [z]; simp)⟩
section
variable {m : List Nat} {L : Nat}
/-- a short longest path: no station has two deep branches -/
theorem dv_none (T : TreeL tr) (mx : ∀ a b p, a ≤ tr.length → SW tr a b p → p.length ≤ m.length) (h : m.length ≤ 2 * L) {s : Nat} : (dpN tr L s).length ≤ 1 := by
  apply Decidable.byContradiction
  intro hn
  obtain ⟨x, y, hx, hy, ne⟩ := two_of (dpN_nd T L s) (by omega)
  obtain ⟨a1, d1⟩ := (dpN_mem T).mp hx
  obtain ⟨a2, d2⟩ := (dpN_mem T).mp hy
  obtain ⟨p, a, w1, e1, l1⟩ := way_ex T a1
  obtain ⟨q, b, w2, e2, l2⟩ := way_ex T a2
  have j := sw_join T w1 w2 e1 e2 ne
  have ha := sw_le T w1 (T.adj_le a1).1 _ w1.mem
  have := mx _ _ _ ha j
  have := join_len T w1 w2 e1 e2 ne j
  omega
theorem dv_both (T : TreeL tr) (b : Bd tr m) {i : Nat} (h1 : 1 ≤ i) (h2 : L ≤ i) (h3 : i + L < m.length) (hL : 1 ≤ L) : ∃ x s y, m[i - 1]? = some x ∧ m[i]? = some s ∧ m[i + 1]? = some y ∧ x ∈ dpN tr L s ∧ y ∈ dpN tr L s ∧ x ≠ y := by
  have g1 := gD (l := m) (i := i - 1) (by omega)
  have g2 := gD (l := m) (i := i) (by omega)
  have g3 := gD (l := m) (i := i + 1) (by omega)
  refine ⟨_, _, _, g1, g2, g3, ?_, ?_, ?_⟩
  · have ad := wk_at b.sw.wk (i := i - 1) g1 (by rw [show i - 1 + 1 = i by omega]; exact g2)
    have := nr_ge T b (k := i - 1) g1 (by rw [show i - 1 + 1 = i by omega]; exact g2)
    exact (dpN_mem T).mpr ⟨ad.symm, by omega⟩
  · have ad := wk_at b.sw.wk g2 g3
    have := fr_ge T b g2 g3
    exact (dpN_mem T).mpr ⟨ad, by omega⟩
  · intro z
    rw [z] at g1
    have := (List.getElem?_inj (by omega) b.sw.nd).mp (g1.trans g3.symm)
    omega
/-- a long path has a station with two deep branches -/
theorem dv_some (T : TreeL tr) (b : Bd tr m) (h : 2 * L < m.length) (hL : 1 ≤ L) : ∃ s, s ≤ tr.length ∧ 2 ≤ (dpN tr L s).length := by
  obtain ⟨x, s, y, _, h2, _, h4, h5, ne⟩ := dv_both T b (i := L) hL (Nat.le_refl _) (by omega) hL
  refine ⟨s, b.le s (List.mem_of_getElem? h2), ?_⟩
  have : [x, y].Nodup := by simpa using ne
  have := this.length_le_of_subset (l₂ := dpN tr L s) fun z hz => by
    rcases List.mem_cons.mp hz with rfl | hz
    · exact h4
    · rw [List.mem_singleton.mp hz]
      exact h5
  exact this
/-- on a divide no station has three -/
theorem dv_on (T : TreeL tr) (b : Bd tr m) (dv : isDv tr L m = true) {s : Nat} (hs : s ∈ m) : (dpN tr L s).length ≤ 2 := by
  obtain ⟨i, hi⟩ := List.mem_iff_getElem?.mp hs
  have := (dpN_nd T L s).length_le_of_subset (l₂ := [m.getD (i - 1) 0, m.getD (i + 1) 0]) fun w hw => by
    obtain ⟨ad, d⟩ := (dpN_mem T).mp hw
    have wm : w ∈ m := Decidable.byContradiction fun n => by
      have := (of_decide_eq_true dv) s hs w ((mem_nb T.ne).mpr ad) n
      omega
    obtain ⟨j, hj⟩ := List.mem_iff_getElem?.mp wm
    rcases bd_near T b hi hj ad with e | e
    · rw [← gD_of hj, e]
      simp
    · rw [← gD_of hj, show j = i - 1 by omega]
      simp
  exact this
/-- beside a divide no station has two -/
theorem dv_off (T : TreeL tr) (b : Bd tr m) (dv : isDv tr L m = true) {s : Nat} (le : s ≤ tr.length) (hs : s ∉ m) : (dpN tr L s).length ≤ 1 := by
  apply Decidable.byContradiction
  intro hn
  obtain ⟨x, y, hx, hy, ne⟩ := two_of (dpN_nd T L s) (by omega)
  obtain ⟨i, g, r, gt⟩ := gate T b le
  have w := gt.way T
  have hg := List.mem_of_getElem? gt.at_
  have hr : r ≠ [] := fun z => by
    rw [z] at w
    have : g = s := Option.some.inj w.lt
    exact hs (by rw [← this]; exact hg)
  obtain ⟨f, r', rfl⟩ : ∃ f r', r = f :: r' := by
    match r, hr with
    | f :: r', _ => exact ⟨f, r', rfl⟩
  have key : ∀ v ∈ dpN tr L s, ((g :: f :: r').reverse)[1]? ≠ some v → False := fun v hv n => by
    obtain ⟨ad, d⟩ := (dpN_mem T).mp hv
    obtain ⟨p, a, w1, e1, l1⟩ := way_ex T ad
    cases e : ((g :: f :: r').reverse)[1]? with
    | none =>
      rw [List.getElem?_eq_none_iff, List.length_reverse, List.length_cons, List.length_cons] at e
      omega
    | some u =>
      have j := sw_join T w.rev w1 e e1 (fun q => n (by rw [e, q]))
      have jl := join_len T w.rev w1 e e1 (fun q => n (by rw [e, q])) j
      rw [List.reverse_reverse] at j jl
      have := way_le T (b.le g hg) j (w := f) rfl
      have sh := (of_decide_eq_true dv) g hg f ((mem_nb T.ne).mpr w.wk.1) (gt.off f List.mem_cons_self)
      rw [List.length_reverse, List.length_cons, List.length_cons] at jl
      omega
  by_cases c : ((g :: f :: r').reverse)[1]? = some x
  · exact key y hy fun z => ne (Option.some.inj (c.symm.trans z))
  · exact key x hx c
/-- no divide: a station has three deep branches -/
theorem dv_not (T : TreeL tr) (b : Bd tr m) (mx : ∀ a b p, a ≤ tr.length → SW tr a b p → p.length ≤ m.length) (hL : 1 ≤ L) (dv : isDv tr L m = false) : ∃ s, s ≤ tr.length ∧ 3 ≤ (dpN tr L s).length := by
  obtain ⟨s, w, hs, ad, hn, d⟩ : ∃ s w, s ∈ m ∧ Adj tr s w ∧ w ∉ m ∧ L ≤ dph tr w s + 1 := by
    apply Classical.byContradiction
    intro no
    have : isDv tr L m = true := decide_eq_true fun s hs w hw hn => by
      apply Decidable.byContradiction
      intro q
      exact no ⟨s, w, hs, (mem_nb T.ne).mp hw, hn, by omega⟩
    rw [dv] at this
    cases this
  obtain ⟨i, hi⟩ := List.mem_iff_getElem?.mp hs
  have lt := (List.getElem?_eq_some_iff.mp hi).1
  obtain ⟨p, a, w1, e1, l1⟩ := way_ex T ad
  have ha := sw_le T w1 (T.adj_le ad).1 _ w1.mem
  have side : ∀ {c : Nat} {q : List Nat}, SW tr s c q → (∀ z ∈ q, z ∈ m) → p.length + q.length ≤ m.length + 1 := fun {c q} wq hq => by
    cases e : q[1]? with
    | none =>
      have := sw_one wq e
      have := mx _ _ _ (T.adj_le ad).1 w1
      rw [sw_one wq e, List.length_singleton]
      omega
    | some u =>
      have ne : w ≠ u := fun z => hn (by rw [z]; exact hq u (List.mem_of_getElem? e))
      have j := sw_join T w1 wq e1 e ne
      have := join_len T w1 wq e1 e ne j
      have := mx _ _ _ ha j
      omega
  have s1 := side (b.sw.take hi).rev (fun z hz => List.mem_of_mem_take (List.mem_reverse.mp hz))
  have s2 := side (b.sw.drop hi) (fun z hz => List.mem_of_mem_drop hz)
  rw [List.length_reverse, List.length_take] at s1
  rw [List.length_drop] at s2
  obtain ⟨x, s', y, h1, h2, h3, h4, h5, ne⟩ := dv_both T b (i := i) (L := L) (by omega) (by omega) (by omega) hL
  cases hi.symm.trans h2
  refine ⟨s, b.le s hs, ?_⟩
  have : [w, x, y].Nodup := by
    have n1 : w ≠ x := fun z => hn (by rw [z]; exact List.mem_of_getElem? h1)
    have n2 : w ≠ y := fun z => hn (by rw [z]; exact List.mem_of_getElem? h3)
    simp [n1, n2, ne]
  have := this.length_le_of_subset (l₂ := dpN tr L s) fun z hz => by
    rcases List.mem_cons.mp hz with rfl | hz
    · exact (dpN_mem T).mpr ⟨ad, d⟩
    rcases List.mem_cons.mp hz with rfl | hz
    · exact h4
    · rw [List.mem_singleton.mp hz]
      exact h5
  exact this
end
end
end TR

namespace TR
open PySem PySem.Spec PyProof.Rows L2 L2.TT StX ClX
theorem at_lastW {l : List V} {x : V} : atI (l ++ [x]) (-1) = some x := by
  have e : ixN (l ++ [x]).length (-1) = some l.length := by
    unfold ixN
    rw [if_neg (by decide), List.length_append, List.length_singleton]
    rw [if_pos (by omega)]
    congr 1
    omega
  unfold atI
  rw [e]
  show (l ++ [x])[l.length]? = _
  rw [List.getElem?_append_right (Nat.le_refl _), Nat.sub_self]
  rfl
/-- the first station of the last layer -/
noncomputable def lstE (tr : List E2) (s : Nat) : Nat := ((lyr tr s none (ht tr s none - 1)).headD (0, none)).1
/-- the path that two sweeps find -/
noncomputable def lngP (tr : List E2) : List Nat := pl tr (lstE tr 0) (lstE tr (lstE tr 0))
theorem lst_far {tr : List E2} (T : TreeL tr) {s : Nat} (hs : s ≤ tr.length) : FarE tr s (lstE tr s) (ht tr s none) ∧ lstE tr s ≤ tr.length := by
  obtain ⟨h1, h2⟩ := ht_of T (b := none) hs
  have pos := ht_pos T (b := none) hs
  have hne := h2 (ht tr s none - 1) (by omega)
  unfold lstE
  cases hl : lyr tr s none (ht tr s none - 1) with
  | nil => exact absurd hl hne
  | cons x xs =>
    refine ⟨far_last T h1 (b := x.2) (e := x.1) ?_ pos, ?_⟩
    · rw [hl]
      exact List.mem_cons_self
    · exact (lyr_ms T (b := none) hs _ x (by rw [hl]; exact List.mem_cons_self)).2
theorem lay_lastW {tr : List E2} (T : TreeL tr) {H : Hp} {fl : Addr} {st : Nat} {fs : List Addr} (hs : st ≤ tr.length) (hk : ∀ (k : Nat) (f : Addr), fs[k]? = some f → H f = some (.lst (((lyr tr st none k).map Prod.fst).map iv))) (hn : ∀ k, k < fs.length → lyr tr st none k ≠ [])
    (h0 : lyr tr st none fs.length = []) : ∃ (gs : List Addr) (f : Addr) (ys : List Nat), fs.map V.ref = gs.map V.ref ++ [V.ref f] ∧ H f = some (.lst ((lstE tr st :: ys).map iv)) := by
  have eh := ht_eq h0 hn
  have pos := ht_pos T (b := none) hs
  rw [eh] at pos
  obtain ⟨gs, f, rfl⟩ : ∃ gs f, fs = gs ++ [f] := by
    have hne : fs ≠ [] := List.length_pos_iff.mp pos
    exact ⟨fs.dropLast, fs.getLast hne, (List.dropLast_concat_getLast hne).symm⟩
  have lg : (gs ++ [f]).length = gs.length + 1 := by simp
  have hg : (gs ++ [f])[gs.length]? = some f := by
    rw [List.getElem?_append_right (Nat.le_refl _), Nat.sub_self]
    rfl
  have hF := hk _ _ hg
  have hne := hn gs.length (by omega)
  unfold lstE
  rw [eh, lg, Nat.add_sub_cancel]
  cases hl : lyr tr st none gs.length with
  | nil => exact absurd hl hne
  | cons x xs =>
    rw [hl] at hF
    exact ⟨gs, f, xs.map Prod.fst, by simp, hF⟩
def spLongP (C : Addr) : Sp := fun vs H Q _ => ∃ (r : Addr) (tr : List E2), vs = [.ref r] ∧ RailAt C H r tr ∧ ∀ (p : Addr) (H' : Hp), Same H H' → H' p = some (.tup ((lngP tr).map iv)) → Q (.ref p) H'
section
variable {P : Program} {w : World} {K : PySem.W.Frag} {mg : Str → Option Value} {base : Heap}
abbrev N_sc_lng : List Str := ["railway", "end"]
theorem sc_lng : FnScope N_sc_lng ["railway"] (defScope s_longest_path) := ⟨rfl, rfl, rfl, by decide +kernel, rfl, by decide +kernel, by decide +kernel⟩
theorem ok_lngP {f fl fp C : Addr} {fd fdl fdp : FuncData} (F : Fun K "longest_path" "longest_path" s_longest_path f fd) (X : TxtR K mg C) (UL : Use P w K mg base CX0 6 "layers" fl fdl ["railway", "station", "barred"] (spLayers C)) (Mp : MU P w K mg base C 5 "path" fp fdp ["self", "one", "other"] (spPath C)) : FnOk P w K mg base CX0 7 f fd ["railway"] (spLongP C) := by
  refine F.ok sc_lng (fun vs H Q E h => ?_) (fun cdv A outer s H vs Q E hr h => ?_)
  · obtain ⟨r, tr, rfl, _⟩ := h
    rfl
  · obtain ⟨r, tr, rfl, R, k⟩ := h
    refine ⟨_, (pss_cons (ps_set (i := 1) sc_lng.nd rfl (.inl rfl) (pe_ix ix_list (pe_ix ix_list (pe_use UL hr (by rfl) (pa_cons (pv 0) (pa_cons pe_int (pa_cons pe_non pa_nil)))) (pe_un un_neg pe_int) (fun _ _ => rfl)) pe_int (fun _ _ => rfl)))
        (pss_one (ps_ret (pe_meth (pv 0) X.cl Mp.m Mp.G (hr.mono (by decide)) Mp.b .nil pass0 (pa_cons (pv 1) (pa_cons (pe_ix ix_list (pe_ix ix_list (pe_use UL hr (by rfl) (pa_cons (pv 0) (pa_cons (pv 1) (pa_cons pe_non pa_nil)))) (pe_un un_neg pe_int) (fun _ _ => rfl)) pe_int (fun _ _ => rfl)) pa_nil)))))), ?_⟩
    have T := R.T
    refine ⟨_, rfl, r, tr, 0, none, rfl, R, Nat.zero_le _, fun fl fs H1 s1 hf hk hn h0 => ?_⟩
    obtain ⟨gs, f1, ys, eg, hF⟩ := lay_lastW T (Nat.zero_le _) (fl := fl) hk hn h0
    obtain ⟨_, le0⟩ := lst_far T (Nat.zero_le tr.length)
    rw [eg] at hf
    refine ⟨_, rfl, fl, _, _, _, rfl, rfl, SqL.of hf, at_lastW, f1, _, _, _, rfl, rfl, SqL.of hF, atN (n := 0) (v := iv (lstE tr 0)) rfl, ?_⟩
    have R1 := R.same s1
    obtain ⟨_, _, dx, _, _, _, _, _, _, h1, _⟩ := id R1
    refine ⟨_, rfl, r, dx, _, rfl, h1, rfl, _, rfl, _, rfl, _, rfl, r, tr, lstE tr 0, none, rfl, R1, le0, fun fl2 fs2 H2 s2 hf2 hk2 hn2 h02 => ?_⟩
    obtain ⟨gs2, f2, ys2, eg2, hF2⟩ := lay_lastW T le0 (fl := fl2) hk2 hn2 h02
    obtain ⟨_, le1⟩ := lst_far T le0
    rw [eg2] at hf2
    refine ⟨_, rfl, fl2, _, _, _, rfl, rfl, SqL.of hf2, at_lastW, f2, _, _, _, rfl, rfl, SqL.of hF2, atN (n := 0) (v := iv (lstE tr (lstE tr 0))) rfl, ?_⟩
    refine ⟨r, tr, lstE tr 0, lstE tr (lstE tr 0), rfl, R1.same s2, le0, le1, fun l p H3 w s3 np hp => ?_⟩
    rw [← pl_eq T w] at hp
    exact k p H3 (s1.trans (s2.trans s3)) hp
end
end TR


namespace TR
/-- what the two sweeps find is a longest path -/
theorem lng_spec {tr : List E2} (T : TreeL tr) : SW tr (lstE tr 0) (lstE tr (lstE tr 0)) (lngP tr) ∧ lstE tr 0 ≤ tr.length ∧ ∀ a b p, a ≤ tr.length → SW tr a b p → p.length ≤ (lngP tr).length := by
  obtain ⟨f0, l0⟩ := lst_far T (Nat.zero_le tr.length)
  obtain ⟨f1, l1⟩ := lst_far T l0
  obtain ⟨l, sw, _⟩ := sw_ex T l0 l1
  obtain ⟨l', sw', e'⟩ := f1.1
  have e : lngP tr = l := pl_eq T sw
  rw [e]
  refine ⟨sw, l0, fun a b p ha sp => ?_⟩
  have := far_two T f0 f1 ha sp
  rw [SW.uniq T sw sw', e']
  exact this
end TR

namespace TR
section
variable {tr : List E2}
/-- what a search has found; ws waits -/
structure Bc (tr : List E2) (l : List Nat) (bs ws : List (List Nat)) : Prop where
  hd : bs.head? = some l
  ld : ∀ m ∈ bs, Leads tr l m
  nd : bs.Nodup
  ws_ : ∀ m ∈ ws, m ∈ bs
  cl : ∀ m ∈ bs, m ∉ ws → ∀ mv ∈ poss tr m, aft m mv ∈ bs
/-- .. while the moves of m are looked at -/
structure Bm (tr : List E2) (l m : List Nat) (j : Nat) (bs ws : List (List Nat)) : Prop where
  hd : bs.head? = some l
  ld : ∀ m ∈ bs, Leads tr l m
  nd : bs.Nodup
  ws_ : ∀ m ∈ ws, m ∈ bs
  mm : m ∈ bs
  cl : ∀ k ∈ bs, k ∉ ws → k ≠ m → ∀ mv ∈ poss tr k, aft k mv ∈ bs
  cm : ∀ mv ∈ (poss tr m).take j, aft m mv ∈ bs
theorem Bc.start (l : List Nat) : Bc tr l [l] [l] := ⟨rfl, fun m hm => by rw [List.mem_singleton] at hm; rw [hm]; exact .refl l, by simp, fun m hm => hm, fun m hm hn => absurd hm hn⟩
theorem Bc.pop {l m : List Nat} {bs ws : List (List Nat)} (b : Bc tr l bs (m :: ws)) : Bm tr l m 0 bs ws :=
  ⟨b.hd, b.ld, b.nd, fun k hk => b.ws_ k (List.mem_cons_of_mem _ hk), b.ws_ m List.mem_cons_self, fun k hk hn ne => b.cl k hk (fun z => (List.mem_cons.mp z).elim ne hn), fun mv h => by cases h⟩
theorem Bm.skip {l m : List Nat} {j : Nat} {bs ws : List (List Nat)} (b : Bm tr l m j bs ws) {mv : Mv} (hj : (poss tr m)[j]? = some mv) (h : aft m mv ∈ bs) : Bm tr l m (j + 1) bs ws :=
  ⟨b.hd, b.ld, b.nd, b.ws_, b.mm, b.cl, fun v hv => by
    rw [List.take_add_one, hj] at hv
    rcases List.mem_append.mp hv with hv | hv
    · exact b.cm v hv
    · have : v = mv := by simpa using hv
      rw [this]
      exact h⟩
theorem Bm.add {l m : List Nat} {j : Nat} {bs ws : List (List Nat)} (b : Bm tr l m j bs ws) {mv : Mv} (hj : (poss tr m)[j]? = some mv) (h : aft m mv ∉ bs) : Bm tr l m (j + 1) (bs ++ [aft m mv]) (ws ++ [aft m mv]) := by
  have hc : canM tr m mv = true := decide_eq_true (mem_poss.mp (List.mem_of_getElem? hj))
  refine ⟨?_, fun k hk => ?_, ?_, fun k hk => ?_, List.mem_append_left _ b.mm, fun k hk hn ne v hv => ?_, fun v hv => ?_⟩
  · rw [List.head?_append, b.hd]
    rfl
  · rcases List.mem_append.mp hk with hk | hk
    · exact b.ld k hk
    · rw [List.mem_singleton] at hk
      rw [hk]
      exact (b.ld m b.mm).trans (.one hc)
  · rw [List.nodup_append]
    refine ⟨b.nd, by simp, fun u hu v hv e => ?_⟩
    rw [List.mem_singleton] at hv
    rw [hv] at e
    exact h (e ▸ hu)
  · rcases List.mem_append.mp hk with hk | hk
    · exact List.mem_append_left _ (b.ws_ k hk)
    · exact List.mem_append_right _ hk
  · rcases List.mem_append.mp hk with hk | hk
    · exact List.mem_append_left _ (b.cl k hk (fun z => hn (List.mem_append_left _ z)) ne v hv)
    · exact absurd (List.mem_append_right _ hk) hn
  · rw [List.take_add_one, hj] at hv
    rcases List.mem_append.mp hv with hv | hv
    · exact List.mem_append_left _ (b.cm v hv)
    · have : v = mv := by simpa using hv
      rw [this]
      exact List.mem_append_right _ (by simp)
theorem Bm.back {l m : List Nat} {bs ws : List (List Nat)} (b : Bm tr l m (poss tr m).length bs ws) : Bc tr l bs ws := by
  refine ⟨b.hd, b.ld, b.nd, b.ws_, fun k hk hn => ?_⟩
  by_cases c : k = m
  · subst c
    have := b.cm
    rw [List.take_length] at this
    exact this
  · exact b.cl k hk hn c
theorem Bc.all {l : List Nat} {bs : List (List Nat)} (b : Bc tr l bs []) : ∀ m, Leads tr l m ↔ m ∈ bs := fun m => by
  constructor
  · rintro ⟨ms, ok, rfl⟩
    refine leads_ind (C := fun k => k ∈ bs) (fun k v hk hc => b.cl k hk (fun z => by cases z) v (mem_poss.mpr (of_decide_eq_true hc))) ms l ok ?_
    have := b.hd
    exact List.mem_of_mem_head? (by rw [this]; rfl)
  · exact b.ld m
/-- the ends of a body -/
def endsB (m : List Nat) : E2 := (hd0 m, lt0 m)
theorem ends_inj (T : TreeL tr) {m k : List Nat} (b : Bd tr m) (c : Bd tr k) (h : endsB m = endsB k) : m = k := b.eq T c (Prod.mk.inj h).1 (Prod.mk.inj h).2
theorem prs_le {n : Nat} : ∀ {es : List E2}, es.Nodup → (∀ e ∈ es, e.1 ≤ n ∧ e.2 ≤ n) → es.length ≤ (n + 1) * (n + 1) := fun {es} nd h => by
  have hb : ∀ x ∈ es.map (fun e => e.1 * (n + 1) + e.2), x ≤ (n + 1) * (n + 1) - 1 := fun x hx => by
    obtain ⟨e, he, rfl⟩ := List.mem_map.mp hx
    obtain ⟨h1, h2⟩ := h e he
    have : e.1 * (n + 1) ≤ n * (n + 1) := Nat.mul_le_mul_right _ h1
    have e2 : (n + 1) * (n + 1) = n * (n + 1) + (n + 1) := Nat.succ_mul n (n + 1)
    omega
  have hn : (es.map (fun e => e.1 * (n + 1) + e.2)).Nodup := by
    rw [List.nodup_iff_pairwise_ne, List.pairwise_map]
    refine (List.nodup_iff_pairwise_ne.mp nd).imp_of_mem fun {a b} ha hb ne z => ne ?_
    obtain ⟨a1, a2⟩ := h a ha
    obtain ⟨b1, b2⟩ := h b hb
    have d1 := congrArg (· / (n + 1)) z
    have d2 := congrArg (· % (n + 1)) z
    simp only [Nat.mul_add_mod_of_lt (Nat.lt_succ_of_le a2), Nat.mul_add_mod_of_lt (Nat.lt_succ_of_le b2)] at d2
    have q1 : (a.1 * (n + 1) + a.2) / (n + 1) = a.1 := by
      rw [Nat.mul_comm, Nat.mul_add_div (by omega), Nat.div_eq_of_lt (by omega)]
      rfl
    have q2 : (b.1 * (n + 1) + b.2) / (n + 1) = b.1 := by
      rw [Nat.mul_comm, Nat.mul_add_div (by omega), Nat.div_eq_of_lt (by omega)]
      rfl
    simp only [q1, q2] at d1
    exact Prod.ext d1 d2
  have := nd_len hn hb
  rw [List.length_map] at this
  have p : 0 < (n + 1) * (n + 1) := Nat.mul_pos (by omega) (by omega)
  omega
theorem bodies_le (T : TreeL tr) {bs : List (List Nat)} (nd : bs.Nodup) (hb : ∀ m ∈ bs, Bd tr m) : bs.length ≤ (tr.length + 1) * (tr.length + 1) := by
  have := prs_le (n := tr.length) (es := bs.map endsB) ?_ ?_
  · rw [List.length_map] at this
    exact this
  · rw [List.nodup_iff_pairwise_ne, List.pairwise_map]
    exact (List.nodup_iff_pairwise_ne.mp nd).imp_of_mem fun {a b} ha hbb ne z => ne (ends_inj T (hb a ha) (hb b hbb) z)
  · intro e he
    obtain ⟨m, hm, rfl⟩ := List.mem_map.mp he
    exact ⟨(hb m hm).hle, (hb m hm).lle⟩
end
end TR

namespace TR
section
variable {tr : List E2}
/-- what a search has found, while the moves ms of m are looked at -/
structure BmG (tr : List E2) (l m : List Nat) (ms : List Mv) (j : Nat) (bs ws : List (List Nat)) : Prop where
  hd : bs.head? = some l
  ld : ∀ m ∈ bs, Leads tr l m
  nd : bs.Nodup
  ws_ : ∀ m ∈ ws, m ∈ bs
  mm : m ∈ bs
  cl : ∀ k ∈ bs, k ∉ ws → k ≠ m → ∀ mv ∈ poss tr k, aft k mv ∈ bs
  cm : ∀ mv ∈ ms.take j, aft m mv ∈ bs
theorem Bc.popG {l m : List Nat} (ms : List Mv) {bs ws : List (List Nat)} (b : Bc tr l bs (m :: ws)) : BmG tr l m ms 0 bs ws :=
  ⟨b.hd, b.ld, b.nd, fun k hk => b.ws_ k (List.mem_cons_of_mem _ hk), b.ws_ m List.mem_cons_self, fun k hk hn ne => b.cl k hk (fun z => (List.mem_cons.mp z).elim ne hn), fun mv h => by cases h⟩
theorem BmG.skip {l m : List Nat} {ms : List Mv} {j : Nat} {bs ws : List (List Nat)} (b : BmG tr l m ms j bs ws) {mv : Mv} (hj : ms[j]? = some mv) (h : aft m mv ∈ bs) : BmG tr l m ms (j + 1) bs ws :=
  ⟨b.hd, b.ld, b.nd, b.ws_, b.mm, b.cl, fun v hv => by
    rw [List.take_add_one, hj] at hv
    rcases List.mem_append.mp hv with hv | hv
    · exact b.cm v hv
    · have : v = mv := by simpa using hv
      rw [this]
      exact h⟩
theorem BmG.add {l m : List Nat} {ms : List Mv} {j : Nat} {bs ws : List (List Nat)} (b : BmG tr l m ms j bs ws) {mv : Mv} (hj : ms[j]? = some mv) (hm : mv ∈ poss tr m) (h : aft m mv ∉ bs) : BmG tr l m ms (j + 1) (bs ++ [aft m mv]) (ws ++ [aft m mv]) := by
  have hc : canM tr m mv = true := decide_eq_true (mem_poss.mp hm)
  refine ⟨?_, fun k hk => ?_, ?_, fun k hk => ?_, List.mem_append_left _ b.mm, fun k hk hn ne v hv => ?_, fun v hv => ?_⟩
  · rw [List.head?_append, b.hd]
    rfl
  · rcases List.mem_append.mp hk with hk | hk
    · exact b.ld k hk
    · rw [List.mem_singleton] at hk
      rw [hk]
      exact (b.ld m b.mm).trans (.one hc)
  · rw [List.nodup_append]
    refine ⟨b.nd, by simp, fun u hu v hv e => ?_⟩
    rw [List.mem_singleton] at hv
    rw [hv] at e
    exact h (e ▸ hu)
  · rcases List.mem_append.mp hk with hk | hk
    · exact List.mem_append_left _ (b.ws_ k hk)
    · exact List.mem_append_right _ hk
  · rcases List.mem_append.mp hk with hk | hk
    · exact List.mem_append_left _ (b.cl k hk (fun z => hn (List.mem_append_left _ z)) ne v hv)
    · exact absurd (List.mem_append_right _ hk) hn
  · rw [List.take_add_one, hj] at hv
    rcases List.mem_append.mp hv with hv | hv
    · exact List.mem_append_left _ (b.cm v hv)
    · have : v = mv := by simpa using hv
      rw [this]
      exact List.mem_append_right _ (by simp)
theorem BmG.back {l m : List Nat} {ms : List Mv} {bs ws : List (List Nat)} (b : BmG tr l m ms ms.length bs ws) (h : ∀ mv ∈ poss tr m, mv ∈ ms) : Bc tr l bs ws := by
  refine ⟨b.hd, b.ld, b.nd, b.ws_, fun k hk hn mv hmv => ?_⟩
  by_cases c : k = m
  · subst c
    have := b.cm
    rw [List.take_length] at this
    exact this mv (h mv hmv)
  · exact b.cl k hk hn c mv hmv
end
end TR

namespace TR
section
variable {tr : List E2}
/-- the station before the last one of a path is unique -/
theorem pre_uniq (T : TreeL tr) {s u v w : Nat} (hs : s ≤ tr.length) (hw : w ≤ tr.length) (h1 : Adj tr u w) (h2 : Adj tr v w) (d1 : dst tr s u + 1 = dst tr s w) (d2 : dst tr s v + 1 = dst tr s w) : u = v := by
  have key : ∀ {x : Nat}, Adj tr x w → dst tr s x + 1 = dst tr s w → ∃ l, SW tr s x l ∧ SW tr s w (l ++ [w]) := fun {x} hx d => by
    have xl := (T.adj_le hx).1
    obtain ⟨l, sw, _⟩ := sw_ex T hs xl
    refine ⟨l, sw, sw.snoc hx fun hm => ?_⟩
    obtain ⟨i, hi⟩ := List.mem_iff_getElem?.mp hm
    have lt := (List.getElem?_eq_some_iff.mp hi).1
    have e1 := dst_eq T sw
    have e2 := dst_eq T (sw.take hi)
    rw [List.length_take] at e2
    omega
  obtain ⟨l, s1, k1⟩ := key h1 d1
  obtain ⟨m, s2, k2⟩ := key h2 d2
  have e := SW.uniq T k1 k2
  have e := List.append_cancel_right e
  subst e
  exact Option.some.inj (s1.lt.symm.trans s2.lt)
/-- a search from a station: seen ones, the first n of them done -/
structure Gp (tr : List E2) (s : Nat) (ws : List Nat) (n : Nat) : Prop where
  nd : ws.Nodup
  le : ∀ v ∈ ws, v ≤ tr.length
  st : s ∈ ws
  pre : ∀ v ∈ ws, ∀ u, Adj tr u v → dst tr s u + 1 = dst tr s v → u ∈ ws
  dn : ∀ (i v : Nat), i < n → ws[i]? = some v → ∀ w, Adj tr v w → w ∈ ws
theorem Gp.start (T : TreeL tr) {s : Nat} (hs : s ≤ tr.length) : Gp tr s [s] 0 := by
  refine ⟨by simp, fun v hv => by rw [List.mem_singleton.mp hv]; exact hs, by simp, fun v hv u _ d => ?_, fun i v hi => absurd hi (Nat.not_lt_zero _)⟩
  rw [List.mem_singleton.mp hv, dst_self T] at d
  omega
theorem Gp.add (T : TreeL tr) {s n : Nat} (hs : s ≤ tr.length) {ws : List Nat} (g : Gp tr s ws n) (hn : n ≤ ws.length) {v w : Nat} (hv : v ∈ ws) (h : Adj tr v w) (hw : w ∉ ws) : Gp tr s (ws ++ [w]) n ∧ dst tr s w = dst tr s v + 1 := by
  have vl := g.le v hv
  have wl := (T.adj_le h).2
  have d : dst tr s w = dst tr s v + 1 := by
    rcases dst_adj T hs vl h with e | e
    · exact e
    · exact absurd (g.pre v hv w h.symm e.symm) hw
  refine ⟨⟨List.nodup_append.mpr ⟨g.nd, by simp, fun a ha b hb => ?_⟩, fun x hx => ?_, List.mem_append_left _ g.st, fun x hx u hu du => ?_, fun i x hi hx y hy => ?_⟩, d⟩
  · rw [List.mem_singleton.mp hb]
    exact fun z => hw (z ▸ ha)
  · rcases List.mem_append.mp hx with hx | hx
    · exact g.le x hx
    · rw [List.mem_singleton.mp hx]
      exact wl
  · rcases List.mem_append.mp hx with hx | hx
    · exact List.mem_append_left _ (g.pre x hx u hu du)
    · rw [List.mem_singleton.mp hx] at hu du
      rw [pre_uniq T hs wl hu h du d.symm]
      exact List.mem_append_left _ hv
  · rw [List.getElem?_append_left (by omega)] at hx
    exact List.mem_append_left _ (g.dn i x hi hx y hy)
theorem Gp.next {s n : Nat} {ws : List Nat} (g : Gp tr s ws n) {v : Nat} (hv : ws[n]? = some v) (h : ∀ w, Adj tr v w → w ∈ ws) : Gp tr s ws (n + 1) := by
  refine ⟨g.nd, g.le, g.st, g.pre, fun i x hi hx => ?_⟩
  by_cases c : i = n
  · rw [c, hv] at hx
    cases hx
    exact h
  · exact g.dn i x (by omega) hx
theorem Gp.all (T : TreeL tr) {s : Nat} (hs : s ≤ tr.length) {ws : List Nat} (g : Gp tr s ws ws.length) : ∀ v, v ≤ tr.length → v ∈ ws := by
  have key : ∀ d v, v ≤ tr.length → dst tr s v = d → v ∈ ws := by
    intro d
    induction d with
    | zero =>
      intro v hv h
      rw [dst_zero T hs hv h]
      exact g.st
    | succ d ih =>
      intro v hv h
      have ne : v ≠ s := fun z => by
        rw [z, dst_self T] at h
        omega
      obtain ⟨u, ul, ad, du⟩ := dst_prev T hs hv ne
      obtain ⟨i, hi⟩ := List.mem_iff_getElem?.mp (ih u ul (by omega))
      exact g.dn i u (List.getElem?_eq_some_iff.mp hi).1 hi v ad
  exact fun v hv => key _ v hv rfl
end
end TR

namespace TR
section
variable {tr : List E2}
theorem dst_cm (T : TreeL tr) {a b : Nat} (ha : a ≤ tr.length) (hb : b ≤ tr.length) : dst tr a b = dst tr b a := by
  obtain ⟨l, w, _⟩ := sw_ex T ha hb
  have h1 := dst_eq T w
  have h2 := dst_eq T w.rev
  rw [List.length_reverse] at h2
  omega
theorem fil_one {xs : List Nat} {p : Nat → Bool} {x : Nat} (nd : xs.Nodup) (hx : x ∈ xs) (hp : ∀ y ∈ xs, p y = true ↔ y = x) : xs.filter p = [x] := by
  induction xs with
  | nil => cases hx
  | cons y r ih =>
    rw [List.nodup_cons] at nd
    rw [List.filter_cons]
    by_cases c : y = x
    · subst c
      rw [if_pos ((hp y List.mem_cons_self).mpr rfl)]
      congr 1
      rw [List.filter_eq_nil_iff]
      intro z hz e
      have := (hp z (List.mem_cons_of_mem _ hz)).mp e
      exact nd.1 (this ▸ hz)
    · rw [if_neg (fun e => c ((hp y List.mem_cons_self).mp e))]
      refine ih nd.2 ((List.mem_cons.mp hx).resolve_left (fun e => c e.symm)) (fun z hz => hp z (List.mem_cons_of_mem _ hz))
/-- a neighbour of the head is beside the body: so it is farther from the tail -/
theorem nx_far (T : TreeL tr) {l : List Nat} (b : Bd tr l) {w : Nat} (ha : Adj tr (hd0 l) w) : l.length - 1 < dst tr w (lt0 l) ↔ w ∉ l := by
  have two := b.two
  constructor
  · intro h hm
    obtain ⟨p, r, e⟩ := List.append_of_mem hm
    have s := b.sw
    rw [e] at s
    have d := dst_eq T s.part
    have e2 := congrArg List.length e
    rw [List.length_append, List.length_cons] at e2
    rw [List.length_cons] at d
    rw [← e] at d
    omega
  · intro hn
    have s := (b.sw.rev.snoc ha (fun z => hn (List.mem_reverse.mp z))).rev
    have d := dst_eq T s
    simp at d
    omega
theorem lt0_eq {l : List Nat} {z : Nat} (h : l.getLast? = some z) : lt0 l = z := by
  unfold lt0
  rw [List.getLastD_eq_getLast?, h]
  rfl
/-- the station before the tail -/
theorem nx_pen (T : TreeL tr) {l : List Nat} (b : Bd tr l) : SW tr (hd0 l) (lt0 l.dropLast) l.dropLast ∧ Adj tr (lt0 l) (lt0 l.dropLast) := by
  obtain ⟨r, z, e, hr⟩ := bd_snoc b.two
  have ez : lt0 l = z := by rw [e, lt0_snoc]
  have s := b.sw
  rw [ez] at s ⊢
  rw [e] at s ⊢
  rw [List.dropLast_concat]
  obtain ⟨r', x, e2⟩ : ∃ r' x, r = r' ++ [x] := ⟨r.dropLast, r.getLast hr, (List.dropLast_concat_getLast hr).symm⟩
  have ex : lt0 r = x := by rw [e2, lt0_snoc]
  rw [ex]
  constructor
  · refine ⟨wk_init s.wk, (List.nodup_append.mp s.nd).1, ?_, by rw [e2]; simp⟩
    have := s.hd
    rw [List.head?_append] at this
    obtain ⟨y, r2, e3⟩ := List.exists_cons_of_ne_nil hr
    rw [e3] at this ⊢
    exact this
  · have s2 := s
    rw [e2, List.append_assoc] at s2
    have := (SW.part (l := r') (w := x) (r := [z]) s2).wk.1
    exact this.sym
theorem nx_back (T : TreeL tr) {l : List Nat} (b : Bd tr l) {xs : List Nat} (pm : xs.Perm (nb tr (lt0 l))) (nd : xs.Nodup) : xs.filter (fun s => decide (dst tr s (hd0 l) < l.length - 1)) = [lt0 l.dropLast] := by
  have two := b.two
  obtain ⟨s, ad⟩ := nx_pen T b
  have hl := b.hle
  have tl := b.lle
  have d0 := dst_eq T b.sw
  have d1 := dst_eq T s
  rw [List.length_dropLast] at d1
  have mm : ∀ {y : Nat}, y ∈ xs ↔ Adj tr (lt0 l) y := fun {y} => pm.mem_iff.trans (mem_nb T.ne)
  have xl := (T.adj_le ad).2
  refine fil_one nd (mm.mpr ad) (fun y hy => ?_)
  rw [decide_eq_true_iff]
  have ay := mm.mp hy
  have yl := (T.adj_le ay).2
  rw [dst_cm T yl hl]
  constructor
  · intro lt
    have dd := dst_adj T hl tl ay
    exact pre_uniq T hl tl ay.sym ad.sym (by omega) (by omega)
  · rintro rfl
    omega
/-- the ends after a move -/
theorem ends_head {l : List Nat} (h : 2 ≤ l.length) (w : Nat) : endsB (aft l (true, w)) = (w, lt0 l.dropLast) := by
  obtain ⟨r, z, e, hr⟩ := bd_snoc h
  unfold endsB aft
  rw [if_pos rfl, e, List.dropLast_concat]
  refine Prod.ext rfl ?_
  show lt0 (w :: r) = lt0 r
  obtain ⟨r', x, e2⟩ : ∃ r' x, r = r' ++ [x] := ⟨r.dropLast, r.getLast hr, (List.dropLast_concat_getLast hr).symm⟩
  rw [e2, lt0_snoc, ← List.cons_append, lt0_snoc]
theorem ends_tail {l : List Nat} (h : 2 ≤ l.length) (w : Nat) : endsB (aft l (false, w)) = (hd0 l.tail, w) := by
  obtain ⟨x, r, e, hr⟩ := bd_cons h
  unfold endsB aft
  rw [if_neg (by simp), e]
  refine Prod.ext ?_ lt0_snoc
  show hd0 (r ++ [w]) = hd0 r
  obtain ⟨y, r2, e3⟩ := List.exists_cons_of_ne_nil hr
  rw [e3]
  rfl
theorem lt0_dl_rev {l : List Nat} : lt0 l.reverse.dropLast = hd0 l.tail := by
  have : l.reverse.dropLast = l.tail.reverse := by
    cases l with
    | nil => rfl
    | cons a r => rw [List.reverse_cons, List.dropLast_concat]; rfl
  rw [this, lt0_rev]
theorem nx_farT (T : TreeL tr) {l : List Nat} (b : Bd tr l) {w : Nat} (ha : Adj tr (lt0 l) w) : l.length - 1 < dst tr w (hd0 l) ↔ w ∉ l := by
  have := nx_far T b.rev (w := w) (by rw [hd0_rev]; exact ha)
  rw [lt0_rev, List.length_reverse, List.mem_reverse] at this
  exact this
theorem nx_backT (T : TreeL tr) {l : List Nat} (b : Bd tr l) {xs : List Nat} (pm : xs.Perm (nb tr (hd0 l))) (nd : xs.Nodup) : xs.filter (fun s => decide (dst tr s (lt0 l) < l.length - 1)) = [hd0 l.tail] := by
  have := nx_back T b.rev (xs := xs) (by rw [lt0_rev]; exact pm) nd
  rw [hd0_rev, List.length_reverse, lt0_dl_rev] at this
  exact this
/-- the moves in the order of xs and ys -/
def mvL (l xs ys : List Nat) : List Mv := ((xs.filter fun w => decide (w ∉ l)).map fun w => (true, w)) ++ ((ys.filter fun w => decide (w ∉ l)).map fun w => (false, w))
theorem mem_mvL (T : TreeL tr) {l xs ys : List Nat} (px : xs.Perm (nb tr (hd0 l))) (py : ys.Perm (nb tr (lt0 l))) {mv : Mv} : mv ∈ mvL l xs ys ↔ mv ∈ poss tr l := by
  unfold mvL poss
  rw [List.mem_append, List.mem_append]
  have h1 : ∀ w, w ∈ xs.filter (fun w => decide (w ∉ l)) ↔ w ∈ fre tr l true := fun w => by
    unfold fre
    rw [List.mem_filter, List.mem_filter, px.mem_iff]
    rfl
  have h2 : ∀ w, w ∈ ys.filter (fun w => decide (w ∉ l)) ↔ w ∈ fre tr l false := fun w => by
    unfold fre
    rw [List.mem_filter, List.mem_filter, py.mem_iff]
    rfl
  rw [List.mem_map, List.mem_map, List.mem_map, List.mem_map]
  simp only [h1, h2]
end
end TR

namespace TR
section
variable {tr : List E2}
theorem clB_nil (T : TreeL tr) {l : List Nat} (b : Bd tr l) : clB tr l = [] ↔ pk tr l = none := by
  constructor
  · exact pk_none
  · intro h
    have b2 := b.two
    have br := brn_of T b
    have st0 : StI (nrB tr l) (frB tr l) (l.length - 1) 0 (l.length - 1) := .start (by omega)
    obtain ⟨n0, r, c, cm⟩ := clm_ex br (3 * (l.length - 1) + 2) 0 0 0 (l.length - 1) st0 (by decide) (by omega)
    have e := pk_clm T b cm
    cases c with
    | false =>
      rw [if_neg (by decide), h] at e
      cases e
    | true =>
      cases e2 : clB tr l with
      | nil => rfl
      | cons x s =>
        have hc := mem_clB.mp (show x ∈ clB tr l by rw [e2]; exact List.mem_cons_self)
        have := (clm_cl br hc cm st0 (Nat.zero_le _) hc.le).1
        cases this
theorem filter_mid {A B C : List Nat} (h : (A ++ (B ++ C)).Nodup) {P : Nat → Bool} (hP : ∀ z, z ∈ A ++ (B ++ C) → (P z = true ↔ z ∈ B)) : (A ++ (B ++ C)).filter P = B := by
  rw [List.nodup_append] at h
  obtain ⟨_, h2, h3⟩ := h
  rw [List.nodup_append] at h2
  obtain ⟨_, _, h4⟩ := h2
  have fA : A.filter P = [] := List.filter_eq_nil_iff.mpr fun z hz hp => h3 z hz z (List.mem_append_left _ ((hP z (List.mem_append_left _ hz)).mp hp)) rfl
  have fB : B.filter P = B := List.filter_eq_self.mpr fun z hz => (hP z (List.mem_append_right _ (List.mem_append_left _ hz))).mpr hz
  have fC : C.filter P = [] := List.filter_eq_nil_iff.mpr fun z hz hp => h4 z ((hP z (List.mem_append_right _ (List.mem_append_right _ hz))).mp hp) z hz rfl
  rw [List.filter_append, List.filter_append, fA, fB, fC, List.nil_append, List.append_nil]
theorem prt_split {l : List Nat} {i j : Nat} (h1 : i < j) (h2 : j < l.length) : l = l.take i ++ (prt l i j ++ l.drop (j + 1)) := by
  have e : prt l i j ++ l.drop (j + 1) = l.drop i := by
    unfold prt
    have : l.drop (j + 1) = (l.drop i).drop (j + 1 - i) := by
      rw [List.drop_drop]
      congr 1
      omega
    rw [this, List.take_append_drop]
  rw [e, List.take_append_drop]
/-- what is in common of all bodies, in the order of the first one -/
theorem com_some (T : TreeL tr) {l : List Nat} (b : Bd tr l) {bs : List (List Nat)} (hd : bs.head? = some l) (all : ∀ m, Leads tr l m ↔ m ∈ bs) {u v : Nat} (h : pk tr l = some (u, v)) :
    2 ≤ ((bs.headD []).filter fun z => decide (∀ m ∈ bs, z ∈ m)).length ∧ hd0 ((bs.headD []).filter fun z => decide (∀ m ∈ bs, z ∈ m)) = u ∧ lt0 ((bs.headD []).filter fun z => decide (∀ m ∈ bs, z ∈ m)) = v := by
  obtain ⟨p, q, h1, h2, h3, h4, h5, _⟩ := pk_common T b h
  have el : bs.headD [] = l := by rw [List.headD_eq_head?_getD, hd]; rfl
  have es := prt_split h1 h2
  have e : (bs.headD []).filter (fun z => decide (∀ m ∈ bs, z ∈ m)) = prt l p q := by
    rw [el]
    have nd := b.sw.nd
    rw [es] at nd
    have := filter_mid nd (P := fun z => decide (∀ m ∈ bs, z ∈ m)) fun z _ => by
      rw [decide_eq_true_iff]
      constructor
      · exact fun hz => (h5 z).mp fun m hm => hz m ((all m).mp hm)
      · exact fun hz m hm => (h5 z).mpr hz m ((all m).mpr hm)
    rw [← es] at this
    exact this
  rw [e]
  have r := prt_bd T b h1 h2
  exact ⟨r.bd.two, r.h.trans h3, r.t.trans h4⟩
theorem com_none (T : TreeL tr) {l : List Nat} (b : Bd tr l) {bs : List (List Nat)} (hd : bs.head? = some l) (all : ∀ m, Leads tr l m ↔ m ∈ bs) (h : pk tr l = none) :
    ((bs.headD []).filter fun z => decide (∀ m ∈ bs, z ∈ m)).length < 2 := by
  obtain ⟨m, k, s, hm, hk, hz⟩ := free_apart T b h
  have el : bs.headD [] = l := by rw [List.headD_eq_head?_getD, hd]; rfl
  rw [el]
  have nd : (l.filter fun z => decide (∀ m ∈ bs, z ∈ m)).Nodup := b.sw.nd.filter _
  have hs : l.filter (fun z => decide (∀ m ∈ bs, z ∈ m)) ⊆ [s] := fun z h => by
    have := of_decide_eq_true (List.mem_filter.mp h).2
    rw [List.mem_singleton]
    exact hz z (this m ((all m).mp hm)) (this k ((all k).mp hk))
  have := nd.length_le_of_subset hs
  rw [List.length_singleton] at this
  omega
end
end TR

namespace TR
section
variable {tr : List E2}
/-- a way of N stations from a station -/
structure Wy (tr : List E2) (N s : Nat) (q : List Nat) : Prop where
  sw : ∃ a, SW tr s a q
  len : q.length = N
theorem Wy.bd (T : TreeL tr) {N s : Nat} {q : List Nat} (h : Wy tr N s q) (hs : s ≤ tr.length) (hN : 2 ≤ N) : Bd tr q ∧ hd0 q = s := by
  obtain ⟨a, sw⟩ := h.sw
  have hl := h.len
  have ne : s ≠ a := fun z => by
    have h0 := sw_at0 sw
    have h1 := sw_atl sw
    exact sw_ne sw h0 h1 (by omega) z
  obtain ⟨b, e, _⟩ := sw_bd T sw hs ne
  exact ⟨b, e⟩
/-- a way into a deep branch -/
theorem wy_ex (T : TreeL tr) {L s w : Nat} (hw : w ∈ dpN tr L s) (hL : 1 ≤ L) : ∃ q, Wy tr (L + 1) s q ∧ q[1]? = some w := by
  obtain ⟨ad, d⟩ := (dpN_mem T).mp hw
  obtain ⟨p, a, sw, h1, hl⟩ := way_ex T ad
  obtain ⟨z, hz⟩ : ∃ z, p[L]? = some z := ⟨_, List.getElem?_eq_getElem (by omega)⟩
  refine ⟨p.take (L + 1), ⟨⟨z, sw.take hz⟩, by rw [List.length_take]; omega⟩, ?_⟩
  rw [List.getElem?_take, if_pos (by omega)]
  exact h1
theorem wy_dp (T : TreeL tr) {L s w : Nat} {q : List Nat} (h : Wy tr (L + 1) s q) (hs : s ≤ tr.length) (h1 : q[1]? = some w) : w ∈ dpN tr L s := by
  obtain ⟨a, sw⟩ := h.sw
  have := way_le T hs sw h1
  have hl := h.len
  exact (dpN_mem T).mpr ⟨wk_at sw.wk (sw_at0 sw) h1, by omega⟩
/-- the train goes on along a way, as far as its last part -/
theorem wy_go (T : TreeL tr) {L : Nat} {m r q : List Nat} (b : Bd tr m) (len : m.length = L + 1) {a x y : Nat} (sw : SW tr (hd0 m) a (r ++ q)) (hq : q.length = L + 1) (hx : (r ++ q)[1]? = some x) (hy : m[1]? = some y) (ne : x ≠ y) : Leads tr m q.reverse := by
  have h := leads_way T b sw hx hy ne
  rw [len] at h
  have e : ((r ++ q).tail.reverse ++ m).take (L + 1) = q.reverse := by
    cases r with
    | nil =>
      have hh := sw.hd
      match q, hq, hh with
      | s :: q', hq, hh =>
        have es : s = hd0 m := Option.some.inj hh
        obtain ⟨u, m', em, _⟩ := bd_cons b.two
        subst em
        have es : s = u := es
        subst es
        have lq : q'.reverse.length = L := by rw [List.length_reverse]; simpa using hq
        show (q'.reverse ++ s :: m').take (L + 1) = (s :: q').reverse
        rw [List.reverse_cons, List.take_append, lq, List.take_of_length_le (by omega), show L + 1 - L = 1 by omega]
        rfl
    | cons u r' =>
      show ((r' ++ q).reverse ++ m).take (L + 1) = q.reverse
      rw [List.reverse_append, List.append_assoc, List.take_append_of_le_length (by rw [List.length_reverse]; omega), List.take_of_length_le (by rw [List.length_reverse]; omega)]
  rw [e] at h
  exact h
/-- from one branch into another -/
theorem wy_swap (T : TreeL tr) {L s x y : Nat} {p q : List Nat} (hs : s ≤ tr.length) (hL : 1 ≤ L) (hp : Wy tr (L + 1) s p) (hq : Wy tr (L + 1) s q) (h1 : p[1]? = some x) (h2 : q[1]? = some y) (ne : x ≠ y) : Leads tr p q.reverse := by
  obtain ⟨b, e⟩ := hp.bd T hs (by omega)
  obtain ⟨a, sw⟩ := hq.sw
  exact wy_go T (r := []) b hp.len (a := a) (by rw [e]; exact sw) hq.len h2 h1 (fun z => ne z.symm)
/-- a train whose head has a deep branch before it comes to each station with two deep branches -/
theorem wy_to (T : TreeL tr) {L t y : Nat} {m : List Nat} (b : Bd tr m) (len : m.length = L + 1) (hL : 1 ≤ L) (hy : m[1]? = some y) (deep : L ≤ dph tr (hd0 m) y) (ht : t ≤ tr.length) (two : 2 ≤ (dpN tr L t).length) :
    ∃ q, Wy tr (L + 1) t q ∧ (Leads tr m q ∨ Leads tr m q.reverse) := by
  have hv := b.hle
  obtain ⟨x, hx, nx, ex⟩ : ∃ x, x ∈ nb tr (hd0 m) ∧ x ≠ y ∧ dph tr (hd0 m) y = dph tr x (hd0 m) + 1 := by
    rcases dph_ex (b := y) T hv with h | h
    · omega
    · exact h
  have dx : x ∈ dpN tr L (hd0 m) := (dpN_mem T).mpr ⟨(mem_nb T.ne).mp hx, by omega⟩
  obtain ⟨qx, wx, hqx⟩ := wy_ex T dx hL
  obtain ⟨ax, swx⟩ := wx.sw
  have gx : Leads tr m qx.reverse := wy_go T (r := []) b len (a := ax) swx wx.len hqx hy nx
  by_cases c : hd0 m = t
  · exact ⟨qx, by rw [← c]; exact wx, .inr gx⟩
  obtain ⟨r, sr, _⟩ := sw_ex T hv ht
  have r2 := sw_two sr c
  obtain ⟨u, hu⟩ : ∃ u, r[1]? = some u := ⟨_, List.getElem?_eq_getElem (by omega)⟩
  obtain ⟨o, ho⟩ : ∃ o, r.reverse[1]? = some o := ⟨_, List.getElem?_eq_getElem (by rw [List.length_reverse]; omega)⟩
  obtain ⟨z, hz, no⟩ : ∃ z, z ∈ dpN tr L t ∧ o ≠ z := by
    obtain ⟨z1, z2, h1, h2, ne⟩ := two_of (dpN_nd T L t) two
    by_cases e : o = z1
    · exact ⟨z2, h2, fun e2 => ne (e.symm.trans e2)⟩
    · exact ⟨z1, h1, e⟩
  obtain ⟨q, wq, hq1⟩ := wy_ex T hz hL
  obtain ⟨a, sq⟩ := wq.sw
  have j := sw_join T sr.rev sq ho hq1 no
  rw [List.reverse_reverse] at j
  obtain ⟨r', er⟩ : ∃ r', r = r' ++ [t] := by
    have := sr.lt
    rw [List.getLast?_eq_some_iff] at this
    exact this
  have ej : r ++ q.tail = r' ++ q := by
    match q, sq.hd with
    | s :: q', hh =>
      have : s = t := Option.some.inj hh
      subst this
      rw [er, List.append_assoc]
      rfl
  rw [ej] at j
  have hu2 : (r' ++ q)[1]? = some u := by
    rw [← ej, List.getElem?_append_left (by omega)]
    exact hu
  by_cases cu : u = y
  · have ne : u ≠ x := fun z => nx (z.symm.trans cu)
    obtain ⟨bq, eq⟩ := wx.bd T hv (by omega)
    have g2 := wy_go T (r := r') (q := q) bq wx.len (a := a) (by rw [eq]; exact j) wq.len hu2 hqx ne
    have g3 := g2.rev T
    rw [List.reverse_reverse] at g3
    exact ⟨q, wq, .inl (gx.trans g3)⟩
  · exact ⟨q, wq, .inr (wy_go T (r := r') b len (a := a) j wq.len hu2 hy cu)⟩
/-- a free train has a body with a deep branch before its head, or behind its tail -/
theorem free_deep (T : TreeL tr) {L : Nat} {l : List Nat} (b : Bd tr l) (len : l.length = L + 1) (free : pk tr l = none) :
    (∃ m y, Leads tr l m ∧ m[1]? = some y ∧ L ≤ dph tr (hd0 m) y) ∨ ∃ m y, Leads tr l.reverse m ∧ m[1]? = some y ∧ L ≤ dph tr (hd0 m) y := by
  rcases pk_cases T b with ⟨_, i, j, st, wf, wt, h⟩ | ⟨p, q, h, _⟩
  · have eL : l.length - 1 = L := by omega
    rw [eL] at st
    have h1 := st.lt
    have h2 := st.le
    have key : ∀ {k : List Nat} {i j : Nat}, i < j → j < k.length → WF tr k i j → L ≤ nrB tr k i → ∃ m y, Leads tr k m ∧ m[1]? = some y ∧ L ≤ dph tr (hd0 m) y := fun {k i j} h1 h2 wf hd => by
      obtain ⟨m, hm, e⟩ := wf
      obtain ⟨e0, e1⟩ := wf_at h1 h2 e
      refine ⟨m, _, hm, e1, ?_⟩
      have : hd0 m = k.getD i 0 := by
        unfold hd0
        rw [List.headD_eq_head?_getD, List.head?_eq_getElem?, e0]
        rfl
      rw [this]
      exact hd
    rcases h with h | h
    · exact .inl (key h1 (by omega) wf (by omega))
    · have w2 := rev_wf T b h1 (by omega) wt
      refine .inr (key (by omega) (by rw [List.length_reverse]; omega) w2 ?_)
      rw [nrB_rev (by omega), show l.length - 1 - (l.length - 1 - j) = j by omega]
      omega
  · rw [free] at h
    cases h
theorem free_to (T : TreeL tr) {L t : Nat} {l : List Nat} (b : Bd tr l) (len : l.length = L + 1) (free : pk tr l = none) (ht : t ≤ tr.length) (two : 2 ≤ (dpN tr L t).length) :
    ∃ q, Wy tr (L + 1) t q ∧ (Leads tr l q ∨ Leads tr l q.reverse) := by
  have hL : 1 ≤ L := by have := b.two; omega
  rcases free_deep T b len free with ⟨m, y, hm, hy, d⟩ | ⟨m, y, hm, hy, d⟩
  · obtain ⟨bm, ml⟩ := hm.bd T b
    obtain ⟨q, wq, h⟩ := wy_to T bm (ml.trans len) hL hy d ht two
    exact ⟨q, wq, h.imp (hm.trans ·) (hm.trans ·)⟩
  · obtain ⟨bm, ml⟩ := hm.bd T b.rev
    rw [List.length_reverse] at ml
    obtain ⟨q, wq, h⟩ := wy_to T bm (ml.trans len) hL hy d ht two
    refine ⟨q, wq, ?_⟩
    rcases h with h | h
    · have := (hm.trans h).rev T
      rw [List.reverse_reverse] at this
      exact .inr this
    · have := (hm.trans h).rev T
      rw [List.reverse_reverse, List.reverse_reverse] at this
      exact .inl this
/-- the ways from a station with two deep branches: one class or its exchanged one -/
theorem wy_norm (T : TreeL tr) {L t : Nat} {c q : List Nat} (ht : t ≤ tr.length) (hL : 1 ≤ L) (two : 2 ≤ (dpN tr L t).length) (hc : Wy tr (L + 1) t c) (hq : Wy tr (L + 1) t q) : Leads tr q c ∨ Leads tr q c.reverse := by
  obtain ⟨x, hx⟩ : ∃ x, c[1]? = some x := ⟨_, List.getElem?_eq_getElem (by rw [hc.len]; omega)⟩
  obtain ⟨y, hy⟩ : ∃ y, q[1]? = some y := ⟨_, List.getElem?_eq_getElem (by rw [hq.len]; omega)⟩
  by_cases e : x = y
  · obtain ⟨z, hz, ne⟩ : ∃ z, z ∈ dpN tr L t ∧ z ≠ x := by
      obtain ⟨z1, z2, h1, h2, ne⟩ := two_of (dpN_nd T L t) two
      by_cases e : z1 = x
      · exact ⟨z2, h2, fun e2 => ne (e.trans e2.symm)⟩
      · exact ⟨z1, h1, e⟩
    obtain ⟨w, hw, w1⟩ := wy_ex T hz hL
    have g1 := wy_swap T ht hL hq hw hy w1 (fun z => ne (z.symm.trans e.symm))
    have g2 := wy_swap T ht hL hc hw hx w1 (fun z => ne z.symm)
    exact .inl (g1.trans (g2.symm T (hc.bd T ht (by omega)).1))
  · exact .inr (wy_swap T ht hL hq hc hy hx (fun z => e z.symm))
/-- a station with three deep branches: the train turns round -/
theorem wy_turn (T : TreeL tr) {L t : Nat} {c : List Nat} (ht : t ≤ tr.length) (hL : 1 ≤ L) (three : 3 ≤ (dpN tr L t).length) (hc : Wy tr (L + 1) t c) : Leads tr c c.reverse := by
  obtain ⟨x, hx⟩ : ∃ x, c[1]? = some x := ⟨_, List.getElem?_eq_getElem (by rw [hc.len]; omega)⟩
  have nd : ((dpN tr L t).erase x).Nodup := (dpN_nd T L t).erase x
  have le : 2 ≤ ((dpN tr L t).erase x).length := by
    rw [List.length_erase]
    split <;> omega
  obtain ⟨y, z, hy, hz, ne⟩ := two_of nd le
  have hy2 := ((dpN_nd T L t).mem_erase_iff).mp hy
  have hz2 := ((dpN_nd T L t).mem_erase_iff).mp hz
  obtain ⟨q, wq, q1⟩ := wy_ex T hy2.2 hL
  obtain ⟨r, wr, r1⟩ := wy_ex T hz2.2 hL
  have g1 := wy_swap T ht hL hc wq hx q1 (fun e => hy2.1 e.symm)
  have g2 := (wy_swap T ht hL wq wr q1 r1 ne).rev T
  rw [List.reverse_reverse] at g2
  have g3 := wy_swap T ht hL wr hc r1 hx hz2.1
  exact (g1.trans g2).trans g3
/-- one free class and its exchanged one -/
theorem free_can (T : TreeL tr) {L t : Nat} {c l : List Nat} (b : Bd tr l) (len : l.length = L + 1) (free : pk tr l = none) (ht : t ≤ tr.length) (two : 2 ≤ (dpN tr L t).length) (hc : Wy tr (L + 1) t c) : Leads tr l c ∨ Leads tr l c.reverse := by
  have hL : 1 ≤ L := by have := b.two; omega
  obtain ⟨q, wq, h⟩ := free_to T b len free ht two
  have n := wy_norm T ht hL two hc wq
  rcases h with h | h
  · exact n.imp (h.trans ·) (h.trans ·)
  · rcases n with n | n
    · exact .inr (h.trans (n.rev T))
    · refine .inl (h.trans ?_)
      have := n.rev T
      rw [List.reverse_reverse] at this
      exact this
/-- with a station of three deep branches all free trains are in one class -/
theorem free_pivot (T : TreeL tr) {L t : Nat} {l m : List Nat} (b : Bd tr l) (len : l.length = L + 1) (free : pk tr l = none) (b2 : Bd tr m) (len2 : m.length = L + 1) (free2 : pk tr m = none) (ht : t ≤ tr.length) (three : 3 ≤ (dpN tr L t).length) : Leads tr l m := by
  have hL : 1 ≤ L := by have := b.two; omega
  obtain ⟨x, _, hx, _⟩ := two_of (dpN_nd T L t) (by omega)
  obtain ⟨c, wc, _⟩ := wy_ex T hx hL
  have tn := wy_turn T ht hL three wc
  have bc := (wc.bd T ht (by omega)).1
  have one : ∀ {k : List Nat}, Bd tr k → k.length = L + 1 → pk tr k = none → Leads tr k c := fun {k} b l f => by
    rcases free_can T b l f ht (by omega) wc with h | h
    · exact h
    · exact h.trans (tn.symm T bc)
  exact (one b len free).trans ((one b2 len2 free2).symm T b2)
/-- where there is a free train there is a station with two deep branches -/
theorem free_trunk (T : TreeL tr) {L : Nat} {l : List Nat} (b : Bd tr l) (len : l.length = L + 1) (free : pk tr l = none) : ∃ t, t ≤ tr.length ∧ 2 ≤ (dpN tr L t).length := by
  have b2 := b.two
  have eL : l.length - 1 = L := by omega
  refine Classical.byContradiction fun no => ?_
  have one : ∀ {s x y : Nat}, s ≤ tr.length → x ∈ dpN tr L s → y ∈ dpN tr L s → x = y := fun {s x y} hs hx hy => by
    refine Classical.byContradiction fun ne => no ⟨s, hs, ?_⟩
    match hd : dpN tr L s with
    | [] => rw [hd] at hx; cases hx
    | [a] =>
      rw [hd] at hx hy
      exact absurd ((List.mem_singleton.mp hx).trans (List.mem_singleton.mp hy).symm) ne
    | a :: b :: r => simp
  -- the least place with a deep branch before it
  obtain ⟨k, k1, k2, hk, mn⟩ : ∃ k, 1 ≤ k ∧ k ≤ L ∧ L ≤ dph tr (l.getD (k - 1) 0) (l.getD k 0) + 1 ∧ ∀ j, 1 ≤ j → j < k → ¬ L ≤ dph tr (l.getD (j - 1) 0) (l.getD j 0) + 1 := by
    have ex : ∃ n, 1 ≤ n ∧ n ≤ L ∧ L ≤ dph tr (l.getD (n - 1) 0) (l.getD n 0) + 1 := by
      refine ⟨L, by omega, Nat.le_refl _, ?_⟩
      have h := nr_ge T b (k := L - 1) (gD (by omega)) (q := l.getD L 0) (by rw [show L - 1 + 1 = L by omega]; exact gD (by omega))
      omega
    obtain ⟨n0, hn0⟩ := ex
    obtain ⟨n, hn, mn⟩ := ex_min (P := fun n => 1 ≤ n ∧ n ≤ L ∧ L ≤ dph tr (l.getD (n - 1) 0) (l.getD n 0) + 1) n0 hn0
    exact ⟨n, hn.1, hn.2.1, hn.2.2, fun j h1 h2 h3 => mn j h2 ⟨h1, by have := hn.2.1; omega, h3⟩⟩
  have ga := gD (l := l) (i := k - 1) (by omega)
  have gb := gD (l := l) (i := k) (by omega)
  have bk : L ≤ dph tr (l.getD k 0) (l.getD (k - 1) 0) + 1 := by
    by_cases c : k = 1
    · subst c
      have := fr_ge T b (k := 0) (q := l.getD 0 0) (gD (by omega)) (y := l.getD 1 0) (gD (by omega))
      show L ≤ dph tr (l.getD 1 0) (l.getD 0 0) + 1
      omega
    · refine Classical.byContradiction fun z => ?_
      refine held T b (k := k - 2) (x := l.getD (k - 2) 0) (q := l.getD (k - 1) 0) (y := l.getD k 0) (gD (by omega)) (by rw [show k - 2 + 1 = k - 1 by omega]; exact ga) (by rw [show k - 2 + 2 = k by omega]; exact gb) ?_ (by omega) free
      have := mn (k - 1) (by omega) (by omega)
      rw [show k - 1 - 1 = k - 2 by omega] at this
      omega
  have ad : Adj tr (l.getD (k - 1) 0) (l.getD k 0) := wk_at b.sw.wk ga (by rw [show k - 1 + 1 = k by omega]; exact gb)
  have al := T.adj_le ad
  have sh : ∀ {u v : Nat}, Adj tr u v → L ≤ dph tr v u + 1 → dph tr u v ≤ L - 1 := fun {u v} ad d => by
    rcases dph_ex (b := v) T (T.adj_le ad).1 with h | ⟨w, hw, nw, e⟩
    · omega
    · have : ¬ L ≤ dph tr w u + 1 := fun z => nw (one (T.adj_le ad).1 ((dpN_mem T).mpr ⟨(mem_nb T.ne).mp hw, z⟩) ((dpN_mem T).mpr ⟨ad, d⟩))
      omega
  have d1 := sh ad bk
  have d2 := sh ad.sym hk
  have cl : Cl (nrB tr l) (frB tr l) (l.length - 1) (k - 1) k := by
    refine ⟨by omega, by omega, ?_, ?_⟩
    · show dph tr (l.getD (k - 1) 0) (l.getD (k - 1 + 1) 0) + _ ≤ _
      rw [show k - 1 + 1 = k by omega]
      omega
    · show dph tr (l.getD k 0) (l.getD (k - 1) 0) + _ ≤ _
      omega
  have : (k - 1, k) ∈ clB tr l := mem_clB.mpr cl
  rw [(clB_nil T b).mpr free] at this
  cases this
/-- what goes from a station with two deep branches is free -/
theorem wy_free (T : TreeL tr) {L t : Nat} {c : List Nat} (ht : t ≤ tr.length) (hL : 1 ≤ L) (two : 2 ≤ (dpN tr L t).length) (hc : Wy tr (L + 1) t c) : pk tr c = none := by
  obtain ⟨b, e⟩ := hc.bd T ht (by omega)
  obtain ⟨x, hx⟩ : ∃ x, c[1]? = some x := ⟨_, List.getElem?_eq_getElem (by rw [hc.len]; omega)⟩
  obtain ⟨z, hz, ne⟩ : ∃ z, z ∈ dpN tr L t ∧ z ≠ x := by
    obtain ⟨z1, z2, h1, h2, ne⟩ := two_of (dpN_nd T L t) two
    by_cases e : z1 = x
    · exact ⟨z2, h2, fun e2 => ne (e.trans e2.symm)⟩
    · exact ⟨z1, h1, e⟩
  obtain ⟨q, wq, q1⟩ := wy_ex T hz hL
  have g := wy_swap T ht hL hc wq hx q1 (fun z => ne z.symm)
  cases hp : pk tr c with
  | none => rfl
  | some uv =>
    obtain ⟨i, j, h1, h2, _, _, all, _⟩ := pk_common T b (u := uv.1) (v := uv.2) hp
    have on : ∀ s, s ∈ prt c i j → s = t := fun s hs => by
      have m1 := (all s).mpr hs c (.refl c)
      have m2 := List.mem_reverse.mp ((all s).mpr hs q.reverse g)
      refine Classical.byContradiction fun ns => ?_
      obtain ⟨a1, s1⟩ := hc.sw
      obtain ⟨a2, s2⟩ := wq.sw
      have j2 := sw_join T s1 s2 hx q1 (fun z => ne z.symm)
      have n1 : s ∈ q.tail := by
        match q, s2.hd, m2 with
        | u :: q', hh, m2 =>
          have eu : u = t := Option.some.inj hh
          rcases List.mem_cons.mp m2 with h | h
          · exact absurd (h.trans eu) ns
          · exact h
      exact (List.nodup_append.mp j2.nd).2.2 s (List.mem_reverse.mpr m1) s n1 rfl
    have p1 : c.getD i 0 ∈ prt c i j := by
      unfold prt
      refine List.mem_iff_getElem?.mpr ⟨0, ?_⟩
      rw [List.getElem?_take, if_pos (by omega), List.getElem?_drop, Nat.add_zero]
      exact gD (by omega)
    have p2 : c.getD j 0 ∈ prt c i j := by
      unfold prt
      refine List.mem_iff_getElem?.mpr ⟨j - i, ?_⟩
      rw [List.getElem?_take, if_pos (by omega), List.getElem?_drop, show i + (j - i) = j by omega]
      exact gD (by omega)
    have e1 := on _ p1
    have e2 := on _ p2
    have := (List.getElem?_inj (i := i) (j := j) (by omega) b.sw.nd).mp (by rw [gD (by omega), gD h2, e1, e2])
    omega
end
end TR

namespace TR
variable {tr : List E2}
theorem tri_d (T : TreeL tr) {a b c : Nat} (ha : a ≤ tr.length) (hb : b ≤ tr.length) (hc : c ≤ tr.length) : dst tr a b ≤ dst tr c a + dst tr c b := by
  obtain ⟨p, wp, _⟩ := sw_ex T hc ha
  obtain ⟨q, wq, _⟩ := sw_ex T hc hb
  obtain ⟨r, wr, _⟩ := sw_ex T ha hb
  have h1 := tri T wp wq wr
  have e1 := dst_eq T wp
  have e2 := dst_eq T wq
  have e3 := dst_eq T wr
  omega
theorem dst_in (T : TreeL tr) {m : List Nat} (b : Bd tr m) {i j : Nat} (h1 : i ≤ j) (h2 : j < m.length) : dst tr (m.getD i 0) (m.getD j 0) = j - i := by
  by_cases c : i = j
  · subst c
    rw [dst_self T]
    omega
  have PR := prt_bd T b (show i < j by omega) h2
  have e := dst_eq T PR.bd.sw
  rw [PR.h, PR.t, PR.n] at e
  omega
theorem head_of (T : TreeL tr) {l m : List Nat} (b : Bd tr l) {u v : Nat} (h : pk tr l = some (u, v)) (ld : Leads tr l m) : dst tr v (hd0 m) = dst tr u v + dst tr u (hd0 m) := by
  have bm := (ld.bd T b).1
  have hm : pk tr m = some (u, v) := by rw [pk_class T b ld, h]
  obtain ⟨p, q, h1, h2, e1, e2, _⟩ := pk_common T bm hm
  have e0 : hd0 m = m.getD 0 0 := by cases m <;> rfl
  have le : ∀ i, i < m.length → m.getD i 0 ≤ tr.length := fun i hi => bm.le _ (List.mem_of_getElem? (gD hi))
  have a1 := dst_in T bm (Nat.zero_le q) h2
  have a2 := dst_in T bm (Nat.zero_le p) (by omega)
  have a3 := dst_in T bm (Nat.le_of_lt h1) h2
  rw [e0, ← e1, ← e2, dst_cm T (le q h2) (le 0 (by omega)), dst_cm T (le p (by omega)) (le 0 (by omega)), a1, a2, a3]
  omega
theorem head_to (T : TreeL tr) {l : List Nat} (b : Bd tr l) {u v x : Nat} (h : pk tr l = some (u, v)) (hx : x ≤ tr.length) (hd : dst tr v x = dst tr u v + dst tr u x) : ∃ m, Leads tr l m ∧ hd0 m = x := by
  obtain ⟨_, _, _, _, _, _, _, ⟨m, ld, hu⟩, _⟩ := pk_common T b h
  have bm := (ld.bd T b).1
  have hm : pk tr m = some (u, v) := by rw [pk_class T b ld, h]
  obtain ⟨p, q, h1, h2, e1, e2, _⟩ := pk_common T bm hm
  have e0 : hd0 m = m.getD 0 0 := by cases m <;> rfl
  have g0 := gD (l := m) (i := 0) (by omega)
  rw [← e0, hu] at g0
  have le : ∀ i, i < m.length → m.getD i 0 ≤ tr.length := fun i hi => bm.le _ (List.mem_of_getElem? (gD hi))
  have ul : u ≤ tr.length := by rw [← hu]; exact bm.hle
  have vl : v ≤ tr.length := by rw [← e2]; exact le q h2
  by_cases cx : x = u
  · exact ⟨m, ld, by rw [hu, cx]⟩
  obtain ⟨P, wP, _⟩ := sw_ex T ul hx
  obtain ⟨bP, hP, tP⟩ := sw_bd T wP ul (fun z => cx z.symm)
  have P2 := bP.two
  have ga := gD (l := P) (i := 1) (by omega)
  have gc := gD (l := m) (i := 1) (by omega)
  by_cases c : P.getD 1 0 = m.getD 1 0
  · have dq := dst_in T bm (Nat.zero_le q) h2
    rw [← e0, hu, e2] at dq
    have dc := dst_in T bm (show 1 ≤ q by omega) h2
    rw [e2] at dc
    have lP : P.getD (P.length - 1) 0 = x := by
      rw [← tP]
      have : P.getLast? = some (P.getD (P.length - 1) 0) := by rw [List.getLast?_eq_getElem?]; exact gD (by omega)
      exact (lt0_of this).symm
    have dP := dst_in T bP (show 1 ≤ P.length - 1 by omega) (by omega)
    rw [lP, c] at dP
    have dx := dst_eq T wP
    have cl := le 1 (by omega)
    have t3 := tri_d T vl hx cl
    omega
  · refine ⟨_, ld.trans (leads_way T bm (by rw [hu]; exact wP) ga gc c), ?_⟩
    have ne : P.tail ≠ [] := fun z => by
      have h0 : P.tail.length = 0 := by rw [z]; rfl
      rw [List.length_tail] at h0
      omega
    obtain ⟨A, z, eA⟩ : ∃ A z, P.tail = A ++ [z] := by
      rcases List.eq_nil_or_concat P.tail with e | ⟨A, z, e⟩
      · exact absurd e ne
      · exact ⟨A, z, by rw [e, List.concat_eq_append]⟩
    have zx : z = x := by
      rw [← tP]
      have : P.getLast? = some z := by
        obtain ⟨y, r, e⟩ : ∃ y r, P = y :: r := by
          cases P with
          | nil => simp at P2
          | cons y r => exact ⟨y, r, rfl⟩
        rw [e] at eA ⊢
        rw [show (y :: r).tail = r from rfl] at eA
        rw [eA]
        exact List.getLast?_concat (l := y :: A)
      exact (lt0_of this).symm
    obtain ⟨k, ek⟩ : ∃ k, m.length = k + 1 := ⟨m.length - 1, by omega⟩
    rw [eA, List.reverse_append, zx, ek]
    rfl
theorem heads_iff (T : TreeL tr) {l : List Nat} (b : Bd tr l) {u v x : Nat} (h : pk tr l = some (u, v)) : (∃ m, Leads tr l m ∧ hd0 m = x) ↔ x ≤ tr.length ∧ dst tr v x = dst tr u v + dst tr u x := by
  constructor
  · rintro ⟨m, ld, rfl⟩
    exact ⟨(ld.bd T b).1.hle, head_of T b h ld⟩
  · rintro ⟨h1, h2⟩
    exact head_to T b h h1 h2
theorem tails_rev (T : TreeL tr) {l : List Nat} {y : Nat} : (∃ m, Leads tr l m ∧ lt0 m = y) ↔ ∃ m, Leads tr l.reverse m ∧ hd0 m = y := by
  constructor
  · rintro ⟨m, ld, rfl⟩
    exact ⟨m.reverse, ld.rev T, hd0_rev⟩
  · rintro ⟨m, ld, rfl⟩
    refine ⟨m.reverse, ?_, lt0_rev⟩
    have := ld.rev T
    rw [List.reverse_reverse] at this
    exact this
theorem tails_iff (T : TreeL tr) {l : List Nat} (b : Bd tr l) {u v y : Nat} (h : pk tr l = some (u, v)) : (∃ m, Leads tr l m ∧ lt0 m = y) ↔ y ≤ tr.length ∧ dst tr u y = dst tr v u + dst tr v y := by
  rw [tails_rev T]
  exact heads_iff T b.rev (by rw [pk_rev b.two, h]; rfl)
theorem free_turn (T : TreeL tr) {l : List Nat} (b : Bd tr l) (h : pk tr l = none) {t : Nat} (ht : t ≤ tr.length) (three : 3 ≤ (dpN tr (l.length - 1) t).length) : Leads tr l l.reverse := by
  have b2 := b.two
  exact free_pivot T (L := l.length - 1) b (by omega) h b.rev (by rw [List.length_reverse]; omega) (by rw [pk_rev b.two, h]; rfl) ht three
end TR

namespace TR
/-! What lies behind a station, seen over one of its neighbours: the stations of a branch's layers, once each. -/
section
variable {tr : List E2}
/-- a path that does not begin over b goes through the layers barred by b -/
theorem sw_lyrB (T : TreeL tr) : ∀ (k s : Nat) (b : Option Nat) (v : Nat) (l : List Nat), SW tr s v l → l.length = k + 1 → (∀ x, b = some x → l[1]? ≠ some x) → ∃ e, (v, e) ∈ lyr tr s b k
  | 0, s, b, v, l, w, hl, _ => by
    obtain ⟨x, rfl⟩ := List.length_eq_one_iff.mp hl
    have e1 : x = s := Option.some.inj w.hd
    have e2 : x = v := Option.some.inj w.lt
    exact ⟨b, by rw [← e2, e1]; simp [lyr]⟩
  | k + 1, s, b, v, l, w, hl, hb => by
    obtain ⟨a, c, l', rfl⟩ : ∃ a c l', l = a :: c :: l' := by
      match l, hl with
      | a :: c :: l', _ => exact ⟨a, c, l', rfl⟩
    have e1 : a = s := Option.some.inj w.hd
    subst e1
    have ad : Adj tr a c := w.wk.1
    have w2 : SW tr c v (c :: l') := SW.part (l := [a]) w
    have hc : some c ≠ b := fun z => hb c z.symm rfl
    obtain ⟨e, he⟩ := sw_lyrB T k c (some a) v (c :: l') w2 (by simpa using hl) (fun x hx z => by
      cases hx
      have z : l'[0]? = some a := z
      have m : a ∈ l' := List.mem_of_getElem? z
      exact (List.nodup_cons.mp w.nd).1 (List.mem_cons_of_mem _ m))
    refine ⟨e, ?_⟩
    rw [lyr_step, List.mem_flatMap]
    exact ⟨(c, some a), (mem_nxt T).mpr ⟨ad, hc, rfl⟩, he⟩
theorem lyr_swB (T : TreeL tr) {s : Nat} {b : Option Nat} : ∀ (k : Nat) (x : Nat × Option Nat), x ∈ lyr tr s b k → ∃ l, SW tr s x.1 l ∧ l.length = k + 1 ∧ (∀ z, b = some z → l[1]? ≠ some z)
  | 0, x, h => by
    have e : x = (s, b) := by simpa [lyr] using h
    subst e
    exact ⟨[s], SW.one s, rfl, fun z _ q => by cases q⟩
  | k + 1, x, h => by
    obtain ⟨l, w, hl, _⟩ := lyr_sw T (k + 1) x h
    refine ⟨l, w, hl, fun z hz q => ?_⟩
    rw [lyr_step, List.mem_flatMap] at h
    obtain ⟨y, hy, hx⟩ := h
    obtain ⟨h1, h2, h3⟩ := (mem_nxt T).mp hy
    obtain ⟨l2, w2, hl2, hb2⟩ := lyr_swB T k x hx
    have w2 : SW tr y.1 x.1 l2 := w2
    have hn : s ∉ l2 := fun m => by
      obtain ⟨p, r, e⟩ := List.append_of_mem m
      have hd : l2[0]? = some y.1 := sw_at0 w2
      have sy : s ≠ y.1 := fun z => T.adj_ne h1 z
      cases p with
      | nil => exact sy (by rw [e] at hd; exact Option.some.inj hd)
      | cons a p =>
        rw [e] at hd
        have ea : a = y.1 := Option.some.inj hd
        subst ea
        -- the walk from y to s is of two stations
        have w3 : SW tr y.1 s ((y.1 :: p) ++ [s]) := SW.pre (by rw [e] at w2; exact w2)
        have w4 : SW tr y.1 s [y.1, s] := ⟨⟨h1.sym, trivial⟩, List.nodup_cons.mpr ⟨fun m => sy (List.mem_singleton.mp m).symm, by simp⟩, rfl, rfl⟩
        have e5 := SW.uniq T w3 w4
        have ep : p = [] := by
          have := congrArg List.length e5
          simp at this
          exact this
        subst ep
        refine hb2 s h3 ?_
        rw [e]
        rfl
    have w5 : SW tr s x.1 (s :: l2) := by
      obtain ⟨c, l3, rfl⟩ : ∃ c l3, l2 = c :: l3 := by
        match l2, hl2 with
        | c :: l3, _ => exact ⟨c, l3, rfl⟩
      have ec : c = y.1 := Option.some.inj w2.hd
      subst ec
      exact ⟨⟨h1, w2.wk⟩, List.nodup_cons.mpr ⟨hn, w2.nd⟩, rfl, by rw [List.getLast?_cons_cons]; exact w2.lt⟩
    have e6 := SW.uniq T w w5
    subst e6
    have q : l2[0]? = some z := q
    rw [sw_at0 w2] at q
    cases q
    exact h2 hz.symm
/-- the stations behind s, seen over its neighbour x, in their order -/
noncomputable def bh (tr : List E2) (s x : Nat) : List Nat := (List.range (tr.length + 1)).filter fun v => decide ((pl tr s v)[1]? ≠ some x)
theorem mem_bh {s x v : Nat} : v ∈ bh tr s x ↔ v ≤ tr.length ∧ (pl tr s v)[1]? ≠ some x := by
  unfold bh
  rw [List.mem_filter, List.mem_range, decide_eq_true_iff]
  constructor
  · rintro ⟨a, b⟩
    exact ⟨by omega, b⟩
  · rintro ⟨a, b⟩
    exact ⟨by omega, b⟩
theorem bh_nd (s x : Nat) : (bh tr s x).Nodup := List.nodup_range.filter _
theorem mem_lyrs (T : TreeL tr) {s x v : Nat} (hs : s ≤ tr.length) : (∃ k, v ∈ (lyr tr s (some x) k).map Prod.fst) ↔ v ∈ bh tr s x := by
  rw [mem_bh]
  constructor
  · rintro ⟨k, h⟩
    obtain ⟨y, hy, rfl⟩ := List.mem_map.mp h
    obtain ⟨l, w, _, hb⟩ := lyr_swB T k y hy
    refine ⟨sw_le T w hs _ w.mem, ?_⟩
    rw [pl_eq T w]
    exact hb x rfl
  · rintro ⟨hv, hb⟩
    obtain ⟨l, w, _⟩ := sw_ex T hs hv
    rw [pl_eq T w] at hb
    have pos : 1 ≤ l.length := by
      have := w.hd
      cases l with
      | nil => cases this
      | cons => simp
    obtain ⟨e, he⟩ := sw_lyrB T (l.length - 1) s (some x) v l w (by omega) (fun z hz q => hb (by cases hz; exact q))
    exact ⟨_, List.mem_map.mpr ⟨_, he, rfl⟩⟩
theorem lyr_at (T : TreeL tr) {s x v k : Nat} (h : v ∈ (lyr tr s (some x) k).map Prod.fst) : (pl tr s v).length = k + 1 := by
  obtain ⟨y, hy, rfl⟩ := List.mem_map.mp h
  obtain ⟨l, w, e, _⟩ := lyr_swB T k y hy
  rw [pl_eq T w]
  exact e
/-- all layers in one row -/
theorem lyrs_nd (T : TreeL tr) (s x : Nat) : ∀ n : Nat, (((List.range n).map fun k => (lyr tr s (some x) k).map Prod.fst).flatten).Nodup
  | 0 => by simp
  | n + 1 => by
    rw [List.range_succ, List.map_append, List.flatten_append]
    refine List.nodup_append.mpr ⟨lyrs_nd T s x n, ?_, ?_⟩
    · simpa using lyr_nd T n
    · intro a ha b hb e
      subst e
      simp only [List.map_cons, List.map_nil, List.flatten_cons, List.flatten_nil, List.append_nil] at hb
      obtain ⟨L, hL, hm⟩ := List.mem_flatten.mp ha
      obtain ⟨k, hk, rfl⟩ := List.mem_map.mp hL
      have e1 := lyr_at T hm
      have e2 := lyr_at T hb
      rw [List.mem_range] at hk
      omega
theorem lyrs_perm (T : TreeL tr) {s x : Nat} (hs : s ≤ tr.length) : (((List.range (ht tr s (some x))).map fun k => (lyr tr s (some x) k).map Prod.fst).flatten).Perm (bh tr s x) := by
  refine (List.perm_ext_iff_of_nodup (lyrs_nd T s x _) (bh_nd s x)).mpr fun v => ?_
  rw [← mem_lyrs T hs]
  constructor
  · intro h
    obtain ⟨L, hL, hm⟩ := List.mem_flatten.mp h
    obtain ⟨k, hk, rfl⟩ := List.mem_map.mp hL
    exact ⟨k, hm⟩
  · rintro ⟨k, hk⟩
    refine List.mem_flatten.mpr ⟨_, List.mem_map.mpr ⟨k, ?_, rfl⟩, hk⟩
    rw [List.mem_range]
    exact ht_lt T hs (fun z => by rw [z] at hk; cases hk)
end
end TR

namespace TR
/-! The search behind a station: what one step adds, and that it ends with all. -/
section
variable {tr : List E2}
theorem sw_pos {a b : Nat} {l : List Nat} (w : SW tr a b l) : 1 ≤ l.length := by
  have := w.hd
  cases l with
  | nil => cases this
  | cons => simp
theorem bh_self (T : TreeL tr) {s x : Nat} (hs : s ≤ tr.length) : s ∈ bh tr s x := by
  rw [mem_bh, pl_eq T (SW.one s)]
  exact ⟨hs, fun q => by cases q⟩
theorem bh_step (T : TreeL tr) {s x v w : Nat} (hs : s ≤ tr.length) (hv : v ∈ bh tr s x) (ad : Adj tr v w) (h : v ≠ s ∨ w ≠ x) : w ∈ bh tr s x := by
  obtain ⟨vl, hv⟩ := mem_bh.mp hv
  obtain ⟨p, sp, _⟩ := sw_ex T hs vl
  rw [pl_eq T sp] at hv
  have wl := (T.adj_le ad).2
  rw [mem_bh]
  refine ⟨wl, ?_⟩
  by_cases hw : w ∈ p
  · obtain ⟨l, r, e⟩ := List.append_of_mem hw
    have sw2 : SW tr s w (l ++ [w]) := SW.pre (by rw [e] at sp; exact sp)
    rw [pl_eq T sw2]
    intro q
    cases l with
    | nil => cases q
    | cons a l =>
      refine hv ?_
      rw [e]
      cases l with
      | nil => exact q
      | cons b l => exact q
  · have sw2 : SW tr s w (p ++ [w]) := sp.snoc ad hw
    rw [pl_eq T sw2]
    have pp := sw_pos sp
    by_cases two : 2 ≤ p.length
    · rw [List.getElem?_append_left (by omega)]
      exact hv
    · have e : p.length = 1 := by omega
      obtain ⟨y, rfl⟩ := List.length_eq_one_iff.mp e
      have e1 : y = s := Option.some.inj sp.hd
      have e2 : y = v := Option.some.inj sp.lt
      intro q
      have q : w = x := Option.some.inj q
      rcases h with h | h
      · exact h (by rw [← e2, e1])
      · exact h q
theorem bh_all (T : TreeL tr) {s x : Nat} (hs : s ≤ tr.length) {F : List Nat} (h0 : s ∈ F) (hc : ∀ v, v ∈ F → ∀ w, Adj tr v w → (v ≠ s ∨ w ≠ x) → w ∈ F) : ∀ (n v : Nat) (p : List Nat), SW tr s v p → p.length ≤ n → p[1]? ≠ some x → v ∈ F
  | 0, v, p, sp, hl, _ => absurd (sw_pos sp) (by omega)
  | n + 1, v, p, sp, hl, hx => by
    obtain ⟨p', rfl⟩ : ∃ p', p = p' ++ [v] := List.getLast?_eq_some_iff.mp sp.lt
    by_cases c : p' = []
    · subst c
      have e1 : v = s := Option.some.inj sp.hd
      rw [e1]
      exact h0
    · obtain ⟨u, su, ad, hn⟩ := SW.cut sp c
      rw [List.length_append, List.length_singleton] at hl
      have hx2 : p'[1]? ≠ some x := fun q => by
        have lt := (List.getElem?_eq_some_iff.mp q).1
        refine hx ?_
        rw [List.getElem?_append_left lt]
        exact q
      have hu := bh_all T hs h0 hc n u p' su (by omega) hx2
      refine hc u hu v ad ?_
      by_cases e : u = s
      · refine .inr fun e2 => ?_
        subst e
        have e5 := SW.uniq T su (SW.one u)
        subst e5
        exact hx (by rw [← e2]; rfl)
      · exact .inl e
theorem bh_perm (T : TreeL tr) {s x : Nat} (hs : s ≤ tr.length) {F : List Nat} (nd : F.Nodup) (h0 : s ∈ F) (hF : ∀ v ∈ F, v ∈ bh tr s x) (hc : ∀ v, v ∈ F → ∀ w, Adj tr v w → (v ≠ s ∨ w ≠ x) → w ∈ F) : F.Perm (bh tr s x) := by
  refine (List.perm_ext_iff_of_nodup nd (bh_nd s x)).mpr fun v => ⟨hF v, fun h => ?_⟩
  obtain ⟨vl, hv⟩ := mem_bh.mp h
  obtain ⟨p, sp, _⟩ := sw_ex T hs vl
  rw [pl_eq T sp] at hv
  exact bh_all T hs h0 hc p.length v p sp (Nat.le_refl _) hv
theorem bh_len (s x : Nat) : (bh tr s x).length ≤ tr.length + 1 := by
  have := List.length_filter_le (fun v => decide ((pl tr s v)[1]? ≠ some x)) (List.range (tr.length + 1))
  rw [List.length_range] at this
  exact this
/-- the depth behind a station is the longest way there -/
theorem dph_bh (T : TreeL tr) {s x : Nat} (hs : s ≤ tr.length) (ad : Adj tr s x) : (∀ v ∈ bh tr s x, (pl tr s v).length ≤ dph tr s x + 1) ∧ ∃ v ∈ bh tr s x, (pl tr s v).length = dph tr s x + 1 := by
  have pos := ht_pos T (b := some x) hs
  have e : dph tr s x + 1 = ht tr s (some x) := by unfold dph; omega
  obtain ⟨h1, h2⟩ := ht_of T (b := some x) hs
  constructor
  · intro v hv
    obtain ⟨k, hk⟩ := (mem_lyrs T hs).mpr hv
    have := lyr_at T hk
    have lt := ht_lt T hs (fun z => by rw [z] at hk; cases hk)
    omega
  · have hne := h2 (ht tr s (some x) - 1) (by omega)
    obtain ⟨y, hy⟩ := List.exists_mem_of_ne_nil _ hne
    have hm : y.1 ∈ (lyr tr s (some x) (ht tr s (some x) - 1)).map Prod.fst := List.mem_map.mpr ⟨y, hy, rfl⟩
    refine ⟨y.1, (mem_lyrs T hs).mp ⟨_, hm⟩, ?_⟩
    rw [lyr_at T hm]
    omega
end
end TR

namespace TR
variable {tr : List E2}
/-- the first station on the way from s to p -/
noncomputable def stp (tr : List E2) (s p : Nat) : Nat := (pl tr s p).getD 1 0
theorem way_two {s p : Nat} {l : List Nat} (w : SW tr s p l) (ne : s ≠ p) : ∃ c r, l = s :: c :: r := by
  have h := w.hd
  have t := w.lt
  match l, h, t with
  | [a], h, t => exact absurd ((Option.some.inj h).symm.trans (Option.some.inj t)) ne
  | a :: c :: r, h, t => exact ⟨c, r, by rw [show a = s from Option.some.inj h]⟩
theorem stp_spec (T : TreeL tr) {s p : Nat} (hs : s ≤ tr.length) (hp : p ≤ tr.length) (ne : s ≠ p) : ∃ r, SW tr s p (s :: stp tr s p :: r) ∧ Adj tr s (stp tr s p) ∧ SW tr (stp tr s p) p (stp tr s p :: r) ∧ stp tr s p ≤ tr.length ∧ dst tr (stp tr s p) p + 1 = dst tr s p := by
  obtain ⟨l, w, _⟩ := sw_ex T hs hp
  obtain ⟨c, r, rfl⟩ := way_two w ne
  have e : stp tr s p = c := by
    unfold stp
    rw [pl_eq T w]
    rfl
  rw [e]
  have w2 : SW tr c p (c :: r) := SW.part (l := [s]) w
  have d1 := dst_eq T w
  have d2 := dst_eq T w2
  have ad : Adj tr s c := w.wk.1
  refine ⟨r, w, ad, w2, (T.adj_le ad).2, ?_⟩
  simp only [List.length_cons] at d1 d2
  omega
theorem bh_iff (T : TreeL tr) {f b x : Nat} (hf : f ≤ tr.length) (hb : b ≤ tr.length) (hx : x ≤ tr.length) (ne : f ≠ b) : x ∈ bh tr f (stp tr f b) ↔ dst tr b x = dst tr f b + dst tr f x := by
  obtain ⟨r, w1, ad, w2, cl, dc⟩ := stp_spec T hf hb ne
  rw [mem_bh]
  by_cases c : f = x
  · subst c
    rw [pl_eq T (SW.one f), dst_self T, dst_cm T hb hf]
    simp [hf]
  obtain ⟨r2, v1, ad2, v2, cl2, dc2⟩ := stp_spec T hf hx c
  rw [pl_eq T v1]
  constructor
  · rintro ⟨_, h⟩
    have hn : stp tr f b ≠ stp tr f x := fun z => h (by rw [z]; rfl)
    have j := sw_join T w1 v1 (x := stp tr f b) (y := stp tr f x) rfl rfl hn
    have d := dst_eq T j
    have d1 := dst_eq T w1
    have d2 := dst_eq T v1
    rw [List.length_append, List.length_reverse, List.length_tail] at d
    simp only [List.length_cons] at d d1 d2
    omega
  · intro h
    refine ⟨hx, fun z => ?_⟩
    have z2 : stp tr f x = stp tr f b := Option.some.inj z
    rw [z2] at dc2
    have t := tri_d T hb hx cl
    omega
/-- the depth behind f, seen from b, is the farthest station there -/
theorem dph_far (T : TreeL tr) {f b : Nat} (hf : f ≤ tr.length) (hb : b ≤ tr.length) (ne : f ≠ b) : (∀ x, x ≤ tr.length → dst tr b x = dst tr f b + dst tr f x → dst tr f x ≤ dph tr f (stp tr f b)) ∧ ∃ x, x ≤ tr.length ∧ dst tr b x = dst tr f b + dst tr f x ∧ dst tr f x = dph tr f (stp tr f b) := by
  obtain ⟨r, w1, ad, w2, cl, dc⟩ := stp_spec T hf hb ne
  obtain ⟨h1, v, hv, h2⟩ := dph_bh T hf ad
  have len : ∀ x, x ≤ tr.length → (pl tr f x).length = dst tr f x + 1 := fun x hx => by
    obtain ⟨l, w, _⟩ := sw_ex T hf hx
    rw [pl_eq T w, dst_eq T w]
  constructor
  · intro x hx h
    have := h1 x ((bh_iff T hf hb hx ne).mpr h)
    have := len x hx
    omega
  · have vl := (mem_bh.mp hv).1
    refine ⟨v, vl, (bh_iff T hf hb vl ne).mp hv, ?_⟩
    have := len v vl
    omega
/-- the depth behind a station, by those behind its other neighbours -/
theorem dph_rec (T : TreeL tr) {s near : Nat} (ad : Adj tr s near) : (∀ w, Adj tr s w → w ≠ near → dph tr w s + 1 ≤ dph tr s near) ∧ ((dph tr s near = 0 ∧ ∀ w, Adj tr s w → w = near) ∨ ∃ w, Adj tr s w ∧ w ≠ near ∧ dph tr s near = dph tr w s + 1) := by
  have hs := (T.adj_le ad).1
  obtain ⟨h1, v, hv, h2⟩ := dph_bh T hs ad
  have up : ∀ w, Adj tr s w → w ≠ near → dph tr w s + 1 ≤ dph tr s near := fun w aw hw => by
    have hwl := (T.adj_le aw).2
    obtain ⟨_, u, hu, h3⟩ := dph_bh T hwl aw.sym
    obtain ⟨ul, un⟩ := mem_bh.mp hu
    obtain ⟨p, wp, _⟩ := sw_ex T hwl ul
    rw [pl_eq T wp] at un h3
    have hn : s ∉ p := fun m => by
      have sw2 : s ≠ w := T.adj_ne aw
      obtain ⟨i, hi⟩ := List.mem_iff_getElem?.mp m
      have i0 : i ≠ 0 := fun z => by
        rw [z] at hi
        have := sw_at0 wp
        rw [this] at hi
        exact sw2 (Option.some.inj hi).symm
      have t := wp.take hi
      have two : SW tr w s [w, s] := ⟨⟨aw.sym, trivial⟩, List.nodup_cons.mpr ⟨fun m => sw2 (List.mem_singleton.mp m).symm, by simp⟩, rfl, rfl⟩
      have e := SW.uniq T t two
      have : (p.take (i + 1))[1]? = some s := by rw [e]; rfl
      rw [List.getElem?_take] at this
      by_cases c : 1 < i + 1
      · rw [if_pos c] at this
        exact un this
      · omega
    have ws : SW tr s u (s :: p) := by
      have hp := wp.hd
      obtain ⟨y, q, rfl⟩ : ∃ y q, p = y :: q := by
        cases p with
        | nil => cases hp
        | cons y q => exact ⟨y, q, rfl⟩
      have ey : y = w := Option.some.inj hp
      subst ey
      exact ⟨⟨aw, wp.wk⟩, List.nodup_cons.mpr ⟨hn, wp.nd⟩, rfl, by rw [List.getLast?_cons_cons]; exact wp.lt⟩
    have hm : u ∈ bh tr s near := mem_bh.mpr ⟨ul, by
      rw [pl_eq T ws]
      intro z
      have z2 : p[0]? = some near := z
      rw [sw_at0 wp] at z2
      exact hw (Option.some.inj z2)⟩
    have := h1 u hm
    rw [pl_eq T ws, List.length_cons, h3] at this
    omega
  refine ⟨up, ?_⟩
  by_cases c : dph tr s near = 0
  · refine .inl ⟨c, fun w aw => Classical.byContradiction fun z => ?_⟩
    have := up w aw z
    omega
  · right
    obtain ⟨vl, vn⟩ := mem_bh.mp hv
    have ne : s ≠ v := fun z => by
      subst z
      rw [pl_eq T (SW.one s)] at h2
      simp at h2
      omega
    obtain ⟨r, w1, aw, w2, cl, dc⟩ := stp_spec T hs vl ne
    rw [pl_eq T w1] at h2 vn
    have hn : stp tr s v ≠ near := fun z => vn (by rw [z]; rfl)
    refine ⟨stp tr s v, aw, hn, ?_⟩
    have u2 := up _ aw hn
    obtain ⟨k1, _⟩ := dph_bh T cl aw.sym
    have hm : v ∈ bh tr (stp tr s v) s := mem_bh.mpr ⟨vl, by
      rw [pl_eq T w2]
      intro z
      have z2 : r[0]? = some s := z
      exact (List.nodup_cons.mp w1.nd).1 (List.mem_cons_of_mem _ (List.mem_of_getElem? z2))⟩
    have := k1 v hm
    rw [pl_eq T w2] at this
    simp only [List.length_cons] at this h2
    omega
end TR

namespace TR
variable {tr : List E2}
/-- the way from s to what lies behind its neighbour w -/
theorem bh_cons (T : TreeL tr) {s w u : Nat} (aw : Adj tr s w) (hu : u ∈ bh tr w s) : SW tr s u (s :: pl tr w u) ∧ stp tr s u = w ∧ dst tr s u = dst tr w u + 1 := by
  have hwl := (T.adj_le aw).2
  obtain ⟨ul, un⟩ := mem_bh.mp hu
  obtain ⟨p, wp, _⟩ := sw_ex T hwl ul
  rw [pl_eq T wp] at un ⊢
  have sw2 : s ≠ w := T.adj_ne aw
  have hn : s ∉ p := fun m => by
    obtain ⟨i, hi⟩ := List.mem_iff_getElem?.mp m
    have i0 : i ≠ 0 := fun z => by
      rw [z, sw_at0 wp] at hi
      exact sw2 (Option.some.inj hi).symm
    have two : SW tr w s [w, s] := ⟨⟨aw.sym, trivial⟩, List.nodup_cons.mpr ⟨fun m => sw2 (List.mem_singleton.mp m).symm, by simp⟩, rfl, rfl⟩
    have e := SW.uniq T (wp.take hi) two
    have : (p.take (i + 1))[1]? = some s := by rw [e]; rfl
    rw [List.getElem?_take] at this
    by_cases c : 1 < i + 1
    · rw [if_pos c] at this
      exact un this
    · omega
  obtain ⟨y, q, rfl⟩ : ∃ y q, p = y :: q := by
    cases p with
    | nil => cases wp.hd
    | cons y q => exact ⟨y, q, rfl⟩
  have ey : y = w := Option.some.inj wp.hd
  subst ey
  have ws : SW tr s u (s :: y :: q) := ⟨⟨aw, wp.wk⟩, List.nodup_cons.mpr ⟨hn, wp.nd⟩, rfl, by rw [List.getLast?_cons_cons]; exact wp.lt⟩
  refine ⟨ws, ?_, ?_⟩
  · unfold stp
    rw [pl_eq T ws]
    rfl
  · have d1 := dst_eq T ws
    have d2 := dst_eq T wp
    simp only [List.length_cons] at d1 d2
    omega
theorem lay_mem (T : TreeL tr) {s w x k : Nat} (aw : Adj tr s w) : x ∈ (lyr tr w (some s) k).map Prod.fst ↔ x ≤ tr.length ∧ s ≠ x ∧ stp tr s x = w ∧ dst tr s x = k + 1 := by
  have hs := (T.adj_le aw).1
  have hw := (T.adj_le aw).2
  constructor
  · intro h
    have hb := (mem_lyrs T hw).mp ⟨k, h⟩
    obtain ⟨ws, e1, e2⟩ := bh_cons T aw hb
    have xl := (mem_bh.mp hb).1
    have la := lyr_at T h
    obtain ⟨p, wp, _⟩ := sw_ex T hw xl
    have dp := dst_eq T wp
    rw [pl_eq T wp] at la
    refine ⟨xl, fun z => ?_, e1, by omega⟩
    rw [← z, dst_self T] at e2
    omega
  · rintro ⟨xl, ne, e1, e2⟩
    obtain ⟨r, w1, ad, w2, cl, dc⟩ := stp_spec T hs xl ne
    rw [e1] at w1 w2 dc
    have hb : x ∈ bh tr w s := mem_bh.mpr ⟨xl, by
      rw [pl_eq T w2]
      intro z
      have z2 : r[0]? = some s := z
      exact (List.nodup_cons.mp w1.nd).1 (List.mem_cons_of_mem _ (List.mem_of_getElem? z2))⟩
    obtain ⟨k2, hk⟩ := (mem_lyrs T hw).mpr hb
    have la := lyr_at T hk
    rw [pl_eq T w2] at la
    have d2 := dst_eq T w2
    have : k2 = k := by omega
    rw [← this]
    exact hk
theorem lyr_none {s : Nat} {b : Option Nat} {k : Nat} (h : lyr tr s b k = []) : ∀ j, lyr tr s b (k + j) = []
  | 0 => h
  | j + 1 => by
    show (lyr tr s b (k + j)).flatMap (nxt tr) = []
    rw [lyr_none h j]
    rfl
/-- pairs of different stations -/
def okE (tr : List E2) (e : E2) : Prop := e.1 ≤ tr.length ∧ e.2 ≤ tr.length ∧ e.1 ≠ e.2
def M0 (tr : List E2) (i : Nat) (e : E2) : Prop := okE tr e ∧ e.1 < i
def M1 (tr : List E2) (i : Nat) (D : List Nat) (e : E2) : Prop := M0 tr i e ∨ (okE tr e ∧ e.1 = i ∧ stp tr i e.2 ∈ D)
def M2 (tr : List E2) (i : Nat) (D : List Nat) (w k : Nat) (e : E2) : Prop := M1 tr i D e ∨ (okE tr e ∧ e.1 = i ∧ stp tr i e.2 = w ∧ dst tr i e.2 ≤ k)
def M3 (tr : List E2) (i : Nat) (D : List Nat) (w k : Nat) (F : List Nat) (e : E2) : Prop := M2 tr i D w k e ∨ (e.1 = i ∧ e.2 ∈ F)
theorem m1_nil {i : Nat} {e : E2} : M1 tr i [] e ↔ M0 tr i e := ⟨fun h => h.elim id fun h => (by cases h.2.2), .inl⟩
theorem m2_zero (T : TreeL tr) {i w : Nat} {D : List Nat} {e : E2} : M2 tr i D w 0 e ↔ M1 tr i D e := by
  refine ⟨fun h => h.elim id fun ⟨h1, h2, _, h4⟩ => ?_, .inl⟩
  have z := dst_zero T (by rw [← h2]; exact h1.1) h1.2.1 (by omega : dst tr i e.2 = 0)
  exact absurd (z.trans h2.symm).symm h1.2.2
theorem m3_nil {i w k : Nat} {D : List Nat} {e : E2} : M3 tr i D w k [] e ↔ M2 tr i D w k e := ⟨fun h => h.elim id fun h => (by cases h.2), .inl⟩
theorem m3_snoc {i w k x : Nat} {D F : List Nat} {e : E2} : M3 tr i D w k (F ++ [x]) e ↔ M3 tr i D w k F e ∨ e = (i, x) := by
  unfold M3
  rw [List.mem_append, List.mem_singleton]
  constructor
  · rintro (h | ⟨h1, h2 | h2⟩)
    · exact .inl (.inl h)
    · exact .inl (.inr ⟨h1, h2⟩)
    · exact .inr (Prod.ext h1 h2)
  · rintro ((h | ⟨h1, h2⟩) | rfl)
    · exact .inl h
    · exact .inr ⟨h1, .inl h2⟩
    · exact .inr ⟨rfl, .inr rfl⟩
theorem m3_all (T : TreeL tr) {i w k : Nat} {D : List Nat} (aw : Adj tr i w) {e : E2} : M3 tr i D w k ((lyr tr w (some i) k).map Prod.fst) e ↔ M2 tr i D w (k + 1) e := by
  have hi := (T.adj_le aw).1
  unfold M3 M2
  rw [lay_mem T aw]
  constructor
  · rintro ((h | ⟨h1, h2, h3, h4⟩) | ⟨h1, h2, h3, h4, h5⟩)
    · exact .inl h
    · exact .inr ⟨h1, h2, h3, by omega⟩
    · exact .inr ⟨⟨by omega, h2, by rw [h1]; exact h3⟩, h1, h4, by omega⟩
  · rintro (h | ⟨h1, h2, h3, h4⟩)
    · exact .inl (.inl h)
    · by_cases c : dst tr i e.2 ≤ k
      · exact .inl (.inr ⟨h1, h2, h3, c⟩)
      · exact .inr ⟨h2, h1.2.1, by rw [← h2]; exact h1.2.2, h3, by omega⟩
theorem m2_end (T : TreeL tr) {i w k : Nat} {D : List Nat} (aw : Adj tr i w) (hk : lyr tr w (some i) k = []) {e : E2} : M2 tr i D w k e ↔ M1 tr i (D ++ [w]) e := by
  unfold M2 M1
  constructor
  · rintro ((h | ⟨h1, h2, h3⟩) | ⟨h1, h2, h3, _⟩)
    · exact .inl h
    · exact .inr ⟨h1, h2, List.mem_append_left _ h3⟩
    · exact .inr ⟨h1, h2, by rw [h3]; simp⟩
  · rintro (h | ⟨h1, h2, h3⟩)
    · exact .inl (.inl h)
    · rcases List.mem_append.mp h3 with h3 | h3
      · exact .inl (.inr ⟨h1, h2, h3⟩)
      · have h3 := List.mem_singleton.mp h3
        refine .inr ⟨h1, h2, h3, Classical.byContradiction fun c => ?_⟩
        have ne : i ≠ e.2 := by rw [← h2]; exact h1.2.2
        have hm := (lay_mem T aw (x := e.2) (k := k + (dst tr i e.2 - 1 - k))).mpr ⟨h1.2.1, ne, h3, by omega⟩
        rw [lyr_none hk] at hm
        cases hm
theorem m1_all (T : TreeL tr) {i : Nat} (hi : i ≤ tr.length) {e : E2} : M1 tr i (nb tr i) e ↔ M0 tr (i + 1) e := by
  unfold M1 M0
  constructor
  · rintro (⟨h1, h2⟩ | ⟨h1, h2, _⟩)
    · exact ⟨h1, by omega⟩
    · exact ⟨h1, by omega⟩
  · rintro ⟨h1, h2⟩
    by_cases c : e.1 < i
    · exact .inl ⟨h1, c⟩
    · have e1 : e.1 = i := by omega
      have ne : i ≠ e.2 := by rw [← e1]; exact h1.2.2
      obtain ⟨_, _, ad, _⟩ := stp_spec T hi h1.2.1 ne
      exact .inr ⟨h1, e1, (mem_nb T.ne).mpr ad⟩
theorem m3_new (T : TreeL tr) {i w k j c x : Nat} (aw : Adj tr i w) (hw : (nb tr i)[j]? = some w) (hx : ((lyr tr w (some i) k).map Prod.fst)[c]? = some x) : ¬ M3 tr i ((nb tr i).take j) w k (((lyr tr w (some i) k).map Prod.fst).take c) (i, x) := by
  have nin : ∀ {α : Type} {l : List α} {n : Nat} {a : α}, l.Nodup → l[n]? = some a → a ∉ l.take n := fun {α l n a} nd ha hm => by
    obtain ⟨m, hm⟩ := List.mem_iff_getElem?.mp hm
    rw [List.getElem?_take] at hm
    split at hm
    · have h1 := List.getElem?_eq_some_iff.mp ha
      have h2 := List.getElem?_eq_some_iff.mp hm
      obtain ⟨l1, q1⟩ := h1
      obtain ⟨l2, q2⟩ := h2
      have := (List.getElem_inj nd).mp (q2.trans q1.symm)
      omega
    · cases hm
  obtain ⟨_, _, e1, e2⟩ := (lay_mem T aw).mp (List.mem_of_getElem? hx)
  rintro (((⟨_, h⟩ | ⟨_, _, h⟩) | ⟨_, _, _, h⟩) | ⟨_, h⟩)
  · exact Nat.lt_irrefl _ h
  · have h : stp tr i x ∈ (nb tr i).take j := h
    rw [e1] at h
    exact nin (nb_nd T i) hw h
  · have h : dst tr i x ≤ k := h
    omega
  · exact nin (lyr_nd T k) hx h
end TR

namespace TR
open PySem PySem.Spec PyProof.Rows L2 L2.TT StX ClX
variable {tr : List E2}
/-- the depth of a station's branch number r (from 0), the deepest first, or 0 -/
def RkS (tr : List E2) (r s M : Nat) : Prop := ∀ L, 1 ≤ L → (L ≤ M ↔ r + 1 ≤ (dpN tr L s).length)
/-- the greatest of these over the stations below n -/
def RkU (tr : List E2) (r n M : Nat) : Prop := ∀ L, 1 ≤ L → (L ≤ M ↔ ∃ s, s < n ∧ r + 1 ≤ (dpN tr L s).length)
def RkM (tr : List E2) (r M : Nat) : Prop := RkU tr r (tr.length + 1) M
theorem RkM.uniq {r M M' : Nat} (h : RkM tr r M) (h' : RkM tr r M') : M = M' := by
  by_cases c : M ≤ M'
  · by_cases d : M' ≤ M
    · omega
    · have := (h M' (by omega)).mpr ((h' M' (by omega)).mp (Nat.le_refl _))
      omega
  · have := (h' M (by omega)).mpr ((h M (by omega)).mp (Nat.le_refl _))
    omega
theorem RkM.le {r r' M M' : Nat} (h : RkM tr r M) (h' : RkM tr r' M') (le : r ≤ r') : M' ≤ M := by
  by_cases c : M' = 0
  · omega
  · obtain ⟨s, h1, h2⟩ := (h' M' (by omega)).mp (Nat.le_refl _)
    exact (h M' (by omega)).mpr ⟨s, h1, by omega⟩
theorem rkU_zero {r : Nat} : RkU tr r 0 0 := fun L hL => ⟨fun h => (by omega), fun ⟨s, h, _⟩ => (by omega)⟩
theorem RkU.up {r n M m M' : Nat} (h : RkU tr r n M) (hs : RkS tr r n m) (e : M' = max M m) : RkU tr r (n + 1) M' := fun L hL => by
  subst e
  have h1 := h L hL
  have h2 := hs L hL
  constructor
  · intro q
    by_cases c : L ≤ M
    · obtain ⟨s, a, b⟩ := h1.mp c
      exact ⟨s, by omega, b⟩
    · exact ⟨n, by omega, h2.mp (by omega)⟩
  · rintro ⟨s, a, b⟩
    by_cases c : s = n
    · subst c
      have := h2.mpr b
      omega
    · have := h1.mpr ⟨s, by omega, b⟩
      omega
theorem desc_rank {xs : List Int} (L : Int) : xs.Pairwise (fun a b => b ≤ a) → ∀ r, r + 1 ≤ (xs.filter (fun x => decide (L ≤ x))).length ↔ ∃ x, xs[r]? = some x ∧ L ≤ x := by
  induction xs with
  | nil => intro _ r; simp
  | cons y ys ih =>
    intro h r
    obtain ⟨h1, h2⟩ := List.pairwise_cons.mp h
    by_cases c : L ≤ y
    · rw [List.filter_cons_of_pos (p := fun x => decide (L ≤ x)) (decide_eq_true c), List.length_cons]
      cases r with
      | zero => simp [c]
      | succ r =>
        rw [List.getElem?_cons_succ, ← ih h2 r]
        omega
    · rw [List.filter_cons_of_neg (p := fun x => decide (L ≤ x)) (by simpa using c)]
      have e : ys.filter (fun x => decide (L ≤ x)) = [] := List.filter_eq_nil_iff.mpr fun a ha => by
        have := h1 a ha
        simp
        omega
      rw [e]
      constructor
      · intro z
        simp at z
      · rintro ⟨x, hx, hL⟩
        have hm := List.mem_of_getElem? hx
        rcases List.mem_cons.mp hm with rfl | hm
        · exact absurd hL c
        · have := h1 x hm
          omega
theorem rank_at {s : Nat} {xs : List Nat} (hx : xs.Perm (nb tr s)) {ys : List Int} (hy : ys.Perm (xs.map fun w => ((dph tr w s + 1 : Nat) : Int))) (hd : ys.Pairwise (fun a b => b ≤ a)) (L r : Nat) : r + 1 ≤ (dpN tr L s).length ↔ ∃ y, ys[r]? = some y ∧ (L : Int) ≤ y := by
  rw [← desc_rank (L : Int) hd r]
  have e : (ys.filter (fun x => decide ((L : Int) ≤ x))).length = (dpN tr L s).length := by
    rw [(hy.filter _).length_eq, List.filter_map, List.length_map]
    have e2 : xs.filter ((fun x => decide ((L : Int) ≤ x)) ∘ fun w => ((dph tr w s + 1 : Nat) : Int)) = xs.filter fun w => decide (L ≤ dph tr w s + 1) := List.filter_congr fun w _ => by
      show decide ((L : Int) ≤ ((dph tr w s + 1 : Nat) : Int)) = decide _
      rw [decide_eq_decide]
      omega
    rw [e2, (hx.filter _).length_eq]
    rfl
  rw [e]
theorem rkS_some {s : Nat} {xs : List Nat} (hx : xs.Perm (nb tr s)) {ys : List Int} (hy : ys.Perm (xs.map fun w => ((dph tr w s + 1 : Nat) : Int))) (hd : ys.Pairwise (fun a b => b ≤ a)) {r : Nat} {y : Int} (h : ys[r]? = some y) : ∃ M : Nat, y = (M : Int) ∧ RkS tr r s M := by
  obtain ⟨w, hw, e⟩ := List.mem_map.mp (hy.mem_iff.mp (List.mem_of_getElem? h))
  refine ⟨dph tr w s + 1, e.symm, fun L hL => ?_⟩
  rw [rank_at hx hy hd]
  constructor
  · intro q
    exact ⟨y, h, by omega⟩
  · rintro ⟨y', h', q⟩
    rw [h] at h'
    cases h'
    omega
theorem rkS_none {s : Nat} {xs : List Nat} (hx : xs.Perm (nb tr s)) {ys : List Int} (hy : ys.Perm (xs.map fun w => ((dph tr w s + 1 : Nat) : Int))) (hd : ys.Pairwise (fun a b => b ≤ a)) {r : Nat} (h : ys.length ≤ r) : RkS tr r s 0 := fun L hL => by
  rw [rank_at hx hy hd]
  constructor
  · intro q
    omega
  · rintro ⟨y', h', q⟩
    have := (List.getElem?_eq_some_iff.mp h').1
    omega
theorem lng_bdN (T : TreeL tr) (h : 2 ≤ (lngP tr).length) : Bd tr (lngP tr) := by
  obtain ⟨sw, le, mx⟩ := lng_spec T
  have ne : lstE tr 0 ≠ lstE tr (lstE tr 0) := fun z => by
    rw [← z] at sw
    have := SW.uniq T sw (SW.one _)
    rw [this] at h
    exact absurd h (by simp)
  exact (sw_bd T sw le ne).1
/-- the second depths: half of the longest way -/
theorem rkM_two (T : TreeL tr) : RkM tr 1 (((lngP tr).length - 1) / 2) := fun L hL => by
  obtain ⟨sw, le, mx⟩ := lng_spec T
  constructor
  · intro h
    obtain ⟨s, h1, h2⟩ := dv_some T (lng_bdN T (by omega)) (show 2 * L < (lngP tr).length by omega) hL
    exact ⟨s, by omega, h2⟩
  · rintro ⟨s, h1, h2⟩
    by_cases c : L ≤ ((lngP tr).length - 1) / 2
    · exact c
    · have := dv_none T mx (show (lngP tr).length ≤ 2 * L by omega) (s := s)
      omega
theorem lng_gap (T : TreeL tr) {M : Nat} (h1 : ∀ u v, u ≤ tr.length → v ≤ tr.length → dst tr u v ≤ M) (h2 : ∃ u v, u ≤ tr.length ∧ v ≤ tr.length ∧ M = dst tr u v) : M = (lngP tr).length - 1 := by
  obtain ⟨sw, le, mx⟩ := lng_spec T
  obtain ⟨u, v, hu, hv, e⟩ := h2
  obtain ⟨l, w, _⟩ := sw_ex T hu hv
  have a1 := dst_eq T w
  have a2 := mx _ _ _ hu w
  have le2 : lstE tr (lstE tr 0) ≤ tr.length := sw_le T sw le _ (List.mem_of_getLast? sw.lt)
  have a3 := dst_eq T sw
  have a4 := h1 _ _ le le2
  have a5 := dst_eq T w
  omega
/-- a station's branch that is one track away -/
theorem stp_one (T : TreeL tr) {s w : Nat} (a : Adj tr s w) (hw : w ≤ tr.length) : stp tr s w = w := (bh_cons T a (bh_self T hw)).2.1
end TR

namespace TR
open PySem PySem.Spec PyProof.Rows L2 L2.TT StX ClX
def spThd (C : Addr) : Sp := fun vs H Q _ => ∃ (r : Addr) (tr : List E2) (s : Nat), vs = [.ref r, iv s] ∧ RailAt C H r tr ∧ s ≤ tr.length ∧ ∀ (M : Nat) (H' : Hp), Same H H' → RkS tr 2 s M → Q (iv M) H'
section
variable {P : Program} {w : World} {K : PySem.W.Frag} {mg : Str → Option Value} {base : Heap}
abbrev N_sc_thd : List Str := ["railway", "station", "depths", "_", "depth"]
theorem sc_thd : FnScope N_sc_thd ["railway", "station"] (defScope s_third_depth) := ⟨rfl, rfl, rfl, by decide +kernel, rfl, by decide +kernel, by decide +kernel⟩
theorem ok_thd {f fB C : Addr} {fd fdB : FuncData} (F : Fun K "_third_depth" "_third_depth" s_third_depth f fd) (N : Nm mg) (UB : Use P w K mg base CX0 9 "branch_depths" fB fdB ["railway", "station"] (spBrd C)) :
    FnOk P w K mg base CX0 10 f fd ["railway", "station"] (spThd C) := by
  refine F.ok sc_thd (fun vs H Q E h => ?_) (fun cdv A outer s H vs Q E hr h => ?_)
  · obtain ⟨r, tr, s, rfl, _⟩ := h
    rfl
  · obtain ⟨r, tr, sn, rfl, R, hs, k⟩ := h
    refine ⟨_, (pss_cons (ps_set (i := 2) sc_thd.nd rfl (.inl rfl) (pe_callBK (cr_sortedRev (b := true)) (by rfl) N.sorted boot_sorted (pa_cons (pe_lc (own := [("_", 3), ("depth", 4)]) (g := (gTup K 2 (gCons (gName 3) (gCons (gName 4) gNil)))) (tt := tYes) rfl sc_thd.nd (pi_tup (pe_use UB hr (by rfl) (pa_cons (pv 0) (pa_cons (pv 1) pa_nil)))) (blkOk_by (N := N_sc_thd) (sc := defScope s_third_depth) (by decide +kernel)) (fun _ _ _ _ _ => pg_tupK (K := K) (n := 2) (t := (gCons (gName 3) (gCons (gName 4) gNil))) rfl rfl (pgs_cons (pg_name (i := 3) sc_thd.nd rfl (Or.inl rfl)) (pgs_cons (pg_name (i := 4) sc_thd.nd rfl (Or.inl rfl)) pgs_nil)) rfl) (fun _ _ _ _ _ => pts_nil) (fun _ _ _ _ _ => (pv 4))) pa_nil) (pk_cons pe_bl pk_nil)))
        (pss_one (ps_ret (pe_ifExp (pt_cmpR op_gt (pe_callB call_len_seq (by rfl) N.len boot_len (pa_cons (pv 2) pa_nil)) pe_int (nomark _)) (pe_ix ix_list (pv 2) pe_int (fun _ _ => rfl)) pe_int)))), ?_⟩
    have nbl := nb_len tr sn
    have few := R.few
    refine ⟨_, rfl, _, rfl, r, tr, sn, rfl, R, hs, fun q ps H1 s1 hq hP => ⟨q, rfl, ⟨_, SqT.of hq⟩, fun D nD => ?_⟩⟩
    have lps : ps.length = (nb tr sn).length := by rw [hP.1, List.length_map]
    refine lc_tup (K := K) (a := q) (xs := ps.map V.ref) (fun i H' => Same H1 H' ∧ H' D = some (.lst (((nb tr sn).take i).map fun w => iv (dph tr w sn + 1)))) ⟨same_upd nD _, upd_same⟩ (fun i H' _ a => SqT.of (a.1 _ _ hq)) ?_ ?_
    · rintro i v H' hv ⟨s2, hD⟩
      obtain ⟨p, hp, rfl⟩ := map_got hv
      have hi := (List.getElem?_eq_some_iff.mp hp).1
      obtain ⟨w, hw⟩ : ∃ w, (nb tr sn)[i]? = some w := ⟨_, List.getElem?_eq_getElem (by omega)⟩
      have hpH := hP.2 i p (w, dph tr w sn + 1) hp (by rw [List.getElem?_map, hw]; rfl)
      refine ⟨p, _, rfl, SqT.of (s2 _ _ hpH), rfl, _, _, rfl, _, _, rfl, rfl, rfl, _, rfl, _, hD, by rw [List.length_map, List.length_take, sizeLine_eq]; omega, same_old s2 nD _, ?_⟩
      rw [upd_same, take_snoc hw, List.map_append]
      rfl
    rintro H2 ⟨s2, hD⟩
    rw [show (nb tr sn).take (ps.map V.ref).length = nb tr sn from List.take_of_length_le (by rw [List.length_map, lps]; exact Nat.le_refl _)] at hD
    refine ⟨D, (nb tr sn).map fun w => ((dph tr w sn + 1 : Nat) : Int), rfl, rfl, SqL.of (by rw [hD, List.map_map]; rfl), fun ys p perm od np => ?_⟩
    have od : ys.Pairwise (fun a b => b ≤ a) := by
      have z : ys.Pairwise (· ≥ ·) := od
      exact z.imp fun h => h
    have s3 := (s1.trans s2).trans (same_upd np (.lst (ys.map V.int)))
    have hp := upd_same (H := H2) (a := p) (o := .lst (ys.map V.int))
    generalize upd H2 p (.lst (ys.map V.int)) = H3 at s3 hp ⊢
    refine ⟨_, rfl, _, _, rfl, .inl (SqL.of hp), _, _, rfl, rfl, _, rfl, ?_⟩
    rw [List.length_map]
    by_cases c : 2 < ys.length
    · rw [show decide ((2 : Int) < (ys.length : Int)) = true from decide_eq_true (by omega)]
      refine iteT ?_
      obtain ⟨y, hy⟩ : ∃ y, ys[2]? = some y := ⟨_, List.getElem?_eq_getElem c⟩
      obtain ⟨M, rfl, hM⟩ := rkS_some (List.Perm.refl _) perm od hy
      refine ⟨_, rfl, p, _, _, _, rfl, rfl, SqL.of hp, atN (n := 2) (by rw [List.getElem?_map, hy]; rfl), ?_⟩
      exact k M H3 s3 hM
    · rw [show decide ((2 : Int) < (ys.length : Int)) = false from decide_eq_false (by omega)]
      refine iteF ?_
      exact k 0 H3 s3 (rkS_none (List.Perm.refl _) perm od (by omega))
end
end TR


namespace TR
open PySem PySem.Spec PyProof.Rows L2 L2.TT StX ClX
def spChkLen : Sp := fun vs H Q _ => ∃ m : Nat, vs = [iv m] ∧ 1 ≤ m ∧ Q .non H
section
variable {P : Program} {w : World} {K : PySem.W.Frag} {mg : Str → Option Value} {base : Heap}
theorem sc_chklen : FnScope ["length"] ["length"] (defScope s_check_length) := ⟨rfl, rfl, rfl, by decide +kernel, rfl, by decide +kernel, by decide +kernel⟩
theorem ok_chklen {f fI : Addr} {fd fdI : FuncData} (F : Fun K "check_length" "check_length" s_check_length f fd) (U : Use P w K mg base CX0 1 "is_integer" fI fdI ["value"] (spIsInt K)) : FnOk P w K mg base CX0 2 f fd ["length"] spChkLen := by
  refine F.ok sc_chklen (fun vs H Q E h => ?_) (fun cdv A outer s H vs Q E hr h => ?_)
  · obtain ⟨m, rfl, _⟩ := h
    rfl
  · obtain ⟨m, rfl, hm, k⟩ := h
    refine ⟨_, pss_one (ps_if (PW.pt (pw_or (pt_not (pt_val (pe_use U hr rfl (pa_cons (pv 0) pa_nil)))) (pw_or1 (pt_cmpR op_lt (pv 0) pe_int (nomark _))))) pss_never pss_nil), ?_⟩
    refine ⟨_, rfl, _, rfl, .inl ⟨_, rfl⟩, _, rfl, ?_⟩
    refine iteF ?_
    refine ⟨_, rfl, _, _, rfl, rfl, _, rfl, ?_⟩
    rw [show decide ((m : Int) < 1) = false from decide_eq_false (by omega)]
    exact iteF k
end
end TR

namespace TR
open PySem PySem.Spec PyProof.Rows L2 L2.TT StX ClX
def spDpB (C : Addr) : Sp := fun vs H Q _ => ∃ (r : Addr) (tr : List E2) (s L : Nat), vs = [.ref r, iv s, iv L] ∧ RailAt C H r tr ∧ s ≤ tr.length ∧ 1 ≤ L ∧ ∀ (q : Addr) (H' : Hp), Same H H' → H q = none → H' q = some (.tup ((dpN tr L s).map iv)) → Q (.ref q) H'
section
variable {P : Program} {w : World} {K : PySem.W.Frag} {mg : Str → Option Value} {base : Heap}
abbrev N_sc_dpb : List Str := ["railway", "station", "length", "near", "depth"]
theorem sc_dpb : FnScope N_sc_dpb ["railway", "station", "length"] (defScope s_deep_branches) := ⟨rfl, rfl, rfl, by decide +kernel, rfl, by decide +kernel, by decide +kernel⟩
theorem ok_dpb {f f0 fL fB C : Addr} {fd fd0 fdL fdB : FuncData} (F : Fun K "deep_branches" "deep_branches" s_deep_branches f fd) (N : Nm mg) (U0 : Use P w K mg base CX0 4 "check_station" f0 fd0 ["railway", "station"] (spChkSt C)) (UL : Use P w K mg base CX0 2 "check_length" fL fdL ["length"] spChkLen) (UB : Use P w K mg base CX0 9 "branch_depths" fB fdB ["railway", "station"] (spBrd C)) :
    FnOk P w K mg base CX0 10 f fd ["railway", "station", "length"] (spDpB C) := by
  refine F.ok sc_dpb (fun vs H Q E h => ?_) (fun cdv A outer s H vs Q E hr h => ?_)
  · obtain ⟨r, tr, s, L, rfl, _⟩ := h
    rfl
  · obtain ⟨r, tr, sn, L, rfl, R, hs, hL, k⟩ := h
    refine ⟨_, (pss_cons (ps_expr (pe_use U0 (hr.mono (by decide)) (by rfl) (pa_cons (pv 0) (pa_cons (pv 1) pa_nil))))
        (pss_cons (ps_expr (pe_use UL (hr.mono (by decide)) (by rfl) (pa_cons (pv 2) pa_nil)))
        (pss_one (ps_ret (pe_callTy call_tuple_of (by rfl) N.tuple boot_tuple (pa_cons (pe_lc (own := [("near", 3), ("depth", 4)]) (g := (gTup K 2 (gCons (gName 3) (gCons (gName 4) gNil)))) rfl sc_dpb.nd (pi_tup (pe_use UB hr (by rfl) (pa_cons (pv 0) (pa_cons (pv 1) pa_nil)))) (blkOk_by (N := N_sc_dpb) (sc := defScope s_deep_branches) (by decide +kernel)) (fun _ _ _ _ _ => pg_tupK (K := K) (n := 2) (t := (gCons (gName 3) (gCons (gName 4) gNil))) rfl rfl (pgs_cons (pg_name (i := 3) sc_dpb.nd rfl (Or.inl rfl)) (pgs_cons (pg_name (i := 4) sc_dpb.nd rfl (Or.inl rfl)) pgs_nil)) rfl) (fun _ _ _ _ _ => pts_one (pt_cmpR op_ge (pv 4) (pv 2) (nomark _))) (fun _ _ _ _ _ => (pv 3))) pa_nil)))))), ?_⟩
    have nbl := nb_len tr sn
    have few := R.few
    refine ⟨_, rfl, _, rfl, r, tr, sn, rfl, R, hs, ?_⟩
    refine ⟨_, rfl, L, rfl, hL, ?_⟩
    refine ⟨_, rfl, _, rfl, r, tr, sn, rfl, R, hs, fun q ps H1 s1 hq hP => ⟨q, rfl, ⟨_, SqT.of hq⟩, fun D nD => ?_⟩⟩
    have lps : ps.length = (nb tr sn).length := by rw [hP.1, List.length_map]
    refine lc_tup (K := K) (a := q) (xs := ps.map V.ref) (fun i H' => Same H1 H' ∧ H' D = some (.lst ((((nb tr sn).take i).filter fun w => decide (L ≤ dph tr w sn + 1)).map iv))) ⟨same_upd nD _, upd_same⟩ (fun i H' _ a => SqT.of (a.1 _ _ hq)) ?_ ?_
    · rintro i v H' hv ⟨s2, hD⟩
      obtain ⟨p, hp, rfl⟩ := map_got hv
      have hi := (List.getElem?_eq_some_iff.mp hp).1
      obtain ⟨w, hw⟩ : ∃ w, (nb tr sn)[i]? = some w := ⟨_, List.getElem?_eq_getElem (by omega)⟩
      have hpH := hP.2 i p (w, dph tr w sn + 1) hp (by rw [List.getElem?_map, hw]; rfl)
      have e := fil_snoc (fun w => decide (L ≤ dph tr w sn + 1)) iv hw
      have fl := fil_len (i := i) (xs := nb tr sn) fun w => decide (L ≤ dph tr w sn + 1)
      refine ⟨p, _, rfl, SqT.of (s2 _ _ hpH), rfl, _, _, rfl, _, _, rfl, rfl, rfl, _, rfl, _, rfl, _, _, rfl, rfl, _, rfl, ?_⟩
      show (fun b H3 => if b = true then _ else _) (decide ((L : Int) ≤ ((dph tr w sn + 1 : Nat) : Int))) H'
      by_cases c : L ≤ dph tr w sn + 1
      · rw [show decide ((L : Int) ≤ ((dph tr w sn + 1 : Nat) : Int)) = true from decide_eq_true (by omega)]
        rw [if_pos (decide_eq_true c)] at e
        refine iteT ⟨_, rfl, _, hD, by rw [List.length_map, sizeLine_eq]; omega, same_old s2 nD _, ?_⟩
        rw [upd_same, e]
      · rw [show decide ((L : Int) ≤ ((dph tr w sn + 1 : Nat) : Int)) = false from decide_eq_false (by omega)]
        rw [if_neg (fun z => c (of_decide_eq_true z)), List.append_nil] at e
        exact iteF ⟨s2, by rw [e]; exact hD⟩
    · rintro H2 ⟨s2, hD⟩
      rw [show (nb tr sn).take (ps.map V.ref).length = nb tr sn from List.take_of_length_le (by rw [List.length_map, lps]; exact Nat.le_refl _)] at hD
      refine ⟨D, _, rfl, .inl ⟨SqL.of hD, fun l nl => ?_⟩⟩
      have s3 := (s1.trans s2).trans (same_upd nl (.tup (((nb tr sn).filter fun w => decide (L ≤ dph tr w sn + 1)).map iv)))
      exact k l _ s3 ((s1.trans s2).free nl) upd_same
end
end TR


namespace TR
open PySem PySem.Spec PyProof.Rows L2 L2.TT StX ClX
def spDiam (C : Addr) : Sp := fun vs H Q _ => ∃ (r : Addr) (tr : List E2), vs = [.ref r] ∧ RailAt C H r tr ∧ ∀ H' : Hp, Same H H' → Q (.int ((lngP tr).length - 1)) H'
section
variable {P : Program} {w : World} {K : PySem.W.Frag} {mg : Str → Option Value} {base : Heap}
abbrev N_sc_dia : List Str := ["railway"]
theorem sc_dia : FnScope N_sc_dia ["railway"] (defScope s_diameter) := ⟨rfl, rfl, rfl, by decide +kernel, rfl, by decide +kernel, by decide +kernel⟩
theorem ok_dia {f fL C : Addr} {fd fdL : FuncData} (F : Fun K "diameter" "diameter" s_diameter f fd) (N : Nm mg) (UL : Use P w K mg base CX0 7 "longest_path" fL fdL ["railway"] (spLongP C)) : FnOk P w K mg base CX0 8 f fd ["railway"] (spDiam C) := by
  refine F.ok sc_dia (fun vs H Q E h => ?_) (fun cdv A outer s H vs Q E hr h => ?_)
  · obtain ⟨r, tr, rfl, _⟩ := h
    rfl
  · obtain ⟨r, tr, rfl, R, k⟩ := h
    refine ⟨_, (pss_one (ps_ret (pe_op op_sub (pe_callB call_len_seq (by rfl) N.len boot_len (pa_cons (pe_use UL hr (by rfl) (pa_cons (pv 0) pa_nil)) pa_nil)) pe_int))), ?_⟩
    refine ⟨_, rfl, r, tr, rfl, R, fun p H1 s1 hp => ?_⟩
    refine ⟨p, _, rfl, .inr (SqT.of hp), _, _, rfl, rfl, ?_⟩
    have z := k H1 s1
    rw [← List.length_map (f := iv)] at z
    exact z
end
end TR


namespace L2.TT
open PySem PySem.Spec PyProof.Rows
section
variable {X : Cx}
/-- range(n), kept -/
def rRg1 : List V → Hp → VK → Prop := fun vs H Q => ∃ j : Int, vs = [V.int j] ∧ ∀ p, H p = none → Q (.ref p) (upd H p (.rng 0 j))
theorem cr_range1 : CallR X (.type "range") rRg1 := by
  intro pins s σ H vs us Q I r h
  obtain ⟨j, rfl, q⟩ := h
  obtain ⟨u, rfl, t, rfl⟩ := vals1 r
  have new : ObjOk X.prog X.w (upd H s.heap.objs.size (.rng 0 j)) (s.heap.push { cls := .type "range", data := .fields #[.int 0 s.toks, .int j t, .int 1 (s.toks + 1)] }) s.heap.objs.size (.rng 0 j) := ⟨s.toks, t, s.toks + 1, Heap.get?_push_size _ rfl⟩
  exact call_range_1 ⟨.ref s.heap.objs.size, _, I.laid (t' := s.toks + 1 + 1) (fun b o e => Heap.get?_push_of_some _ e) (Nat.le_refl _) new, rfl, q _ (I.hok.fresh (Nat.le_refl _))⟩
/-- over a range that is kept -/
def iRgO (te : TE) : TI := fun σ H R => te σ H fun v H1 => ∃ (a : Addr) (n : Nat), v = .ref a ∧ H1 a = some (.rng 0 (n : Int)) ∧ n ≤ 1000000 ∧ R (Itr 0 n) H1
theorem pi_rng {tg e : Expr} {te : TE} (h : PE X e te) : PI X tg e (iRgO te) := by
  refine ⟨fun pins s σ H R I hh => ?_⟩
  refine thn (h.run pins s σ H _ I hh) fun v s1 ⟨x, H1, I1, r1, a, n, ex, ha, hn, q⟩ => ?_
  subst ex
  cases r1
  obtain ⟨t, u, w, ho⟩ := (I1.hok a _ ha : ObjOk X.prog X.w H1 s1.heap a (.rng 0 (n : Int)))
  refine wpAny_pyIter_range (show IsRange s1.heap a 0 (n : Int) 1 t u w from ho) (small_one (by omega) (by omega) (by omega) (by omega)) ?_
  have nx : H1 s1.heap.objs.size = none := I1.hok.fresh (Nat.le_refl _)
  have z0 : (0 : Int) + ((0 : Nat) : Int) * 1 = 0 := rfl
  have zn : (n : Int) - ((0 : Nat) : Int) = Builtin.Range.rangeSize 0 (n : Int) 1 := by
    rw [rangeSize_one]
    split <;> omega
  refine ⟨s1.heap.objs.size, [s1.heap.objs.size], _, Itr 0 n, H1, rfl, I1.kept (t' := s1.toks) (fun b o e => Heap.get?_push_of_some _ e), turn_range _ 0 n, ?_, ?_, q⟩
  · show IsRangeIter _ _ ((0 : Int) + ((0 : Nat) : Int) * 1) ((n : Int) - ((0 : Nat) : Int)) 1
    rw [z0, zn]
    exact Heap.get?_push_size _ rfl
  · intro b hb
    rw [List.mem_singleton.mp hb]
    exact I1.fpOk (Nat.le_refl _) nx
end
end L2.TT

namespace TR
open PySem PySem.Spec PyProof.Rows L2 L2.TT StX ClX
/-- the stations with many deep branches -/
noncomputable def mnyS (tr : List E2) (L m : Nat) : List Nat := (List.range (tr.length + 1)).filter fun s => decide (m ≤ (dpN tr L s).length)
def spSwd (C : Addr) : Sp := fun vs H Q _ => ∃ (r : Addr) (tr : List E2) (L m : Nat), vs = [.ref r, iv L, iv m] ∧ RailAt C H r tr ∧ 1 ≤ L ∧
  ∀ (q : Addr) (H' : Hp), Same H H' → H q = none → H' q = some (.tup ((mnyS tr L m).map iv)) → Q (.ref q) H'
def spPiv (C : Addr) : Sp := fun vs H Q _ => ∃ (r : Addr) (tr : List E2) (L : Nat), vs = [.ref r, iv L] ∧ RailAt C H r tr ∧ 1 ≤ L ∧
  ∀ (q : Addr) (H' : Hp), Same H H' → H q = none → H' q = some (.tup ((mnyS tr L 3).map iv)) → Q (.ref q) H'
section
variable {P : Program} {w : World} {K : PySem.W.Frag} {mg : Str → Option Value} {base : Heap}
abbrev N_sc_swd : List Str := ["railway", "length", "least", "stations", "station"]
theorem sc_swd : FnScope N_sc_swd ["railway", "length", "least"] (defScope s_stations_with_deep_branches) := ⟨rfl, rfl, rfl, by decide +kernel, rfl, by decide +kernel, by decide +kernel⟩
theorem ok_swd {f fL fD C p g : Addr} {fd fdL fdD fdS : FuncData} (F : Fun K "_stations_with_deep_branches" "_stations_with_deep_branches" s_stations_with_deep_branches f fd) (N : Nm mg) (UL : Use P w K mg base CX0 2 "check_length" fL fdL ["length"] spChkLen) (UD : Use P w K mg base CX0 10 "deep_branches" fD fdD ["railway", "station", "length"] (spDpB C)) (Z : SizeOf P w K mg base C p g fdS) :
    FnOk P w K mg base CX0 11 f fd ["railway", "length", "least"] (spSwd C) := by
  refine F.ok sc_swd (fun vs H Q E h => ?_) (fun cdv A outer s H vs Q E hr h => ?_)
  · obtain ⟨r, tr, L, m, rfl, _⟩ := h
    rfl
  · obtain ⟨r, tr, L, m, rfl, R, hL, k⟩ := h
    refine ⟨_, (pss_cons (ps_expr (pe_use UL (hr.mono (by decide)) (by rfl) (pa_cons (pv 1) pa_nil)))
        (pss_cons (ps_set (i := 3) sc_swd.nd rfl (.inl rfl) (pe_callTy cr_range1 (by rfl) N.range boot_range (pa_cons (pe_prop (pv 0) Z.cl Z.hp Z.G (hr.mono (by decide)) Z.b .nil pass0 rfl) pa_nil)))
        (pss_one (ps_ret (pe_callTy call_tuple_of (by rfl) N.tuple boot_tuple (pa_cons (pe_lc (own := [("station", 4)]) (g := (gName 4)) rfl sc_swd.nd (pi_rng (pv 3)) (blkOk_by (N := N_sc_swd) (sc := defScope s_stations_with_deep_branches) (by decide +kernel)) (fun _ _ _ _ _ => pg_name (i := 4) sc_swd.nd rfl (Or.inl rfl)) (fun _ _ _ _ _ => pts_one (pt_cmpR op_ge (pe_callB (cl_K (K := K) rfl) (by rfl) N.len boot_len (pa_cons (pe_use UD hr (by rfl) (pa_cons (pv 0) (pa_cons (pv 4) (pa_cons (pv 1) pa_nil)))) pa_nil)) (pv 2) (nomark _))) (fun _ _ _ _ _ => (pv 4))) pa_nil)))))), ?_⟩
    have few := R.few
    obtain ⟨_, _, dx, _, _, _, _, _, _, h1, _⟩ := id R
    refine ⟨_, rfl, L, rfl, hL, ?_⟩
    refine ⟨_, rfl, r, dx, _, rfl, h1, r, tr, rfl, R, _, rfl, fun p nP => ?_⟩
    have s1 := same_upd nP (.rng 0 ((tr.length : Int) + 1))
    have hp1 : upd H p (.rng 0 ((tr.length : Int) + 1)) p = some (.rng 0 ((tr.length + 1 : Nat) : Int)) := upd_same
    generalize upd H p (.rng 0 ((tr.length : Int) + 1)) = H1 at s1 hp1 ⊢
    refine ⟨_, rfl, p, tr.length + 1, rfl, hp1, by omega, fun D nD => ?_⟩
    refine lc_range (lo := 0) (n := tr.length + 1) (fun i H' => Same H1 H' ∧ H' D = some (.lst (((List.range i).filter fun s => decide (m ≤ (dpN tr L s).length)).map iv))) ⟨same_upd nD _, upd_same⟩ ?_ ?_
    · rintro i H' hi ⟨s2, hD⟩
      rw [Int.zero_add]
      have fl : ((List.range i).filter fun s => decide (m ≤ (dpN tr L s).length)).length ≤ i := Nat.le_trans (List.length_filter_le _ _) (by rw [List.length_range]; exact Nat.le_refl _)
      refine ⟨rfl, _, rfl, _, rfl, _, rfl, r, tr, i, L, rfl, (R.same s1).same s2, by omega, hL, fun q H2 s3 nq hq => ?_⟩
      refine ⟨_, _, rfl, .inr (SqT.of hq), ?_⟩
      rw [List.length_map]
      refine ⟨_, rfl, _, _, rfl, rfl, _, rfl, ?_⟩
      have e1 : (List.range (i + 1)).filter (fun s => decide (m ≤ (dpN tr L s).length)) = (List.range i).filter (fun s => decide (m ≤ (dpN tr L s).length)) ++ (if m ≤ (dpN tr L i).length then [i] else []) := by
        rw [List.range_succ, List.filter_append]
        congr 1
        by_cases c : m ≤ (dpN tr L i).length <;> simp [c]
      have Dq : D ≠ q := fun z => by rw [← z, hD] at nq; cases nq
      by_cases c : m ≤ (dpN tr L i).length
      · rw [show decide ((m : Int) ≤ ((dpN tr L i).length : Int)) = true from decide_eq_true (by omega)]
        rw [if_pos c] at e1
        refine iteT ⟨_, rfl, _, s3 _ _ hD, by rw [List.length_map, sizeLine_eq]; omega, same_old (s2.trans s3) nD _, ?_⟩
        rw [upd_same, e1, List.map_append]
        rfl
      · rw [show decide ((m : Int) ≤ ((dpN tr L i).length : Int)) = false from decide_eq_false (by omega)]
        rw [if_neg c, List.append_nil] at e1
        exact iteF ⟨s2.trans s3, by rw [e1]; exact s3 _ _ hD⟩
    rintro H2 ⟨s2, hD⟩
    refine ⟨D, _, rfl, .inl ⟨SqL.of hD, fun l nl => ?_⟩⟩
    exact k l _ ((s1.trans s2).trans (same_upd nl _)) ((s1.trans s2).free nl) upd_same
abbrev N_sc_piv : List Str := ["railway", "length"]
theorem sc_piv : FnScope N_sc_piv ["railway", "length"] (defScope s_pivots) := ⟨rfl, rfl, rfl, by decide +kernel, rfl, by decide +kernel, by decide +kernel⟩
theorem ok_piv {f fS C : Addr} {fd fdS : FuncData} (F : Fun K "pivots" "pivots" s_pivots f fd) (US : Use P w K mg base CX0 11 "_stations_with_deep_branches" fS fdS ["railway", "length", "least"] (spSwd C)) : FnOk P w K mg base CX0 12 f fd ["railway", "length"] (spPiv C) := by
  refine F.ok sc_piv (fun vs H Q E h => ?_) (fun cdv A outer s H vs Q E hr h => ?_)
  · obtain ⟨r, tr, L, rfl, _⟩ := h
    rfl
  · obtain ⟨r, tr, L, rfl, R, hL, k⟩ := h
    refine ⟨_, (pss_one (ps_ret (pe_use US hr (by rfl) (pa_cons (pv 0) (pa_cons (pv 1) (pa_cons pe_int pa_nil)))))), ?_⟩
    exact ⟨_, rfl, _, rfl, r, tr, L, 3, rfl, R, hL, fun q H' s1 nq hq => k q H' s1 nq hq⟩
end
end TR


namespace L2.TT
open PySem PySem.Spec PyProof.Rows
section
variable {X : Cx}
/-- {k: v}, k a tuple of ints and texts -/
def tDispT (tk tv : TE) : TE := fun σ H Q => ∀ p, H p = none → tk σ (upd H p (.dT [])) fun x H1 => tv σ H1 fun y H2 => H2 p = some (.dT []) ∧ ∃ (b : Addr) (k : List Key), x = .ref b ∧ H2 b = some (.tup (k.map kV)) ∧ Q (.ref p) (upd H2 p (.dT [(k, y)]))
theorem pe_dispT {pos : Pos} {k v : Expr} {tk tv : TE} (hu : X.A.units + 64 < cLine) (hk : PE X k tk) (hv : PE X v tv) : PE X (.Dict [some k] [v] pos) (tDispT tk tv) := by
  refine ⟨fun pins s σ H Q I q => ?_⟩
  have hn := I.hok.fresh (Nat.le_refl s.heap.objs.size)
  have I1 := I.laid (a := s.heap.objs.size) (o := .dT []) (h' := s.heap.push { cls := .type "dict", data := .dict #[] }) (t' := s.toks) (fun _ _ q => Heap.get?_push_of_some _ q) (Nat.le_refl _) (dt_empty s.heap I.big)
  have hshape := zip_pairTrees [some k] [v] X.env pos rfl rfl
  rw [arm_eval_Dict, hshape, dictDisplay_pairs (pairTrees [some k] [v] X.env pos) (by simp [pairTrees]) (by simp [pairTrees])]
  refine wpAny_bind (wpAny_standAt (wpAny_bind ?_))
  unfold subDict
  refine wpAny_bind (wpAny_alloc ?_)
  refine wpAny_bind (wpAny_holding ?_)
  rw [if_pos (by simp [pairTrees])]
  refine wpAny_bind (pairTrees_cons_walk (thn (hk.run pins _ σ _ _ I1 (q _ hn)) fun u s1 ⟨x, H1, I1, rx, q1⟩ => thn (hv.run pins s1 σ H1 _ I1 q1) fun w2 s2 ⟨y, H2, I2, ry, e, b, kk, ex, eb, q2⟩ => pairTrees_nil_walk ?_))
  subst ex
  cases (show u = Value.ref b from rx)
  refine wpAny_holding ?_
  obtain ⟨z, hd, xs, rel, dd⟩ := dt_of I2.hok e
  cases rel
  refine wpAny_bind ?_
  rw [List.forIn_cons]
  refine wpAny_bind (wpAny_bind (wpAny_dictSet_heap (knd := tupleKind (mixKind X.prog X.w)) (xs := []) (hsz := by simp) (show (tupleKind (mixKind X.prog X.w)).room X.A from (by show X.A.units < cLine; omega)) (key_of I2.hok eb) dd fun h' dd' hs => wpAny_pure ?_))
  dsimp only
  rw [List.forIn_nil]
  refine wpAny_pure (wpAny_pure (wpAny_pure (wpAny_pure ?_)))
  obtain ⟨o, es, ep, ho, h2, h3, h4, _, h5⟩ := dd'
  have rel : KT H2 (putK ([] : List (List Key × V)) kk y) (storedH [] kk b w2) := KT.put (.nil : KT H2 [] []) kk eb ry
  have hobj : ObjOk X.prog X.w (upd H2 s.heap.objs.size (.dT (putK [] kk y))) h' s.heap.objs.size (.dT (putK [] kk y)) := by
    refine ⟨by show 1 ≤ sizeLine; rw [sizeLine_eq]; decide, hd, _, rel.keeps fun c ys ec => ?_, o, es, ep, ho, h2, h3, h4, h5⟩
    rw [upd_ne (ne_of ec e (fun z => nomatch z))]
    exact ec
  exact ⟨.ref s.heap.objs.size, _, d_write I2 (by rw [e]; exact True.intro) hs ⟨o, ho⟩ hobj, rfl, q2⟩
end
end L2.TT

namespace TR
open PySem PySem.Spec PyProof.Rows L2 L2.TT
theorem valV_none {kvs : List (List Key × V)} {k : List Key} (h : k ∉ kvs.map (·.1)) : valV kvs k = none := by
  induction kvs with
  | nil => rfl
  | cons p r ih =>
    rw [List.map_cons] at h
    rw [valV_neg fun z => h (by rw [← z]; exact List.mem_cons_self)]
    exact ih fun z => h (List.mem_cons_of_mem _ z)
theorem valV_at : ∀ {kvs : List (List Key × V)} {i : Nat} {k : List Key} {v : V}, (kvs.map (·.1)).Nodup → kvs[i]? = some (k, v) → valV kvs k = some v
  | p :: r, 0, k, v, _, h => by
    cases h
    exact valV_pos rfl
  | p :: r, i + 1, k, v, nd, h => by
    rw [List.map_cons] at nd
    have nd := List.nodup_cons.mp nd
    have hm : k ∈ r.map (·.1) := List.mem_map.mpr ⟨(k, v), List.mem_of_getElem? (show r[i]? = some (k, v) from h), rfl⟩
    rw [valV_neg fun z => nd.1 (z ▸ hm)]
    exact valV_at nd.2 h
end TR

namespace TR
/-! The halved railway. -/
def hf (tr : List E2) (k : Nat) : List E2 := [((tr.getD k (0, 0)).1, tr.length + 1 + k), ((tr.getD k (0, 0)).2, tr.length + 1 + k)]
def halfP (tr : List E2) (i : Nat) : List E2 := (List.range i).flatMap (hf tr)
abbrev half (tr : List E2) : List E2 := halfP tr tr.length
section
variable {tr : List E2}
theorem halfP_succ (i : Nat) : halfP tr (i + 1) = halfP tr i ++ hf tr i := by
  unfold halfP
  rw [List.range_succ, List.flatMap_append]
  simp
theorem halfP_len : ∀ i, (halfP tr i).length = 2 * i
  | 0 => rfl
  | i + 1 => by
    rw [halfP_succ, List.length_append, halfP_len i]
    show 2 * i + 2 = _
    omega
theorem mem_half {x y : Nat} : (x, y) ∈ half tr ↔ ∃ k e, tr[k]? = some e ∧ y = tr.length + 1 + k ∧ (x = e.1 ∨ x = e.2) := by
  unfold half halfP
  rw [List.mem_flatMap]
  constructor
  · rintro ⟨k, hk, h⟩
    have hk := List.mem_range.mp hk
    have e0 : tr.getD k (0, 0) = tr[k] := by rw [List.getD_eq_getElem?_getD, List.getElem?_eq_getElem hk]; rfl
    refine ⟨k, tr[k], List.getElem?_eq_getElem hk, ?_⟩
    unfold hf at h
    rw [e0] at h
    simp only [List.mem_cons, List.not_mem_nil, or_false, Prod.mk.injEq] at h
    rcases h with ⟨h1, h2⟩ | ⟨h1, h2⟩
    · exact ⟨h2, .inl h1⟩
    · exact ⟨h2, .inr h1⟩
  · rintro ⟨k, e, hk, h1, h2⟩
    have hl := (List.getElem?_eq_some_iff.mp hk).1
    have e0 : tr.getD k (0, 0) = e := by rw [List.getD_eq_getElem?_getD, hk]; rfl
    refine ⟨k, List.mem_range.mpr hl, ?_⟩
    unfold hf
    rw [e0]
    simp only [List.mem_cons, List.not_mem_nil, or_false, Prod.mk.injEq]
    rcases h2 with h2 | h2
    · exact .inl ⟨h2, h1⟩
    · exact .inr ⟨h2, h1⟩
/-- a neighbour in the halved railway: the middle of a track -/
theorem adj_half (T : TreeL tr) {x y : Nat} (h : x ≤ tr.length) : Adj (half tr) x y ↔ ∃ k e, tr[k]? = some e ∧ y = tr.length + 1 + k ∧ (x = e.1 ∨ x = e.2) := by
  constructor
  · rintro (q | q)
    · exact mem_half.mp q
    · obtain ⟨k, e, _, h2, _⟩ := mem_half.mp q
      omega
  · exact fun q => .inl (mem_half.mpr q)
theorem adj_mid (T : TreeL tr) {k y : Nat} {e : E2} (hk : tr[k]? = some e) : Adj (half tr) (tr.length + 1 + k) y ↔ y = e.1 ∨ y = e.2 := by
  constructor
  · rintro (q | q)
    · obtain ⟨k', e', h1, h2, h3⟩ := mem_half.mp q
      have := T.le e' (List.mem_of_getElem? h1)
      omega
    · obtain ⟨k', e', h1, h2, h3⟩ := mem_half.mp q
      have : k' = k := by omega
      subst this
      rw [hk] at h1
      cases h1
      exact h3
  · exact fun q => .inr (mem_half.mpr ⟨k, e, hk, rfl, q⟩)
theorem mem_half' {d : E2} (h : d ∈ half tr) : ∃ (k : Nat) (e : E2), tr[k]? = some e ∧ d.2 = tr.length + 1 + k ∧ (d.1 = e.1 ∨ d.1 = e.2) := mem_half.mp h
theorem tree_half (T : TreeL tr) : TreeL (half tr) := by
  have hl : (half tr).length = 2 * tr.length := halfP_len _
  refine ⟨fun e he => ?_, fun e he => ?_, fun v hv => ?_⟩
  · obtain ⟨k, d, h1, h2, h3⟩ := mem_half' he
    have := T.le d (List.mem_of_getElem? h1)
    omega
  · obtain ⟨k, d, h1, h2, h3⟩ := mem_half' he
    have := T.le d (List.mem_of_getElem? h1)
    have := (List.getElem?_eq_some_iff.mp h1).1
    omega
  · have old : ∀ k v, WN tr k v → ∃ j, WN (half tr) j v := by
      intro k
      induction k with
      | zero => exact fun v h => ⟨0, h⟩
      | succ k ih =>
        rintro v ⟨u, hu, ha⟩
        obtain ⟨j, hj⟩ := ih u hu
        obtain ⟨i, e, hi, hq⟩ : ∃ (i : Nat) (e : E2), tr[i]? = some e ∧ ((u = e.1 ∧ v = e.2) ∨ (u = e.2 ∧ v = e.1)) := by
          rcases ha with ha | ha
          · obtain ⟨i, hi⟩ := List.mem_iff_getElem?.mp ha
            exact ⟨i, _, hi, .inl ⟨rfl, rfl⟩⟩
          · obtain ⟨i, hi⟩ := List.mem_iff_getElem?.mp ha
            exact ⟨i, _, hi, .inr ⟨rfl, rfl⟩⟩
        refine ⟨j + 1 + 1, tr.length + 1 + i, ⟨u, hj, ?_⟩, (adj_mid T hi).mpr (by omega)⟩
        exact ((adj_mid T hi).mpr (by omega)).sym
    by_cases c : v ≤ tr.length
    · obtain ⟨k, hk⟩ := T.co v c
      exact old k v hk
    · obtain ⟨e, he⟩ : ∃ e, tr[v - (tr.length + 1)]? = some e := ⟨_, List.getElem?_eq_getElem (by omega)⟩
      obtain ⟨k, hk⟩ := T.co e.1 (T.le e (List.mem_of_getElem? he)).1
      obtain ⟨j, hj⟩ := old k _ hk
      refine ⟨j + 1, e.1, hj, ?_⟩
      have := ((adj_mid T he).mpr (.inl rfl)).sym
      have e1 : tr.length + 1 + (v - (tr.length + 1)) = v := by omega
      rw [e1] at this
      exact this
/-- sorted lists of the same different items are the same -/
theorem sorted_ext {l m : List Nat} (h1 : l.Nodup) (h2 : m.Nodup) (s1 : l.Pairwise (· ≤ ·)) (s2 : m.Pairwise (· ≤ ·)) (h : ∀ x, x ∈ l ↔ x ∈ m) : l = m :=
  List.Perm.eq_of_pairwise (le := (· ≤ ·)) (fun a b _ _ h1 h2 => Nat.le_antisymm h1 h2) s1 s2 ((List.perm_ext_iff_of_nodup h1 h2).mpr h)
theorem nb_ext {tr tr' : List E2} (T : TreeL tr) (T' : TreeL tr') {v v' : Nat} (h : ∀ x, Adj tr v x ↔ Adj tr' v' x) : nb tr v = nb tr' v' :=
  sorted_ext (nb_nd T v) (nb_nd T' v') (srt_le _) (srt_le _) fun x => by rw [mem_nb T.ne, mem_nb T'.ne, h]
theorem nb_nrmS (T : TreeL tr) (v : Nat) : nb (nrmS tr) v = nb tr v := nb_ext T.nS T fun x => (nrmS_norm tr).adj
theorem nb_mid (T : TreeL tr) {k : Nat} {e : E2} (hk : tr[k]? = some e) (hlt : e.1 < e.2) : nb (half tr) (tr.length + 1 + k) = [e.1, e.2] := by
  refine sorted_ext (nb_nd (tree_half T) _) (by simp; omega) (srt_le _) (by simp; omega) fun x => ?_
  rw [mem_nb (tree_half T).ne, adj_mid T hk]
  simp
theorem sw_half (T : TreeL tr) {a : Nat} : ∀ (l : List Nat) {b : Nat}, a ≤ tr.length → SW tr a b l → ∃ l', SW (half tr) a b l' ∧ l'.length + 1 = 2 * l.length ∧ (∀ z ∈ l', z ≤ tr.length → z ∈ l) ∧ (∀ z ∈ l', tr.length < z → ∃ k e, tr[k]? = some e ∧ z = tr.length + 1 + k ∧ e.1 ∈ l ∧ e.2 ∈ l) := by
  intro l
  generalize hn : l.length = n
  induction n generalizing l with
  | zero =>
    intro b _ s
    have := List.length_eq_zero_iff.mp hn
    subst this
    cases s.hd
  | succ n ih =>
    intro b ha s
    obtain ⟨p, rfl⟩ : ∃ p, l = p ++ [b] := by
      have := s.lt
      rw [List.getLast?_eq_some_iff] at this
      exact this
    by_cases c : p = []
    · subst c
      have e : b = a := Option.some.inj s.hd
      subst e
      have : n = 0 := by simpa using hn.symm
      subst this
      refine ⟨[b], SW.one b, rfl, fun z hz _ => hz, fun z hz h => ?_⟩
      rw [List.mem_singleton.mp hz] at h
      omega
    · obtain ⟨x, s1, adj, nin⟩ := s.cut c
      have hlen : p.length = n := by simpa using hn
      obtain ⟨l', w, e1, e2, e3⟩ := ih p hlen ha s1
      have hx := (T.adj_le adj)
      obtain ⟨i, e, hi, hq⟩ : ∃ (i : Nat) (e : E2), tr[i]? = some e ∧ ((x = e.1 ∧ b = e.2) ∨ (x = e.2 ∧ b = e.1)) := by
        rcases adj with h | h
        · obtain ⟨i, hi⟩ := List.mem_iff_getElem?.mp h
          exact ⟨i, _, hi, .inl ⟨rfl, rfl⟩⟩
        · obtain ⟨i, hi⟩ := List.mem_iff_getElem?.mp h
          exact ⟨i, _, hi, .inr ⟨rfl, rfl⟩⟩
      have a1 : Adj (half tr) x (tr.length + 1 + i) := ((adj_mid T hi).mpr (by omega)).sym
      have a2 : Adj (half tr) (tr.length + 1 + i) b := (adj_mid T hi).mpr (by omega)
      have n1 : tr.length + 1 + i ∉ l' := fun m => by
        obtain ⟨k, d, hk, h2, h3, h4⟩ := e3 _ m (by omega)
        have : k = i := by omega
        subst this
        rw [hi] at hk
        cases hk
        rcases hq with ⟨_, q⟩ | ⟨_, q⟩
        · exact nin (q ▸ h4)
        · exact nin (q ▸ h3)
      have w1 := w.snoc a1 n1
      have n2 : b ∉ l' ++ [tr.length + 1 + i] := fun m => by
        rcases mem_snoc.mp m with m | m
        · exact nin (e2 b m hx.2)
        · omega
      refine ⟨_, w1.snoc a2 n2, ?_, fun z hz hzl => ?_, fun z hz hzl => ?_⟩
      · simp only [List.length_append, List.length_singleton]
        omega
      · rcases mem_snoc.mp hz with hz | rfl
        · rcases mem_snoc.mp hz with hz | rfl
          · exact List.mem_append_left _ (e2 z hz hzl)
          · omega
        · simp
      · rcases mem_snoc.mp hz with hz | rfl
        · rcases mem_snoc.mp hz with hz | rfl
          · obtain ⟨k, d, h1, h2, h3, h4⟩ := e3 z hz hzl
            exact ⟨k, d, h1, h2, List.mem_append_left _ h3, List.mem_append_left _ h4⟩
          · have xm := s1.mem
            refine ⟨i, e, hi, rfl, ?_⟩
            rcases hq with ⟨q1, q2⟩ | ⟨q1, q2⟩
            · exact ⟨by rw [← q1]; exact List.mem_append_left _ xm, by rw [← q2]; simp⟩
            · exact ⟨by rw [← q2]; simp, by rw [← q1]; exact List.mem_append_left _ xm⟩
        · omega
/-- all distances are doubled -/
theorem half_dist (T : TreeL tr) {a b : Nat} {l l' : List Nat} (ha : a ≤ tr.length) (s : SW tr a b l) (s' : SW (nrmS (half tr)) a b l') : l'.length + 1 = 2 * l.length := by
  obtain ⟨m, w, e, _⟩ := sw_half T l ha s
  have := SW.uniq (tree_half T) w (s'.norm (nrmS_norm _))
  rw [← this]
  exact e
theorem half_lt (T : TreeL tr) (hlt : ∀ e ∈ tr, e.1 < e.2) : (half tr).map nrm = half tr := by
  have : (half tr).map nrm = (half tr).map id := List.map_congr_left fun e he => nrm_lt (by
    obtain ⟨k, d, h1, h2, h3⟩ := mem_half' he
    have := T.le d (List.mem_of_getElem? h1)
    omega)
  rw [this, List.map_id]
end
end TR

namespace TR
/-! Railways with other names. -/
inductive Rch (tr : List E2) (a : Nat) : Nat → Prop
  | here : Rch tr a a
  | on {u v : Nat} : Rch tr a u → Adj tr u v → Rch tr a v
section
variable {tr : List E2}
theorem Rch.trans {a b c : Nat} (h : Rch tr a b) (k : Rch tr b c) : Rch tr a c := by
  induction k with
  | here => exact h
  | on _ q ih => exact .on ih q
theorem Rch.sym {a b : Nat} (h : Rch tr a b) : Rch tr b a := by
  induction h with
  | here => exact .here
  | on _ q ih => exact Rch.trans (.on .here q.sym) ih
theorem Rch.wn {v : Nat} (h : Rch tr 0 v) : ∃ k, WN tr k v := by
  induction h with
  | here => exact ⟨0, rfl⟩
  | on _ q ih =>
    obtain ⟨k, hk⟩ := ih
    exact ⟨k + 1, _, hk, q⟩
theorem rch_of : ∀ {k v : Nat}, WN tr k v → Rch tr 0 v
  | 0, v, h => by
    have : v = 0 := h
    subst this
    exact .here
  | k + 1, v, ⟨u, h, q⟩ => .on (rch_of h) q
theorem tree_rch (ne : ∀ e ∈ tr, e.1 ≠ e.2) (le : ∀ e ∈ tr, e.1 ≤ tr.length ∧ e.2 ≤ tr.length) {r : Nat} (h : ∀ v, v ≤ tr.length → Rch tr r v) : TreeL tr :=
  ⟨ne, le, fun v hv => ((h 0 (Nat.zero_le _)).sym.trans (h v hv)).wn⟩
/-- an order of the stations 0 .. n -/
structure Od (o : List Nat) (n : Nat) : Prop where
  len : o.length = n + 1
  nd : o.Nodup
  le : ∀ x ∈ o, x ≤ n
def nm (o : List Nat) (v : Nat) : Nat := o.getD v 0
theorem nm_get {o : List Nat} {v x : Nat} (h : o[v]? = some x) : nm o v = x := by
  unfold nm
  rw [List.getD_eq_getElem?_getD, h]
  rfl
theorem Od.at {o : List Nat} {n v : Nat} (d : Od o n) (hv : v ≤ n) : o[v]? = some (nm o v) := by
  have hl : v < o.length := by rw [d.len]; omega
  rw [nm_get (List.getElem?_eq_getElem hl)]
  exact List.getElem?_eq_getElem hl
theorem Od.nle {o : List Nat} {n v : Nat} (d : Od o n) (hv : v ≤ n) : nm o v ≤ n := d.le _ (List.mem_of_getElem? (d.at hv))
theorem Od.inj {o : List Nat} {n v w : Nat} (d : Od o n) (hv : v ≤ n) (hw : w ≤ n) (h : nm o v = nm o w) : v = w := by
  have h1 := d.at hv
  have h2 := d.at hw
  rw [h] at h1
  exact (List.getElem?_inj (by rw [d.len]; omega) d.nd).mp (h1.trans h2.symm)
theorem Od.all {o : List Nat} {n x : Nat} (d : Od o n) (hx : x ≤ n) : x ∈ o := by
  by_cases c : x ∈ o
  · exact c
  · exfalso
    have h2 : (x :: o).Nodup := List.nodup_cons.mpr ⟨c, d.nd⟩
    have := nd_len h2 (n := n) fun y hy => by
      rcases List.mem_cons.mp hy with rfl | hy
      · exact hx
      · exact d.le y hy
    rw [List.length_cons, d.len] at this
    omega
def rn (o : List Nat) (e : E2) : E2 := (nm o e.1, nm o e.2)
def ren (o : List Nat) (tr : List E2) : List E2 := tr.map (rn o)
theorem ren_len {o : List Nat} : (ren o tr).length = tr.length := List.length_map _
theorem tree_ren (T : TreeL tr) {o : List Nat} (d : Od o tr.length) : TreeL (ren o tr) := by
  have hm : ∀ e ∈ ren o tr, ∃ f ∈ tr, e = rn o f := fun e he => by
    obtain ⟨f, hf, q⟩ := List.mem_map.mp he
    exact ⟨f, hf, q.symm⟩
  have adj : ∀ {a b}, Adj tr a b → Adj (ren o tr) (nm o a) (nm o b) := fun {a b} h => h.imp (fun h => List.mem_map.mpr ⟨_, h, rfl⟩) (fun h => List.mem_map.mpr ⟨_, h, rfl⟩)
  refine tree_rch (r := nm o 0) (fun e he => ?_) (fun e he => ?_) (fun v hv => ?_)
  · obtain ⟨f, hf, rfl⟩ := hm e he
    intro z
    have l := T.le f hf
    exact T.ne f hf (d.inj l.1 l.2 z)
  · obtain ⟨f, hf, rfl⟩ := hm e he
    have l := T.le f hf
    rw [ren_len]
    exact ⟨d.nle l.1, d.nle l.2⟩
  · rw [ren_len] at hv
    obtain ⟨w, hw⟩ := List.mem_iff_getElem?.mp (d.all hv)
    have hwl : w ≤ tr.length := by
      have := (List.getElem?_eq_some_iff.mp hw).1
      rw [d.len] at this
      omega
    rw [← nm_get hw]
    obtain ⟨k, hk⟩ := T.co w hwl
    have : ∀ {v}, Rch tr 0 v → Rch (ren o tr) (nm o 0) (nm o v) := fun {v} h => by
      induction h with
      | here => exact .here
      | on _ q ih => exact .on ih (adj q)
    exact this (rch_of hk)
theorem nrm_rn {o : List Nat} (e : E2) : nrm (rn o (nrm e)) = nrm (rn o e) := by
  obtain ⟨a, b⟩ := e
  by_cases c : a ≤ b
  · have : nrm (a, b) = (a, b) := by
      unfold nrm mn mx
      exact Prod.ext (by simp only; omega) (by simp only; omega)
    rw [this]
  · have : nrm (a, b) = (b, a) := by
      unfold nrm mn mx
      exact Prod.ext (by simp only; omega) (by simp only; omega)
    rw [this]
    unfold rn nrm mn mx
    exact Prod.ext (Nat.min_comm _ _) (Nat.max_comm _ _)
theorem nrmS_ren {o : List Nat} : nrmS (ren o (nrmS tr)) = nrmS (ren o tr) := by
  have : (ren o (nrmS tr)).map nrm = (srt2 (tr.map nrm)).map fun e => nrm (rn o e) := by
    unfold ren nrmS
    rw [List.map_map]
    rfl
  have h2 : (ren o tr).map nrm = (tr.map nrm).map fun e => nrm (rn o e) := by
    unfold ren
    rw [List.map_map, List.map_map]
    exact List.map_congr_left fun e _ => (nrm_rn e).symm
  show srt2 _ = srt2 _
  rw [this, h2]
  exact srt2_perm_eq ((srt2_perm _).map _)
/-- the inverse order -/
def inv (o : List Nat) (n : Nat) : List Nat := (List.range (n + 1)).map fun k => o.idxOf k
theorem inv_nm {o : List Nat} {n k : Nat} (hk : k ≤ n) : nm (inv o n) k = o.idxOf k := by
  refine nm_get ?_
  unfold inv
  rw [List.getElem?_map, List.getElem?_range (by omega)]
  rfl
theorem Od.idx {o : List Nat} {n v : Nat} (d : Od o n) (hv : v ≤ n) : o.idxOf (nm o v) = v := idxOf_get d.nd (d.at hv)
theorem Od.inv {o : List Nat} {n : Nat} (d : Od o n) : Od (inv o n) n := by
  have get : ∀ k, k ≤ n → ∃ i, i ≤ n ∧ o.idxOf k = i ∧ nm o i = k := fun k hk => by
    obtain ⟨i, hi⟩ := List.mem_iff_getElem?.mp (d.all hk)
    have hl := (List.getElem?_eq_some_iff.mp hi).1
    rw [d.len] at hl
    exact ⟨i, by omega, idxOf_get d.nd hi, nm_get hi⟩
  refine ⟨by unfold TR.inv; simp, ?_, fun x hx => ?_⟩
  · unfold TR.inv
    rw [List.nodup_iff_pairwise_ne, List.pairwise_map]
    refine List.Pairwise.imp_of_mem (R := fun a b => a < b) (fun {a b} ha hb hab => ?_) List.pairwise_lt_range
    have ha := List.mem_range.mp ha
    have hb := List.mem_range.mp hb
    obtain ⟨i, i1, i2, i3⟩ := get a (by omega)
    obtain ⟨j, j1, j2, j3⟩ := get b (by omega)
    rw [i2, j2]
    rintro rfl
    omega
  · unfold TR.inv at hx
    obtain ⟨k, hk, rfl⟩ := List.mem_map.mp hx
    have hk := List.mem_range.mp hk
    obtain ⟨i, i1, i2, i3⟩ := get k (by omega)
    omega
theorem ren_inv (T : TreeL tr) {o : List Nat} (d : Od o tr.length) : ren (inv o tr.length) (ren o tr) = tr := by
  unfold ren
  rw [List.map_map]
  have : tr.map (rn (inv o tr.length) ∘ rn o) = tr.map id := List.map_congr_left fun e he => by
    have l := T.le e he
    show (nm (inv o tr.length) (nm o e.1), nm (inv o tr.length) (nm o e.2)) = e
    rw [inv_nm (d.nle l.1), inv_nm (d.nle l.2), d.idx l.1, d.idx l.2]
  rw [this, List.map_id]
theorem ren_back (T : TreeL tr) {o : List Nat} (d : Od o tr.length) : nrmS (ren (inv o tr.length) (nrmS (ren o tr))) = nrmS tr := by
  rw [nrmS_ren, ren_inv T d]
end
end TR

namespace TR
/-! A railway without its last station. -/
def onE (v : Nat) (e : E2) : Bool := decide (e.1 = v) || decide (e.2 = v)
def deg (tr : List E2) (v : Nat) : Nat := (tr.filter (onE v)).length
def cut (tr : List E2) (v : Nat) : List E2 := tr.filter fun e => !onE v e
theorem onE_iff {v : Nat} {e : E2} : onE v e = true ↔ e.1 = v ∨ e.2 = v := by
  unfold onE
  rw [Bool.or_eq_true, decide_eq_true_eq, decide_eq_true_eq]
theorem onE_nrm {v : Nat} {e : E2} : onE v (nrm e) = onE v e := by
  have h : onE v (nrm e) = true ↔ onE v e = true := by
    rw [onE_iff, onE_iff]
    unfold nrm mn mx
    simp only
    omega
  cases h1 : onE v (nrm e) <;> cases h2 : onE v e <;> simp_all
section
variable {tr : List E2}
theorem row_deg (v : Nat) : (rowOf tr v).length = deg tr v := by
  induction tr with
  | nil => rfl
  | cons e r ih =>
    have h0 : rowOf (e :: r) v = bit v e ++ rowOf r v := rfl
    rw [h0, List.length_append, ih]
    unfold deg bit
    by_cases h1 : e.1 = v
    · rw [if_pos h1, List.filter_cons_of_pos (onE_iff.mpr (.inl h1)), List.length_cons]
      simp
      omega
    · rw [if_neg h1]
      by_cases h2 : e.2 = v
      · rw [if_pos h2, List.filter_cons_of_pos (onE_iff.mpr (.inr h2)), List.length_cons]
        simp
        omega
      · rw [if_neg h2, List.filter_cons_of_neg (fun z => (onE_iff.mp z).elim h1 h2)]
        simp
theorem nb_deg (v : Nat) : (nb tr v).length = deg tr v := by
  unfold nb
  rw [(srt_perm _).length_eq, row_deg]
theorem cut_len (v : Nat) : (cut tr v).length + deg tr v = tr.length := by
  unfold cut deg
  induction tr with
  | nil => rfl
  | cons e r ih =>
    cases h : onE v e with
    | true =>
      rw [List.filter_cons_of_pos (p := onE v) h, List.filter_cons_of_neg (p := fun e => !onE v e) (by rw [h]; decide)]
      rw [List.length_cons, List.length_cons]
      omega
    | false =>
      rw [List.filter_cons_of_neg (p := onE v) (by rw [h]; decide), List.filter_cons_of_pos (p := fun e => !onE v e) (by rw [h]; rfl)]
      rw [List.length_cons, List.length_cons]
      omega
theorem mem_cut {v : Nat} {e : E2} : e ∈ cut tr v ↔ e ∈ tr ∧ e.1 ≠ v ∧ e.2 ≠ v := by
  unfold cut
  rw [List.mem_filter, Bool.not_eq_true', Bool.eq_false_iff, Ne, onE_iff]
  constructor
  · rintro ⟨h, k⟩
    exact ⟨h, fun z => k (.inl z), fun z => k (.inr z)⟩
  · rintro ⟨h, k1, k2⟩
    exact ⟨h, fun z => z.elim k1 k2⟩
theorem deg_pos (T : TreeL tr) (h : 0 < tr.length) : 0 < deg tr tr.length := by
  have := par_adj T (y := tr.length) h (Nat.le_refl _)
  have hm := (mem_nb T.ne).mpr this
  rw [← nb_deg]
  exact List.length_pos_of_mem hm
theorem tree_cut (T : TreeL tr) (h : 0 < tr.length) (hd : deg tr tr.length = 1) : TreeL (cut tr tr.length) ∧ (cut tr tr.length).length + 1 = tr.length := by
  have hl : (cut tr tr.length).length + 1 = tr.length := by
    have := cut_len (tr := tr) tr.length
    omega
  refine ⟨tree_rch (r := 0) (fun e he => T.ne e (mem_cut.mp he).1) (fun e he => ?_) (fun v hv => ?_), hl⟩
  · obtain ⟨h1, h2, h3⟩ := mem_cut.mp he
    have := T.le e h1
    omega
  · have adj : ∀ {a b : Nat}, Adj tr a b → a ≠ tr.length → b ≠ tr.length → Adj (cut tr tr.length) a b := fun {a b} q ha hb => q.imp (fun q => mem_cut.mpr ⟨q, ha, hb⟩) (fun q => mem_cut.mpr ⟨q, hb, ha⟩)
    have one : ∀ {a b : Nat}, Adj tr tr.length a → Adj tr tr.length b → a = b := fun {a b} qa qb => by
      have ma := (mem_nb T.ne).mpr qa
      have mb := (mem_nb T.ne).mpr qb
      rw [← nb_deg] at hd
      match hn : nb tr tr.length, hd with
      | [x], _ =>
        rw [hn] at ma mb
        rw [List.mem_singleton.mp ma, List.mem_singleton.mp mb]
    have main : ∀ k v, dep tr v ≤ k → v < tr.length → Rch (cut tr tr.length) 0 v := by
      intro k
      induction k with
      | zero =>
        intro v hk hv
        by_cases c : 0 < v
        · have := dep_succ T c
          omega
        · have : v = 0 := by omega
          subst this
          exact .here
      | succ k ih =>
        intro v hk hv
        by_cases c : 0 < v
        · have hs := dep_succ T c
          have ha := par_adj T c (Nat.le_of_lt hv)
          have hp := T.par_le v
          have np : par tr v ≠ tr.length := fun z => by
            rw [z] at ha
            have hb := par_adj T (y := tr.length) h (Nat.le_refl _)
            have e := one ha.sym hb
            have hs2 := dep_succ T (y := tr.length) h
            rw [← e] at hs2
            rw [z] at hs
            omega
          exact .on (ih (par tr v) (by omega) (by omega)) (adj ha.sym np (by omega))
        · have : v = 0 := by omega
          subst this
          exact .here
    exact main _ v (Nat.le_refl _) (by omega)
theorem deg_nrm (v : Nat) : deg (nrmS tr) v = deg tr v := by
  unfold deg nrmS
  rw [((srt2_perm _).filter _).length_eq, List.filter_map, List.length_map]
  congr 2
  funext e
  exact onE_nrm
theorem deg_push {x : Nat} (T : TreeL tr) (h : x ≤ tr.length) : deg (tr ++ [(x, tr.length + 1)]) (tr.length + 1) = 1 := by
  unfold deg
  rw [List.filter_append, List.length_append]
  have h0 : tr.filter (onE (tr.length + 1)) = [] := by
    rw [List.filter_eq_nil_iff]
    intro e he z
    have := T.le e he
    rcases onE_iff.mp z with z | z <;> omega
  rw [h0, List.filter_cons_of_pos (p := onE (tr.length + 1)) (onE_iff.mpr (.inr rfl))]
  rfl
theorem nrmS_sorted (h : ∀ e ∈ tr, nrm e = e) (hs : tr.Pairwise fun a b => lexle a b = true) : nrmS tr = tr := by
  unfold nrmS
  rw [List.map_congr_left (g := id) h, List.map_id]
  exact (srt2_of (List.Perm.refl _) hs).symm
theorem nrmS_mm {e : E2} (h : e ∈ nrmS tr) : nrm e = e := by
  obtain ⟨d, _, rfl⟩ := nrmS_mem h
  exact nrm_nrm d
theorem cut_nrmS (v : Nat) : nrmS (cut (nrmS tr) v) = cut (nrmS tr) v :=
  nrmS_sorted (fun e he => nrmS_mm (mem_cut.mp he).1) (List.Pairwise.filter _ (srt2_le _))
theorem cut_nrm (v : Nat) : cut (nrmS tr) v = nrmS (cut tr v) := by
  rw [← cut_nrmS]
  unfold nrmS
  refine srt2_perm_eq ?_
  have h : (cut (srt2 (tr.map nrm)) v).Perm (cut (tr.map nrm) v) := (srt2_perm _).filter _
  refine (h.map nrm).trans (List.Perm.of_eq ?_)
  unfold cut
  rw [List.filter_map, List.map_map]
  have e1 : ((fun e => !onE v e) ∘ nrm) = fun e => !onE v e := by
    funext e
    exact congrArg (!·) onE_nrm
  rw [e1]
  refine List.map_congr_left fun e _ => nrm_nrm e
theorem cut_push {x : Nat} (T : TreeL tr) : cut (tr ++ [(x, tr.length + 1)]) (tr.length + 1) = tr := by
  unfold cut
  rw [List.filter_append]
  have h0 : tr.filter (fun e => !onE (tr.length + 1) e) = tr := by
    rw [List.filter_eq_self]
    intro e he
    have := T.le e he
    rw [Bool.not_eq_true', Bool.eq_false_iff]
    intro z
    rcases onE_iff.mp z with z | z <;> omega
  rw [h0, List.filter_cons_of_neg (p := fun e => !onE (tr.length + 1) e) (by rw [(onE_iff (v := tr.length + 1) (e := (x, tr.length + 1))).mpr (.inr rfl)]; decide)]
  simp
/-- put on, then taken off -/
theorem cut_back {x : Nat} (T : TreeL tr) : cut (nrmS (tr ++ [(x, tr.length + 1)])) (tr.length + 1) = nrmS tr := by
  rw [cut_nrm, cut_push T]
theorem nrmS_app (e : E2) : nrmS (nrmS tr ++ [e]) = nrmS (tr ++ [e]) := by
  unfold nrmS
  refine srt2_perm_eq ?_
  rw [List.map_append, List.map_append]
  refine List.Perm.append_right _ ?_
  refine ((srt2_perm _).map nrm).trans (List.Perm.of_eq ?_)
  rw [List.map_map]
  exact List.map_congr_left fun e _ => nrm_nrm e
end
end TR

namespace TR
theorem tree_one : TreeL [(0, 1)] := tree_nil.push (x := 0) (Nat.le_refl _)
abbrev tr5 : List E2 := [(0, 1), (1, 2), (2, 3), (3, 4)]
theorem T5 : TreeL tr5 := ((tree_one.push (x := 1) (by decide)).push (x := 2) (by decide)).push (x := 3) (by decide)
theorem nrm5 : nrmS tr5 = tr5 := nrmS_sorted (by decide) (by decide)
theorem adj5 {a b : Nat} : Adj tr5 a b ↔ (a + 1 = b ∨ b + 1 = a) ∧ a ≤ 4 ∧ b ≤ 4 := by
  unfold Adj tr5
  simp only [List.mem_cons, Prod.mk.injEq, List.not_mem_nil, or_false]
  omega
theorem up5 : ∀ i, i + 1 ≤ 4 → dph tr5 i (i + 1) = i
  | 0, _ => by
    rcases dph_ex T5 (s := 0) (b := 1) (by decide) with h | ⟨w, hw, ne, _⟩
    · exact h
    · have := adj5.mp ((mem_nb T5.ne).mp hw)
      omega
  | i + 1, h => by
    have ih := up5 i (by omega)
    have l5 : tr5.length = 4 := rfl
    have hc := dph_child T5 (s := i + 1) (b := i + 2) (w := i) (by omega) ((mem_nb T5.ne).mpr (adj5.mpr (by omega))) (by omega)
    rcases dph_ex T5 (s := i + 1) (b := i + 2) (by omega) with h0 | ⟨w, hw, ne, e⟩
    · omega
    · have := adj5.mp ((mem_nb T5.ne).mp hw)
      have : w = i := by omega
      subst this
      show dph tr5 (w + 1) (w + 2) = w + 1
      omega
theorem dn5 : ∀ d i, i + d = 4 → 1 ≤ i → dph tr5 i (i - 1) = d
  | 0, i, h, h1 => by
    have l5 : tr5.length = 4 := rfl
    rcases dph_ex T5 (s := i) (b := i - 1) (by omega) with h | ⟨w, hw, ne, _⟩
    · exact h
    · have := adj5.mp ((mem_nb T5.ne).mp hw)
      omega
  | d + 1, i, h, h1 => by
    have ih := dn5 d (i + 1) (by omega) (by omega)
    rw [Nat.add_sub_cancel] at ih
    have l5 : tr5.length = 4 := rfl
    have hc := dph_child T5 (s := i) (b := i - 1) (w := i + 1) (by omega) ((mem_nb T5.ne).mpr (adj5.mpr (by omega))) (by omega)
    rcases dph_ex T5 (s := i) (b := i - 1) (by omega) with h0 | ⟨w, hw, ne, e⟩
    · omega
    · have := adj5.mp ((mem_nb T5.ne).mp hw)
      have : w = i + 1 := by omega
      subst this
      omega
theorem sw5a : SW tr5 0 3 [0, 1, 2, 3] := ⟨⟨adj5.mpr (by omega), adj5.mpr (by omega), adj5.mpr (by omega), trivial⟩, by decide, rfl, rfl⟩
theorem sw5b : SW tr5 4 1 [4, 3, 2, 1] := ⟨⟨adj5.mpr (by omega), adj5.mpr (by omega), adj5.mpr (by omega), trivial⟩, by decide, rfl, rfl⟩
theorem sw5c : SW tr5 0 2 [0, 1, 2] := ⟨⟨adj5.mpr (by omega), adj5.mpr (by omega), trivial⟩, by decide, rfl, rfl⟩
theorem sw5d : SW tr5 0 4 [0, 1, 2, 3, 4] := ⟨⟨adj5.mpr (by omega), adj5.mpr (by omega), adj5.mpr (by omega), adj5.mpr (by omega), trivial⟩, by decide, rfl, rfl⟩
theorem pg5a : Prg (nrB tr5 [0, 1, 2, 3]) (frB tr5 [0, 1, 2, 3]) 3 1 0 3 [(1, 3)] := by
  have a0 : nrB tr5 [0, 1, 2, 3] 0 = 0 := up5 0 (by omega)
  have a1 : nrB tr5 [0, 1, 2, 3] 1 = 1 := up5 1 (by omega)
  have b3 : frB tr5 [0, 1, 2, 3] 3 = 1 := dn5 1 3 (by omega) (by omega)
  have h := Prg.rear (nr := nrB tr5 [0, 1, 2, 3]) (fr := frB tr5 [0, 1, 2, 3]) (L := 3) (n := 0) (i := 0) (j := 3) (r := []) (by omega) (by omega) (by omega) (by omega) (by rw [b3]; show Prg _ _ 3 0 1 3 []; exact .fixed (by omega) (by omega) (by omega) (by omega))
  rw [b3] at h
  exact h
theorem pg5b : Prg (nrB tr5 [4, 3, 2, 1]) (frB tr5 [4, 3, 2, 1]) 3 1 0 3 [(1, 3)] := by
  have a0 : nrB tr5 [4, 3, 2, 1] 0 = 0 := dn5 0 4 (by omega) (by omega)
  have a1 : nrB tr5 [4, 3, 2, 1] 1 = 1 := dn5 1 3 (by omega) (by omega)
  have b3 : frB tr5 [4, 3, 2, 1] 3 = 1 := up5 1 (by omega)
  have h := Prg.rear (nr := nrB tr5 [4, 3, 2, 1]) (fr := frB tr5 [4, 3, 2, 1]) (L := 3) (n := 0) (i := 0) (j := 3) (r := []) (by omega) (by omega) (by omega) (by omega) (by rw [b3]; show Prg _ _ 3 0 1 3 []; exact .fixed (by omega) (by omega) (by omega) (by omega))
  rw [b3] at h
  exact h
theorem pg5c : Prg (nrB tr5 [0, 1, 2]) (frB tr5 [0, 1, 2]) 2 0 0 2 [] := by
  have b2 : frB tr5 [0, 1, 2] 2 = 2 := dn5 2 2 (by omega) (by omega)
  exact .loose (.inr (by omega))
theorem fx5d : Prg (nrB tr5 [0, 1, 2, 3, 4]) (frB tr5 [0, 1, 2, 3, 4]) 4 0 0 4 [] ∧ Fx (nrB tr5 [0, 1, 2, 3, 4]) (frB tr5 [0, 1, 2, 3, 4]) 4 0 4 ∧ StI (nrB tr5 [0, 1, 2, 3, 4]) (frB tr5 [0, 1, 2, 3, 4]) 4 0 4 := by
  have a0 : nrB tr5 [0, 1, 2, 3, 4] 0 = 0 := up5 0 (by omega)
  have b4 : frB tr5 [0, 1, 2, 3, 4] 4 = 0 := dn5 0 4 (by omega) (by omega)
  exact ⟨.fixed (by omega) (by omega) (by omega) (by omega), ⟨by omega, by omega, by omega, by omega⟩, ⟨by omega, by omega, by omega, by omega⟩⟩
end TR

namespace TR
open PySem PySem.Spec PyProof.Rows L2 L2.TT StX ClX
theorem prs_two {H : Hp} {p q : Addr} {a b c d : Nat} (hp : H p = some (.tup [iv a, iv b])) (hq : H q = some (.tup [iv c, iv d])) : Prs H [p, q] [(a, b), (c, d)] := by
  refine ⟨rfl, fun i x e h1 h2 => ?_⟩
  match i with
  | 0 => cases h1; cases h2; exact hp
  | 1 => cases h1; cases h2; exact hq
  | i + 2 => cases h1
theorem prs_one {H : Hp} {p : Addr} {a b : Nat} (hp : H p = some (.tup [iv a, iv b])) : Prs H [p] [(a, b)] := by
  refine ⟨rfl, fun i x e h1 h2 => ?_⟩
  match i with
  | 0 => cases h1; cases h2; exact hp
  | i + 1 => cases h1
theorem shaped_prT {l : List E2} (h : ∀ e ∈ l, e.1 ≤ 999 ∧ e.2 ≤ 999) : SeqAt.shaped (.tuple (l.map dpr)) = true := by
  have S := shwP_of h
  unfold SeqAt.shaped
  rw [Bool.and_eq_true]
  have := S.dp
  exact ⟨S.cl, decide_eq_true (by show PyData.depthAll (l.map dpr) + 1 ≤ 64; omega)⟩
theorem trk_readB {K : PySem.W.Frag} {σ : L2.St} {H : Hp} {Q : VK} {a : Addr} {ps : List Addr} {tr : List E2} (h3 : σ[3]? = some (some (.ref a))) (ha : H a = some (.tup (ps.map V.ref))) (hP : Prs H ps tr) (T : TreeL tr) (hl : tr.length ≤ 99)
    (k : ∀ (a' : Addr) (ps' : List Addr) (tr' : List E2) (H' : Hp), Same H H' → H' a' = some (.tup (ps'.map V.ref)) → Prs H' ps' tr' → TreeL tr' → tr'.length ≤ 99 → 1 ≤ tr'.length → tr'.length ≤ max 1 tr.length → Q (.ref a') H') :
    tIf (tTest (tOp (rEqD K) (tVar 3) (tTup tNil))) (tTup (tCons (tTup (tCons (tC (V.int 0)) (tCons (tC (V.int 1)) tNil))) tNil)) (tVar 3) σ H Q := by
  have two : (2 : Nat) ≤ sizeLine := by rw [sizeLine_eq]; decide
  have one : (1 : Nat) ≤ sizeLine := by rw [sizeLine_eq]; decide
  have le9 : ∀ e ∈ tr, e.1 ≤ 999 ∧ e.2 ≤ 999 := fun e he => by
    have := T.le e he
    omega
  refine ⟨_, h3, Nat.zero_le _, fun e ne => ?_⟩
  have se := same_upd ne (.tup [])
  refine ⟨.tuple (tr.map dpr), .tuple [], .tup (SqT.of (se _ _ ha)) (dpAll_prs (hP.same se)), .tup (SqT.of upd_same) .nil, shaped_prT le9, rfl, _, rfl, ?_⟩
  cases tr with
  | nil =>
    refine iteT ?_
    refine ⟨two, fun q nq => ⟨one, fun u nu => ?_⟩⟩
    have sq := se.trans (same_upd nq (.tup [V.int 0, V.int 1]))
    have su := same_upd nu (.tup [V.ref q])
    exact k u [q] [(0, 1)] _ (sq.trans su) upd_same (prs_one (su _ _ upd_same)) tree_one (by decide) (by decide) (by decide)
  | cons e0 r0 =>
    refine iteF ?_
    exact ⟨_, h3, k a ps (e0 :: r0) _ se (se _ _ ha) (hP.same se) T hl (Nat.succ_le_succ (Nat.zero_le _)) (Nat.le_max_right _ _)⟩

theorem trk_read {K : PySem.W.Frag} {σ : L2.St} {H : Hp} {Q : VK} {a : Addr} {ps : List Addr} {tr : List E2} (h3 : σ[3]? = some (some (.ref a))) (ha : H a = some (.tup (ps.map V.ref))) (hP : Prs H ps tr) (T : TreeL tr) (hl : tr.length ≤ 99)
    (k : ∀ (a' : Addr) (ps' : List Addr) (tr' : List E2) (H' : Hp), Same H H' → H' a' = some (.tup (ps'.map V.ref)) → Prs H' ps' tr' → TreeL tr' → tr'.length ≤ 99 → 1 ≤ tr'.length → Q (.ref a') H') :
    tIf (tTest (tOp (rEqD K) (tVar 3) (tTup tNil))) (tTup (tCons (tTup (tCons (tC (V.int 0)) (tCons (tC (V.int 1)) tNil))) tNil)) (tVar 3) σ H Q :=
  trk_readB h3 ha hP T hl fun a' ps' tr' H' s h1 h2 h3 h4 h5 _ => k a' ps' tr' H' s h1 h2 h3 h4 h5
theorem trk_readN {K : PySem.W.Frag} {σ : L2.St} {H : Hp} {Q : VK} {a : Addr} {ps : List Addr} {tr : List E2} (h3 : σ[3]? = some (some (.ref a))) (ha : H a = some (.tup (ps.map V.ref))) (hP : Prs H ps tr) (T : TreeL tr) (hl : tr.length ≤ 99)
    (k : ∀ (a' : Addr) (ps' : List Addr) (tr' : List E2) (H' : Hp), Same H H' → H' a' = some (.tup (ps'.map V.ref)) → Prs H' ps' tr' → TreeL tr' → tr'.length ≤ 99 → 1 ≤ tr'.length → tr'.length ≤ max 1 tr.length → Q (.ref a') H') :
    tIf (tTest (tOp (rNeD K) (tVar 3) (tTup tNil))) (tVar 3) (tTup (tCons (tTup (tCons (tC (V.int 0)) (tCons (tC (V.int 1)) tNil))) tNil)) σ H Q := by
  have two : (2 : Nat) ≤ sizeLine := by rw [sizeLine_eq]; decide
  have one : (1 : Nat) ≤ sizeLine := by rw [sizeLine_eq]; decide
  have le9 : ∀ e ∈ tr, e.1 ≤ 999 ∧ e.2 ≤ 999 := fun e he => by
    have := T.le e he
    omega
  refine ⟨_, h3, Nat.zero_le _, fun e ne => ?_⟩
  have se := same_upd ne (.tup [])
  refine ⟨.tuple (tr.map dpr), .tuple [], .tup (SqT.of (se _ _ ha)) (dpAll_prs (hP.same se)), .tup (SqT.of upd_same) .nil, shaped_prT le9, rfl, _, rfl, ?_⟩
  cases tr with
  | nil =>
    refine iteF ?_
    refine ⟨two, fun q nq => ⟨one, fun u nu => ?_⟩⟩
    have sq := se.trans (same_upd nq (.tup [V.int 0, V.int 1]))
    have su := same_upd nu (.tup [V.ref q])
    exact k u [q] [(0, 1)] _ (sq.trans su) upd_same (prs_one (su _ _ upd_same)) tree_one (by decide) (by decide) (by decide)
  | cons e0 r0 =>
    refine iteT ?_
    exact ⟨_, h3, k a ps (e0 :: r0) _ se (se _ _ ha) (hP.same se) T hl (Nat.succ_le_succ (Nat.zero_le _)) (Nat.le_max_right _ _)⟩

end TR

namespace TR
open PySem PySem.Spec PyProof.Rows L2 L2.TT StX ClX
/-- a pair of stations as a key -/
def keyE (e : E2) : List Key := [Sum.inl (e.1 : Int), Sum.inl (e.2 : Int)]
theorem keyE_kV (e : E2) : (keyE e).map kV = [iv e.1, iv e.2] := rfl
theorem keyE_inj {a b : E2} (h : keyE a = keyE b) : a = b := by
  have h1 := congrArg (fun l => l[0]?) h
  have h2 := congrArg (fun l => l[1]?) h
  have e1 : (a.1 : Int) = (b.1 : Int) := Sum.inl.inj (Option.some.inj h1)
  have e2 : (a.2 : Int) = (b.2 : Int) := Sum.inl.inj (Option.some.inj h2)
  exact Prod.ext (by omega) (by omega)
theorem keys_nd {tr : List E2} (T : TreeL tr) {bs : List (List Nat)} (nd : bs.Nodup) (hb : ∀ m ∈ bs, Bd tr m) : (bs.map fun m => keyE (endsB m)).Nodup := by
  rw [List.nodup_iff_pairwise_ne, List.pairwise_map]
  exact (List.nodup_iff_pairwise_ne.mp nd).imp_of_mem fun {a b} ha hbb ne z => ne (ends_inj T (hb a ha) (hb b hbb) (keyE_inj z))
theorem Prs.dT {H : Hp} {ps : List Addr} {l : List E2} (h : Prs H ps l) {D : Addr} {ks ks' : List (List Key × V)} (hD : H D = some (.dT ks)) : Prs (upd H D (.dT ks')) ps l :=
  ⟨h.1, fun i p e hp he => by
    rw [upd_ne (ne_of (h.2 i p e hp he) hD (by intro z; cases z))]
    exact h.2 i p e hp he⟩
theorem prs_snoc {H : Hp} {ps : List Addr} {l : List E2} {p : Addr} {e : E2} (h : Prs H ps l) (hp : H p = some (.tup [iv e.1, iv e.2])) : Prs H (ps ++ [p]) (l ++ [e]) := by
  refine ⟨by rw [List.length_append, List.length_append, h.1]; rfl, fun i q d h1 h2 => ?_⟩
  rcases get_snoc h1 with h1 | ⟨e1, rfl⟩
  · rcases get_snoc h2 with h2 | ⟨e2, rfl⟩
    · exact h.2 i q d h1 h2
    · have := (List.getElem?_eq_some_iff.mp h1).1
      have := h.1
      omega
  · rcases get_snoc h2 with h2 | ⟨e2, rfl⟩
    · have := (List.getElem?_eq_some_iff.mp h2).1
      have := h.1
      omega
    · exact hp
end TR

namespace L2.TT
open PySem PySem.Spec PyProof.Rows
section
variable {prog : Program} {w : World} {A : Around}
/-- what max has found: nothing yet, or the greatest so far -/
def MxS (ns : List Int) (i : Nat) (arr : Array Value) : Prop := (i = 0 ∧ arr = #[]) ∨ (0 < i ∧ ∃ m t, arr = #[.int m t, .int m t] ∧ m ∈ ns.take i ∧ ∀ a ∈ ns.take i, a ≤ m)
def MxR (ns : List Int) (d v : Value) : Prop := (ns = [] ∧ v = d) ∨ ∃ m t, v = .int m t ∧ m ∈ ns ∧ ∀ a ∈ ns, a ≤ m
theorem ints_get : ∀ {us : List Value} {ns : List Int}, IntsAre us ns → ∀ {i : Nat} {n : Int}, ns[i]? = some n → ∃ t, us[i]? = some (.int n t)
  | _, _, .nil, _, _, e => by simp at e
  | _, _, .cons k t h, 0, n, e => by
    have z : k = n := Option.some.inj e
    exact ⟨t, by rw [z]; rfl⟩
  | _, _, .cons k t h, i + 1, n, e => by
    have q : _ = some n := e
    rw [List.getElem?_cons_succ] at q ⊢
    exact ints_get h q
theorem ints_length : ∀ {us : List Value} {ns : List Int}, IntsAre us ns → us.length = ns.length
  | _, _, .nil => rfl
  | _, _, .cons _ _ h => by rw [List.length_cons, List.length_cons, ints_length h]
theorem take_up {ns : List Int} {i : Nat} {n : Int} (e : ns[i]? = some n) : ns.take (i + 1) = ns.take i ++ [n] := by
  rw [List.take_succ, e]
  rfl
theorem maxd_loop {its : List Value} {ns : List Int} (hh : A.handled = none) (hi : IntsAre its ns) {l it S : Addr} {d : Value} {R : Result → Shared → Prop} (n1 : S ≠ it) (n2 : S ≠ l) (n3 : it ≠ l) :
    ∀ (r i : Nat) (s : Shared) (arr : Array Value) (c : Nat), i + r = ns.length → s.heap.IsListIter it l i → s.heap.IsList l its.toArray → s.heap.get? S = some { cls := .type "list", dict := none, data := .seq arr c, slots := #[] } → MxS ns i arr →
      (∀ v h' tk, MxR ns d v → (∀ b o, b ≠ it → b ≠ S → s.heap.get? b = some o → h'.get? b = some o) → R (.ok (.ret v)) { s with heap := h', toks := tk }) →
      codeAny (model prog w) A (.builtin "max.loop" ⟨[.ref it, .none, .ref S], [("default", d)]⟩) R s := by
  have nm : (toString "max" ++ toString ".loop" : String) = "max.loop" := by decide
  intro r
  induction r with
  | zero =>
    intro i s arr c hr st pl hS mx hR
    have ei : i = ns.length := by omega
    subst ei
    refine codeAny_builtin (b := Builtin.«max.loop») F.entry_max_loop ?_
    rw [Around.under_plainId (id := "max.loop") F.plain_max_loop _]
    show wpAny _ A.in1 (seqItems? (.ref S) >>= _) _ _ _
    refine wpAny_bind (wpAny_seqItems (a := S) hS rfl ?_)
    show wpAny _ A.in1 (tryCatch (pyNext (.ref it)) _ >>= _) _ _ _
    refine wpAny_bind (wpAny_tryCatch (wpAny_pyNext_list_end (A := A.in1) hh st pl (by simp [ints_length hi]) fun h' eb => ?_))
    rcases mx with ⟨h0, rfl⟩ | ⟨h0, m, t, rfl, hm, hg⟩
    · have e0 : ns = [] := List.length_eq_zero_iff.mp h0
      show wpAny _ _ (rule _ >>= fun _ => ret d) _ _ _
      exact wpAny_bind (wpAny_rule (wpAny_pure (hR d h' s.toks (.inl ⟨e0, rfl⟩) fun b o b1 _ q => eb b o b1 q)))
    · have hS2 : h'.get? S = some { cls := .type "list", dict := none, data := .seq #[.int m t, .int m t] c, slots := #[] } := eb S _ n1 hS
      rw [List.take_length] at hm hg
      show wpAny _ _ (updateSeq S (fun _ => (#[] : Array Value)) >>= fun _ => _) _ _ _
      refine wpAny_bind (wpAny_updateSeq hS2 rfl (wpAny_bind (wpAny_letGo (wpAny_pure (hR _ _ s.toks (.inr ⟨m, t, rfl, hm, hg⟩) fun b o b1 b2 q => ?_)))))
      exact (Heap.get?_update_other h' _ (Ne.symm b2)).trans (eb b o b1 q)
  | succ r ih =>
    intro i s arr c hr st pl hS mx hR
    obtain ⟨n, hn⟩ : ∃ n, ns[i]? = some n := ⟨_, List.getElem?_eq_getElem (by omega)⟩
    obtain ⟨t, ht⟩ := ints_get hi hn
    refine codeAny_builtin (b := Builtin.«max.loop») F.entry_max_loop ?_
    rw [Around.under_plainId (id := "max.loop") F.plain_max_loop _]
    show wpAny _ A.in1 (seqItems? (.ref S) >>= _) _ _ _
    refine wpAny_bind (wpAny_seqItems (a := S) hS rfl ?_)
    show wpAny _ A.in1 (tryCatch (pyNext (.ref it)) _ >>= _) _ _ _
    refine wpAny_bind (wpAny_tryCatch (wpAny_pyNext_list_item (A := A.in1) st pl (x := .int n t) (by simpa using ht) fun h' st2 sb => ?_))
    have hS2 := (sb.2 S n1).trans hS
    have pl2 : h'.IsList l its.toArray := by
      obtain ⟨o, q1, q2, c2, q3⟩ := pl
      exact ⟨o, (sb.2 l (Ne.symm n3)).trans q1, q2, c2, q3⟩
    have tk := take_up hn
    rcases mx with ⟨h0, rfl⟩ | ⟨h0, m, t0, rfl, hm, hg⟩
    · show wpAny _ _ (updateSeq S (fun _ => #[Value.int n t, Value.int n t]) >>= fun _ => _) _ _ _
      refine wpAny_bind (wpAny_updateSeq hS2 rfl ?_)
      rw [nm]
      refine wpAny_pure ⟨plainId_quiet F.plain_max_loop _, ih (i + 1) _ _ _ (by omega) (st2.at fun o e => (Heap.get?_update_other h' _ n1).trans e) ?_ (Heap.get?_update_self _ hS2 rfl) (.inr ⟨by omega, n, t, rfl, ?_, ?_⟩) fun v h2 tk2 hv k2 => hR v h2 tk2 hv fun b o b1 b2 q => ?_⟩
      · obtain ⟨o, q1, q2, c2, q3⟩ := pl2
        exact ⟨o, (Heap.get?_update_other h' _ n2).trans q1, q2, c2, q3⟩
      · rw [tk]; simp
      · rw [tk, h0]
        intro a ha
        simp at ha
        omega
      · exact k2 b o b1 b2 ((Heap.get?_update_other h' _ (Ne.symm b2)).trans ((sb.2 b b1).trans q))
    · have cmp : ∀ (s' : Shared) (Q : Value → Shared → Prop) (E : Value → Shared → Prop), Q (.bool (decide (n > m))) s' → wpAny (model prog w) A.in1 (richCompare .Gt (.int n t) (.int m t0)) Q E s' := fun s' Q E q =>
        CmpOf.ints_gt (P := fun k v => (k = 0 ∧ v = .int n t) ∨ (k = 1 ∧ v = .int m t0)) (fun k => if k = 0 then n else m) (fun k v h => by rcases h with ⟨rfl, rfl⟩ | ⟨rfl, rfl⟩ <;> exact ⟨_, rfl⟩) 0 1 _ _ s' Q E (.inl ⟨rfl, rfl⟩) (.inr ⟨rfl, rfl⟩) q
      show wpAny _ _ (tryCatch (holding [Value.int n t, Value.int n t] (richCompare .Gt (Value.int n t) (Value.int m t0) >>= _)) _ >>= fun _ => _) _ _ _
      refine wpAny_bind (wpAny_tryCatch (wpAny_holding (wpAny_bind (cmp _ _ _ (wpAny_bind (wpAny_holding (wpAny_truthy_bool (wpAny_bind (wpAny_letGo (wpAny_pure ?_))))))))))
      by_cases g : n > m
      · rw [decide_eq_true g, if_pos rfl]
        refine wpAny_bind (wpAny_updateSeq hS2 rfl (wpAny_bind (wpAny_letGo ?_)))
        rw [nm]
        refine wpAny_pure ⟨plainId_quiet F.plain_max_loop _, ih (i + 1) _ _ _ (by omega) (st2.at fun o e => (Heap.get?_update_other h' _ n1).trans e) ?_ (Heap.get?_update_self _ hS2 rfl) (.inr ⟨by omega, n, t, rfl, ?_, ?_⟩) fun v h2 tk2 hv k2 => hR v h2 tk2 hv fun b o b1 b2 q => ?_⟩
        · obtain ⟨o, q1, q2, c2, q3⟩ := pl2
          exact ⟨o, (Heap.get?_update_other h' _ n2).trans q1, q2, c2, q3⟩
        · rw [tk]; simp
        · rw [tk]
          intro a ha
          rcases List.mem_append.mp ha with q | q
          · have := hg a q
            omega
          · rw [List.mem_singleton.mp q]
            exact Int.le_refl _
        · exact k2 b o b1 b2 ((Heap.get?_update_other h' _ (Ne.symm b2)).trans ((sb.2 b b1).trans q))
      · rw [decide_eq_false g, if_neg Bool.false_ne_true]
        refine wpAny_bind (wpAny_letGo ?_)
        rw [nm]
        refine wpAny_pure ⟨plainId_quiet F.plain_max_loop _, ih (i + 1) _ _ c (by omega) st2 pl2 hS2 (.inr ⟨by omega, m, t0, rfl, ?_, ?_⟩) fun v h2 tk2 hv k2 => hR v h2 tk2 hv fun b o b1 b2 q => ?_⟩
        · rw [tk]; exact List.mem_append_left _ hm
        · rw [tk]
          intro a ha
          rcases List.mem_append.mp ha with q | q
          · exact hg a q
          · rw [List.mem_singleton.mp q]
            omega
        · exact k2 b o b1 b2 ((sb.2 b b1).trans q)
end
end L2.TT
namespace L2.TT
open PySem PySem.Spec PyProof.Rows
theorem args_maxd (a d : Value) : argsOk "max" ⟨[a], [("default", d)]⟩ := by unfold argsOk; kernel_rfl
theorem max_dflt {prog : Program} {w : World} {A : Around} {E : Value → Shared → Prop} {s : Shared} {its : List Value} {ns : List Int} {l : Addr} {d : Value} {Q : Value → Shared → Prop} (hh : A.handled = none) (hi : IntsAre its ns) (hl : s.heap.IsList l its.toArray)
    (h : ∀ v h' tk, MxR ns d v → (∀ b o, s.heap.get? b = some o → h'.get? b = some o) → Q v { s with heap := h', toks := tk }) : wpAny (model prog w) A (call (.builtin "max") [.ref l] [("default", d)]) Q E s := by
  have nm : (toString "max" ++ toString ".loop" : String) = "max.loop" := by decide
  have main : wpAny (model prog w) A.in1 (Builtin.«max» ⟨[.ref l], [("default", d)]⟩) (fun fin s' => match fin with
      | .done f => (match (Except.ok f : Result) with | .ok (.ret v) => Q v s' | .ok _ => False | .error e => E e s')
      | .again c' => c'.quiet = true ∧ codeAny (model prog w) A c' (fun r s' => match r with | .ok (.ret v) => Q v s' | .ok _ => False | .error e => E e s') s') E s := by
    show wpAny _ A.in1 (Builtin.Builtins.bindParams "max" ["key", "default"] 0 ⟨[], [("default", d)]⟩ >>= _) _ _ s
    refine wpAny_bind (wpAny_of_eq (a := [none, some d]) rfl (wpAny_bind (wpAny_pure ?_)))
    refine wpAny_bind (wpAny_pyIter_list hl (wpAny_bind (wpAny_newObj_type ?_)))
    rw [nm]
    have k1 : ∀ (o1 o2 : Obj) b o, s.heap.get? b = some o → ((s.heap.push o1).push o2).get? b = some o := fun o1 o2 b o e => Heap.get?_push_of_some _ (Heap.get?_push_of_some _ e)
    have ll : l < s.heap.objs.size := by
      obtain ⟨o, e, _⟩ := hl
      exact Heap.lt_size e
    refine wpAny_pure ⟨plainId_quiet F.plain_max_loop _, maxd_loop (A := A) hh hi (l := l) (it := s.heap.objs.size) ?_ ?_ ?_ ns.length 0 _ #[] 0 (by omega) ⟨_, Heap.get?_push_of_some _ (Heap.get?_push_size _ rfl), rfl, rfl⟩ ?_ (Heap.get?_push_size _ rfl) (.inl ⟨rfl, rfl⟩) fun v h' tk hv k2 => ?_⟩
    · show (s.heap.push _).objs.size ≠ s.heap.objs.size
      rw [Heap.size_push]
      exact Nat.succ_ne_self _
    · show (s.heap.push _).objs.size ≠ l
      rw [Heap.size_push]
      exact Nat.ne_of_gt (Nat.lt_succ_of_lt ll)
    · exact Nat.ne_of_gt ll
    · obtain ⟨o, q1, q2, c2, q3⟩ := hl
      exact ⟨o, k1 _ _ _ _ q1, q2, c2, q3⟩
    · refine h v h' tk hv fun b o e => k2 b o (Nat.ne_of_lt (Heap.lt_size e)) ?_ (k1 _ _ _ _ e)
      have := Heap.lt_size e
      show b ≠ (s.heap.push _).objs.size
      rw [Heap.size_push]
      exact Nat.ne_of_lt (Nat.lt_succ_of_lt this)
  refine wpAny_call (codeAny_call_builtin (id := "max") F.plain_max F.entry_max ?_)
  simp only [checkBuiltinCall, F.kind_max]
  cases hs : Manifest.signature? "max" with
  | none => exact wpAny_pure main
  | some sg =>
    have hc : Bind.checkArgs "max" sg ⟨[.ref l], [("default", d)]⟩ = pure () := by
      have q := args_maxd (.ref l) d
      simpa only [argsOk, hs] using q
    simp only [hc]
    exact wpAny_pure main
section
variable {X : Cx}
/-- max(xs, default=d), d an int -/
def rMaxD (K : PySem.W.Frag) : List V → List V → Hp → VK → Prop := fun vs zs H Q => ∃ (a : Addr) (ns : List Int) (d : Int), vs = [V.ref a] ∧ zs = [.int d] ∧ SqL K H a (ns.map V.int) ∧ ∀ m, (ns = [] ∧ m = d) ∨ (m ∈ ns ∧ ∀ y ∈ ns, y ≤ m) → Q (.int m) H
theorem cr_maxDf {K : PySem.W.Frag} (hk : X.K = K) (hc : X.calm = true) : CallRK X (.builtin "max") [Str.ofString "default"] (rMaxD K) := by
  subst hk
  intro pins s σ H vs zs us ws Q I r rz h
  obtain ⟨a, ns, d, rfl, rfl, hs, q⟩ := h
  obtain ⟨its, rv, hl, _⟩ := I.list hs
  rw [Vals.ref1 r]
  obtain ⟨dv, rfl, t, rfl⟩ := vals1 rz
  refine max_dflt (I.ok.hd hc) rv.ints hl.isList fun v h' tk hv hk => ?_
  rcases hv with ⟨e, rfl⟩ | ⟨m, t2, rfl, h1, h2⟩
  · exact ⟨.int d, H, I.kept hk, ⟨t, rfl⟩, q d (.inl ⟨e, rfl⟩)⟩
  · exact ⟨.int m, H, I.kept hk, ⟨t2, rfl⟩, q m (.inr ⟨h1, h2⟩)⟩
end
end L2.TT

namespace L2.TT
open PySem PySem.Spec PyProof.Rows SrtO
section
variable {prog : Program} {w : World} {A : Around} {E : Value → Shared → Prop} {s : Shared}
theorem gather_tup {l : Addr} {vs : List Value} {Q : List Value → Shared → Prop} (hl : IsTup s.heap l vs.toArray) (hsz : vs.length ≤ sizeLine)
    (h : Q vs { s with heap := (s.heap.push (seqObj "list" #[] 0)).update s.heap.objs.size (Obj.mapSeq (· ++ vs.toArray)) }) : wpAny (model prog w) A (collect (.ref l)) Q E s := by
  obtain ⟨o, ho, hc, n, hd⟩ := hl
  have hp := Heap.get?_push_size s.heap (o := seqObj "list" #[] 0) rfl
  have ho2 : (s.heap.push (seqObj "list" #[] 0)).get? l = some o := Heap.get?_push_of_some _ ho
  unfold collect
  refine wpAny_bind (wpAny_runValue (codeAny_builtin entry_proto_collect' ?_))
  refine wpAny_bind (m := newList []) (wpAny_newList (wpAny_pure ⟨Code.quiet_builtin _ (by decide +kernel), codeAny_builtin entry_list_iadd' ?_⟩))
  show wpAny _ _ (Builtin.List.listExtendWith (.ref s.heap.objs.size) (.ref l) (.ref s.heap.objs.size)) _ _ { s with heap := s.heap.push (seqObj "list" #[] 0) }
  unfold Builtin.List.listExtendWith
  refine wpAny_bind (wpAny_typeOf (T := "tuple") ⟨o, ho2, hc⟩ ?_)
  rw [if_pos (by rw [show (Value.type "tuple" == Value.type "tuple") = true from by rfl, Bool.or_true])]
  refine wpAny_bind (listItems_at ho2 hd ?_)
  refine wpAny_bind (listItems_at (xs := #[]) (n := 0) hp rfl ?_)
  rw [if_neg (by simp)]
  refine wpAny_bind (listUpdate_at (xs := #[]) (n := 0) hp rfl ?_ (Nat.zero_le _) (by show (#[] ++ vs.toArray).size ≤ sizeLine + 1; simp only [Array.size_append, List.size_toArray, List.length_nil]; omega))
  refine wpAny_pure ?_
  show wpAny (model prog w) A (do
    let o ← load s.heap.objs.size
    match o.data with
    | .seq xs _ => pure xs.toList
    | _ => unsupported "internal:collect") Q E _
  refine wpAny_bind (wpAny_load (get?_update_seq hp _) ?_)
  show wpAny _ _ (pure ((#[] : Array Value) ++ vs.toArray).toList) Q E _
  rw [show ((#[] : Array Value) ++ vs.toArray).toList = vs by simp]
  exact wpAny_pure h
theorem sort_tup {l : Addr} {vs : List Value} {ltv : Value → Value → Bool} {Q : Value → Shared → Prop} (O : Swo ltv) (hl : IsTup s.heap l vs.toArray) (hz : vs.length ≤ sizeLine)
    (hS : 2 ≤ vs.length → ∀ (g : Heap) (a : Addr), g.get? a = some (seqObj "list" vs.toArray 0) → (∀ b o, s.heap.get? b = some o → b ≠ a ∧ g.get? b = some o) → SortableO prog w A.in1.in1 { s with heap := g } a vs ltv)
    (h : ∀ out : List Value, Srtd ltv out → Stb ltv out vs → Q (.ref (s.heap.objs.size + 1)) { s with heap := sortedAll s.heap vs out.toArray }) : wpAny (model prog w) A (call (.builtin "sorted") [.ref l]) Q E s := by
  refine Calls.call_function_entry kind_sorted plain_sorted entry_sorted (args_sorted1 _) ?_
  unfold Builtin.«sorted»
  refine wpAny_bind (m := checkCount "sorted" 1 1 _) (wpAny_pure ?_)
  refine wpAny_bind (gather_tup hl hz ?_)
  refine wpAny_bind (wpAny_newList ?_ hz)
  obtain ⟨g, hg⟩ : ∃ g, g = (s.heap.push (seqObj "list" #[] 0)).update s.heap.objs.size (Obj.mapSeq (· ++ vs.toArray)) := ⟨_, rfl⟩
  have sz : g.objs.size = s.heap.objs.size + 1 := by rw [hg, Heap.size_update, size_push']
  have old : ∀ b o, s.heap.get? b = some o → b ≠ s.heap.objs.size + 1 ∧ (g.push (seqObj "list" vs.toArray 0)).get? b = some o := fun b o q => by
    have lt : b < s.heap.objs.size := Heap.lt_size q
    refine ⟨Nat.ne_of_lt (Nat.lt_succ_of_lt lt), Heap.get?_push_of_some _ ?_⟩
    rw [hg, Heap.get?_update_ne _ _ _ _ (Nat.ne_of_lt lt)]
    exact Heap.get?_push_of_some _ q
  have new : (g.push (seqObj "list" vs.toArray 0)).get? (s.heap.objs.size + 1) = some (seqObj "list" vs.toArray 0) := by
    rw [← sz]
    exact Heap.get?_push_size _ rfl
  have h2 : ∀ out : List Value, Srtd ltv out → Stb ltv out vs → Q (.ref (s.heap.objs.size + 1)) { s with heap := sortedHeap (g.push (seqObj "list" vs.toArray 0)) (s.heap.objs.size + 1) vs out.toArray } := fun out a b => by
    rw [hg]
    exact h out a b
  rw [← hg]
  show wpAny _ _ _ _ _ { s with heap := g.push (seqObj "list" vs.toArray 0) }
  rw [sz]
  refine wpAny_bind (wpAny_holding (wpAny_call_entry slot_list_sort ⟨_, new, rfl⟩ entry_list_sort (list_sort_ord O new hz (fun q => hS q _ _ new old) fun out hs hb => ⟨_, rfl, ?_⟩) (args_list_sort _)))
  exact wpAny_pure ⟨_, rfl, h2 out hs hb⟩
end
/-- sorted(t), t a tuple of ints -/
def rSortedTI (K : PySem.W.Frag) : List V → Hp → VK → Prop := fun vs H Q => ∃ (a : Addr) (ns : List Int), vs = [V.ref a] ∧ SqT K H a (ns.map V.int) ∧ ∀ (ms : List Int) (p : Addr), ms.Perm ns → ms.Pairwise (· ≤ ·) → H p = none → Q (.ref p) (upd H p (.lst (ms.map V.int)))
theorem cr_sortedTI {X : Cx} : CallR X (.builtin "sorted") (rSortedTI X.K) := by
  intro pins s σ H vs us Q I r h
  obtain ⟨a, ns, rfl, hs, q⟩ := h
  obtain ⟨its, rv, hl, hz⟩ := I.tuple hs
  rw [Vals.ref1 r]
  have hi := rv.ints
  refine sort_tup swo_int hl (by rw [← rv.length]; exact hz) (fun n2 g b _ _ => ints_sortable hi n2) fun out o1 o2 => ?_
  obtain ⟨i1, i2, i3⟩ := ints_out hi o1 o2
  obtain ⟨ep, at_⟩ := sortedAll_at s.heap its out.toArray
  have fit : ((out.map iv).map V.int).length ≤ sizeLine := by
    rw [List.length_map] at hz ⊢
    rw [i2.length_eq]
    exact hz
  have J := I.laid (t' := s.toks) (a := s.heap.objs.size + 1) (o := .lst ((out.map iv).map V.int)) (fun _ _ => sortedAll_old) (Nat.le_succ _) ⟨fit, out, ep, vals_of_ints i1, at_⟩
  exact ⟨.ref _, _, J, rfl, q _ _ i2 i3 (I.hok.fresh (Nat.le_succ _))⟩
theorem sti_K {X : Cx} {K : PySem.W.Frag} (h : X.K = K) : CallR X (.builtin "sorted") (rSortedTI K) := by
  subst h
  exact cr_sortedTI
end L2.TT

namespace L2.TT
open PySem PySem.Spec PyProof.Rows SrtO
section
variable {prog : Program} {w : World} {A : Around} {E : Value → Shared → Prop} {s : Shared}
theorem sort_tup_pairs {l : Addr} {vs : List Value} {k : Value → Int × Int} {Q : Value → Shared → Prop} (hl : IsTup s.heap l vs.toArray) (hz : vs.length ≤ sizeLine) (hp : ∀ v ∈ vs, Srt.IsPair s.heap v (k v).1 (k v).2)
    (h : ∀ (h' : Heap) (d : Addr) (out : List Value), Srtd (fun v u => lexB (k v) (k u)) out → Stb (fun v u => lexB (k v) (k u)) out vs → (∀ b o, s.heap.get? b = some o → h'.get? b = some o) → s.heap.objs.size ≤ d → (∃ n, h'.get? d = some (seqObj "list" out.toArray n)) → Q (.ref d) { s with heap := h' }) :
    wpAny (model prog w) A (call (.builtin "sorted") [.ref l]) Q E s := by
  refine sort_tup (swo_lex k) hl hz (fun h2 h₁ a ha kk => ?_) fun out hs hb => ?_
  · refine pairs_sortableO (s := { s with heap := h₁ }) (by omega) (fun v hm => (hp v hm).keeps fun b o e _ => (kk b o e).2) fun o e => ?_
    have e' : some o = some (seqObj "list" vs.toArray 0) := e.symm.trans ha
    cases e'
    intro c
    exact absurd (Value.type.inj c) (by decide)
  · exact h _ _ out hs hb (fun b o e => sortedAll_old e) (Nat.le_succ _) (sortedAll_at s.heap vs out.toArray)
end
/-- sorted(t), t a tuple of pairs of ints -/
def rSortedPT (K : PySem.W.Frag) : List V → Hp → VK → Prop := fun vs H Q => ∃ (a : Addr) (xs : List V) (k : V → Int × Int), vs = [V.ref a] ∧ SqT K H a xs ∧ (∀ x ∈ xs, ∃ t, x = V.ref t ∧ H t = some (.tup [.int (k x).1, .int (k x).2])) ∧
  ∀ ys p, SrtO.Srtd (ltP k) ys → SrtO.Stb (ltP k) ys xs → H p = none → Q (.ref p) (upd H p (.lst ys))
theorem cr_sortedPT {X : Cx} : CallR X (.builtin "sorted") (rSortedPT X.K) := by
  intro pins s σ H vs us Q I r h
  obtain ⟨a, xs, k, rfl, hs, hx, q⟩ := h
  obtain ⟨its, rv, hl, hz⟩ := I.tuple hs
  obtain ⟨u, rfl, ru⟩ := vals1 r
  obtain rfl : u = Value.ref a := ru
  obtain ⟨e1, e2⟩ := refs_back rv fun x m => by
    obtain ⟨t, e, _⟩ := hx x m
    exact ⟨t, e⟩
  refine sort_tup_pairs (k := fun u => k (backV u)) hl (by rw [← rv.length]; exact hz) (fun v hv => ?_) fun h' d out h1 h2 kp hd hn => ?_
  · obtain ⟨t, rfl⟩ := e2 v hv
    have hm : V.ref t ∈ xs := by rw [e1]; exact List.mem_map.mpr ⟨_, hv, rfl⟩
    obtain ⟨t', e, ht⟩ := hx _ hm
    cases e
    obtain ⟨_, its2, r2, o, ho, hc, n, hd⟩ := I.hok _ _ ht
    obtain ⟨u1, u2, rfl, ri, rj⟩ := vals2 r2
    obtain ⟨t1, rfl⟩ := ri
    obtain ⟨t2, rfl⟩ := rj
    exact ⟨t, o, t1, t2, n, rfl, ho, hc, hd⟩
  · have h3 : ∀ u ∈ out, ∃ a, u = Value.ref a := fun u hu => e2 u (h2.perm.mem_iff.mp hu)
    obtain ⟨n, hn⟩ := hn
    have hb : SrtO.Stb (ltP k) (out.map backV) xs := by
      rw [e1]
      exact SrtO.Stb.map (ltP_swo k) backV h2
    refine ⟨.ref d, upd H d (.lst (out.map backV)), I.laid (t' := s.toks) kp hd ⟨?_, out, n, vals_back h3, hn⟩, rfl, q _ d (SrtO.srtd_map h1) hb (I.hok.fresh hd)⟩
    rw [hb.len]
    exact hz
end L2.TT

namespace L2.TT
open PySem PySem.Spec PyProof.Rows SrtO
/-- sorted(d), d a dict whose keys are pairs of ints -/
def rSortedDT : List V → Hp → VK → Prop := fun vs H Q => ∃ (a : Addr) (kvs : List (List Key × V)), vs = [V.ref a] ∧ Rd H a (.dT kvs) ∧ ∀ bs, IsKeys H kvs bs → ∃ k : V → Int × Int, (∀ x ∈ bs.map V.ref, ∃ t, x = V.ref t ∧ H t = some (.tup [.int (k x).1, .int (k x).2])) ∧
  ∀ ys p, SrtO.Srtd (ltP k) ys → SrtO.Stb (ltP k) ys (bs.map V.ref) → H p = none → Q (.ref p) (upd H p (.lst ys))
theorem cr_sortedDT {X : Cx} (hc : X.calm = true) : CallR X (.builtin "sorted") rSortedDT := by
  intro pins s σ H vs us Q I r h
  obtain ⟨a, kvs, rfl, hR, q⟩ := h
  obtain ⟨u, rfl, ru⟩ := vals1 r
  obtain rfl : u = Value.ref a := ru
  obtain ⟨hlen, hd, xs, rel, o, es, ep, ho, ex, hdd, he, his, hn⟩ := dt_rd I.hok hR
  obtain ⟨k, hx, q⟩ := q (xs.map fun x => x.2.1) (isKeys_of rel)
  have lx : kvs.length = xs.length := rel.length
  have les := size_of_entries he
  refine Calls.call_function_entry kind_sorted plain_sorted entry_sorted (args_sorted1 _) ?_
  unfold Builtin.«sorted»
  refine wpAny_bind (m := checkCount "sorted" 1 1 _) (wpAny_pure ?_)
  refine wpAny_bind (W.kdu_collect (kdl_raw hd ex hdd) (I.ok.hd hc) ho (by omega) fun h' tk acc kp items => ?_)
  have eacc : acc.toList = (xs.map fun x => x.2.1).map Value.ref := by
    refine List.ext_getElem? fun j => ?_
    rw [Array.getElem?_toList, List.getElem?_map, List.getElem?_map]
    cases hj : acc[j]? with
    | some v =>
      obtain ⟨en, h1, h2⟩ := items.2 j v hj
      rw [entry_at he j] at h1
      obtain ⟨x, h3, h4⟩ := Option.map_eq_some_iff.mp h1
      rw [h3, h2, ← h4]
      rfl
    | none =>
      have l1 := Array.getElem?_eq_none_iff.mp hj
      have l2 := items.1
      rw [List.getElem?_eq_none (by omega)]
      rfl
  rw [eacc]
  generalize hbs : xs.map (fun x => x.2.1) = bs at hx q
  have bl : bs.length = xs.length := by rw [← hbs, List.length_map]
  have hz : (bs.map Value.ref).length ≤ sizeLine := by rw [List.length_map]; omega
  refine wpAny_bind (wpAny_newList ?_ hz)
  have I1 : Inv X pins σ H { heap := h', gens := s.gens, drawn := s.drawn, toks := tk, os := s.os } := I.kept kp
  have new : (h'.push (seqObj "list" (bs.map Value.ref).toArray 0)).get? h'.objs.size = some (seqObj "list" (bs.map Value.ref).toArray 0) := Heap.get?_push_size _ rfl
  have old : ∀ b o, h'.get? b = some o → b ≠ h'.objs.size ∧ (h'.push (seqObj "list" (bs.map Value.ref).toArray 0)).get? b = some o := fun b o q => ⟨Nat.ne_of_lt (Heap.lt_size q), Heap.get?_push_of_some _ q⟩
  have pr : ∀ v ∈ bs.map Value.ref, Srt.IsPair h' v (k (backV v)).1 (k (backV v)).2 := fun v hv => by
    obtain ⟨b, hb, rfl⟩ := List.mem_map.mp hv
    obtain ⟨t', e, ht⟩ := hx (V.ref b) (List.mem_map.mpr ⟨b, hb, rfl⟩)
    cases e
    obtain ⟨_, its2, r2, o, ho, hc, n, hd⟩ := I1.hok _ _ ht
    obtain ⟨u1, u2, rfl, ri, rj⟩ := vals2 r2
    obtain ⟨t1, rfl⟩ := ri
    obtain ⟨t2, rfl⟩ := rj
    exact ⟨b, o, t1, t2, n, rfl, ho, hc, hd⟩
  refine wpAny_bind (wpAny_holding (wpAny_call_entry slot_list_sort ⟨_, new, rfl⟩ entry_list_sort (list_sort_ord (swo_lex fun u => k (backV u)) new hz (fun h2 => ?_) fun out hs hb => ⟨_, rfl, ?_⟩) (args_list_sort _)))
  · refine pairs_sortableO (by omega) (fun v hm => (pr v hm).keeps fun b o e _ => (old b o e).2) fun o e => ?_
    have e' : some o = some (seqObj "list" (bs.map Value.ref).toArray 0) := e.symm.trans new
    cases e'
    intro c
    exact absurd (Value.type.inj c) (by decide)
  · have h3 : ∀ u ∈ out, ∃ a, u = Value.ref a := fun u hu => by
      obtain ⟨b, _, e⟩ := List.mem_map.mp (hb.perm.mem_iff.mp hu)
      exact ⟨b, e.symm⟩
    have ebv : (bs.map Value.ref).map backV = bs.map V.ref := by rw [List.map_map]; rfl
    have hb2 : SrtO.Stb (ltP k) (out.map backV) (bs.map V.ref) := by
      rw [← ebv]
      exact SrtO.Stb.map (ltP_swo k) backV hb
    obtain ⟨n, hnn⟩ := sortedHeap_at (vs := bs.map Value.ref) (out := out.toArray) new
    have kp2 : ∀ b o, h'.get? b = some o → (sortedHeap (h'.push (seqObj "list" (bs.map Value.ref).toArray 0)) h'.objs.size (bs.map Value.ref) out.toArray).get? b = some o := fun b o e => by
      rw [sortedHeap_old (old b o e).1 (by rw [size_push']; exact Nat.lt_succ_of_lt (Heap.lt_size e))]
      exact (old b o e).2
    have fr := I1.hok.fresh (Nat.le_refl h'.objs.size)
    refine wpAny_pure ⟨_, rfl, ?_⟩
    refine ⟨.ref h'.objs.size, upd H h'.objs.size (.lst (out.map backV)), I1.laid (t' := tk) kp2 (Nat.le_refl _) ⟨?_, out, n, vals_back h3, hnn⟩, rfl, q _ _ (SrtO.srtd_map hs) hb2 fr⟩
    rw [hb2.len, List.length_map]
    omega
end L2.TT

namespace TR
open PySem PySem.Spec PyProof.Rows L2 L2.TT StX ClX
/-- the entry of a pair -/
noncomputable def entD (tr : List E2) (e : E2) : E2 := (dst tr e.1 e.2, dph tr e.1 (stp tr e.1 e.2))
/-- a dict of pairs with their entries -/
structure Tbl (H : Hp) (d : Addr) (tr : List E2) (kvs : List (List Key × V)) (es : List E2) : Prop where
  at_ : H d = some (.dT kvs)
  keys : kvs.map (·.1) = es.map keyE
  nd : es.Nodup
  vals : ∀ e ∈ es, ∃ p, valV kvs (keyE e) = some (.ref p) ∧ H p = some (.tup [iv (entD tr e).1, iv (entD tr e).2])
theorem Tbl.same {H H' : Hp} {d : Addr} {tr : List E2} {kvs : List (List Key × V)} {es : List E2} (t : Tbl H d tr kvs es) (s : Same H H') : Tbl H' d tr kvs es :=
  ⟨s _ _ t.at_, t.keys, t.nd, fun e he => let ⟨p, h1, h2⟩ := t.vals e he; ⟨p, h1, s _ _ h2⟩⟩
/-- the table with the pairs of P -/
def TbS (tr : List E2) (d : Addr) (H : Hp) (P : E2 → Prop) : Prop := ∃ kvs es, Tbl H d tr kvs es ∧ (∀ e ∈ es, okE tr e) ∧ ∀ e, e ∈ es ↔ P e
theorem TbS.same {tr : List E2} {d : Addr} {H H' : Hp} {P : E2 → Prop} (t : TbS tr d H P) (s : Same H H') : TbS tr d H' P := by
  obtain ⟨kvs, es, h1, h2, h3⟩ := t
  exact ⟨kvs, es, h1.same s, h2, h3⟩
theorem TbS.iff {tr : List E2} {d : Addr} {H : Hp} {P Q : E2 → Prop} (t : TbS tr d H P) (h : ∀ e, P e ↔ Q e) : TbS tr d H Q := by
  obtain ⟨kvs, es, h1, h2, h3⟩ := t
  exact ⟨kvs, es, h1, h2, fun e => (h3 e).trans (h e)⟩
theorem TbS.own {tr : List E2} {d : Addr} {H : Hp} {P : E2 → Prop} (t : TbS tr d H P) : ∃ kvs, H d = some (.dT kvs) := let ⟨kvs, _, h1, _⟩ := t; ⟨kvs, h1.at_⟩
theorem TbS.put {tr : List E2} {d kp vp : Addr} {H : Hp} {P : E2 → Prop} {e : E2} (t : TbS tr d H P) (few : tr.length ≤ 50) (hn : ¬ P e) (ok : okE tr e) (hk : H kp = some (.tup [iv e.1, iv e.2])) (hv : H vp = some (.tup [iv (entD tr e).1, iv (entD tr e).2])) :
    ∃ H', DPut H d (.ref kp) (.ref vp) H' ∧ TbS tr d H' (fun e' => P e' ∨ e' = e) ∧ ∀ b o, H b = some o → b ≠ d → H' b = some o := by
  obtain ⟨kvs, es, h1, h2, h3⟩ := t
  have ne : e ∉ es := fun z => hn ((h3 e).mp z)
  have kn : keyE e ∉ kvs.map (·.1) := by
    rw [h1.keys]
    intro z
    obtain ⟨e2, he2, q⟩ := List.mem_map.mp z
    rw [← keyE_inj q] at ne
    exact ne he2
  have vn := valV_none kn
  have l1 := prs_le (n := tr.length) h1.nd (fun e he => ⟨(h2 e he).1, (h2 e he).2.1⟩)
  have l2 : kvs.length = es.length := by
    have := congrArg List.length h1.keys
    simpa using this
  have nine : (tr.length + 1) * (tr.length + 1) ≤ 2601 := Nat.mul_le_mul (show tr.length + 1 ≤ 51 by omega) (show tr.length + 1 ≤ 51 by omega)
  have keep : ∀ b o, H b = some o → b ≠ d → upd H d (.dT (putK kvs (keyE e) (.ref vp))) b = some o := fun b o q n => by
    rw [upd_ne n]
    exact q
  have pd : ∀ {p : Addr} {xs : List V}, H p = some (.tup xs) → p ≠ d := fun q z => by
    rw [z, h1.at_] at q
    cases q
  refine ⟨_, DPut.t (k := keyE e) h1.at_ hk (by rw [sizeLine_eq]; omega), ⟨_, es ++ [e], ⟨upd_same, ?_, ?_, ?_⟩, ?_, ?_⟩, keep⟩
  · rw [putK_new _ vn, List.map_append, List.map_append, h1.keys]
    rfl
  · rw [List.nodup_append]
    refine ⟨h1.nd, by simp, fun a ha b hb => ?_⟩
    rw [List.mem_singleton.mp hb]
    exact fun z => ne (z ▸ ha)
  · intro e2 he2
    rcases List.mem_append.mp he2 with q | q
    · obtain ⟨p, p1, p2⟩ := h1.vals e2 q
      refine ⟨p, ?_, keep _ _ p2 (pd p2)⟩
      rw [valV_put, if_neg (fun z => ne (by rw [← keyE_inj z]; exact q))]
      exact p1
    · rw [List.mem_singleton.mp q]
      refine ⟨vp, ?_, keep _ _ hv (pd hv)⟩
      rw [valV_put, if_pos rfl]
  · intro e2 he2
    rcases List.mem_append.mp he2 with q | q
    · exact h2 e2 q
    · rw [List.mem_singleton.mp q]
      exact ok
  · intro e2
    rw [List.mem_append, List.mem_singleton, h3]
def spDad (C : Addr) : Sp := fun vs H Q _ => ∃ (r : Addr) (tr : List E2), vs = [.ref r] ∧ RailAt C H r tr ∧ tr.length ≤ 50 ∧
  ∀ (d : Addr) (kvs : List (List Key × V)) (es : List E2) (H' : Hp), Same H H' → H d = none → Tbl H' d tr kvs es → (∀ e, e ∈ es ↔ e.1 ≤ tr.length ∧ e.2 ≤ tr.length ∧ e.1 ≠ e.2) → Q (.ref d) H'
section
variable {P : Program} {w : World} {K : PySem.W.Frag} {mg : Str → Option Value} {base : Heap}
abbrev N_sc_dad : List Str := ["railway", "table", "station", "depths", "near", "_", "depth", "other", "far", "index", "layer", "place"]
theorem sc_dad : FnScope N_sc_dad ["railway"] (defScope s_distances_and_depths) := ⟨rfl, rfl, rfl, by decide +kernel, rfl, by decide +kernel, by decide +kernel⟩
theorem ok_dad {f fB fL C p g : Addr} {fd fdB fdL fdS : FuncData} (F : Fun K "distances_and_depths" "distances_and_depths" s_distances_and_depths f fd) (N : Nm mg) (UB : Use P w K mg base CX0 9 "branch_depths" fB fdB ["railway", "station"] (spBrd C)) (UL : Use P w K mg base CX0 6 "layers" fL fdL ["railway", "station", "barred"] (spLayers C)) (Z : SizeOf P w K mg base C p g fdS) :
    FnOk P w K mg base CX0 10 f fd ["railway"] (spDad C) := by
  refine F.ok sc_dad (fun vs H Q E h => ?_) (fun cdv A outer s H vs Q E hr h => ?_)
  · obtain ⟨r, tr, rfl, _⟩ := h
    rfl
  · obtain ⟨r, tr, rfl, R, few, k⟩ := h
    have hu64 : (A.deeper (envOfC "distances_and_depths" (defScope s_distances_and_depths) s.heap.objs.size f cdv)).units + 64 < cLine := hr.units
    refine ⟨_, (pss_cons (ps_set (i := 1) sc_dad.nd rfl (.inl rfl) pe_dnewT)
        (pss_cons (ps_for PassesOwn.never rfl (pi_range1 (by rfl) N.range (pa_cons (pe_prop (pv 0) Z.cl Z.hp Z.G (hr.mono (by decide)) Z.b .nil pass0 rfl) pa_nil)) (pg_name (i := 2) sc_dad.nd rfl (.inl rfl))
          (pss_cons (ps_set (i := 3) sc_dad.nd rfl (.inl rfl) (pe_use UB hr (by rfl) (pa_cons (pv 0) (pa_cons (pv 2) pa_nil))))
          (pss_one (ps_for PassesOwn.never rfl (pi_tup (pv 3)) (pg_tup rfl (pgs_cons (pg_name (i := 4) sc_dad.nd rfl (.inr rfl)) (pgs_cons (pg_name (i := 5) sc_dad.nd rfl (.inl rfl)) pgs_nil)))
            (pss_cons (ps_set (i := 6) sc_dad.nd rfl (.inl rfl) (pe_callBK (cr_maxDf (K := K) rfl rfl) (by rfl) N.max boot_max (pa_cons (pe_lc (own := [("other", 7), ("far", 8)]) (g := (gTup K 2 (gCons (gName 7) (gCons (gName 8) gNil)))) rfl sc_dad.nd (pi_tup (pv 3)) (blkOk_by (N := N_sc_dad) (sc := defScope s_distances_and_depths) (by decide +kernel)) (fun _ _ _ _ _ => pg_tupK (K := K) (n := 2) (t := (gCons (gName 7) (gCons (gName 8) gNil))) rfl rfl (pgs_cons (pg_name (i := 7) sc_dad.nd rfl (Or.inl rfl)) (pgs_cons (pg_name (i := 8) sc_dad.nd rfl (Or.inl rfl)) pgs_nil)) rfl) (fun _ _ _ _ _ => pts_one (pt_cmpR op_ne (pv 7) (pv 4) (nomark _))) (fun _ _ _ _ _ => (pv 8))) pa_nil) (pk_cons pe_int pk_nil)))
            (pss_one (ps_for PassesOwn.never rfl (pi_enum (by rfl) N.enum (pa_cons (pe_use UL (hr.mono (by decide)) (by rfl) (pa_cons (pv 0) (pa_cons (pv 4) (pa_cons (pv 2) pa_nil)))) pa_nil)) (pg_tup rfl (pgs_cons (pg_name (i := 9) sc_dad.nd rfl (.inl rfl)) (pgs_cons (pg_name (i := 10) sc_dad.nd rfl (.inl rfl)) pgs_nil)))
              (pss_one (ps_for PassesOwn.never rfl (pi_list (pv 10)) (pg_name (i := 11) sc_dad.nd rfl (.inl rfl))
                (pss_one (ps_dput (hu_of hr) (pv 1) (pe_tup (pa_cons (pv 2) (pa_cons (pv 11) pa_nil))) (pe_tup (pa_cons (pe_op op_add (pv 9) pe_int) (pa_cons (pv 6) pa_nil))) rfl)))))))))))
        (pss_one (ps_ret (pv 1))))), ?_⟩
    have T := R.T
    have two : (2 : Nat) ≤ sizeLine := by rw [sizeLine_eq]; decide
    have e62 : (2 : Int) ^ 62 = 4611686018427387904 := by decide
    obtain ⟨_, _, dx, _, _, _, _, _, _, h1, _⟩ := id R
    refine fun d nd => ?_
    have sd := same_upd nd (.dT [])
    have T0 : TbS tr d (upd H d (.dT [])) (M0 tr 0) := ⟨[], [], ⟨upd_same, rfl, List.nodup_nil, fun e he => (by cases he)⟩, fun e he => (by cases he), fun e => ⟨fun he => (by cases he), fun he => absurd he.2 (Nat.not_lt_zero _)⟩⟩
    have sd0 : Same H (upd H d (.dT [])) := sd
    generalize upd H d (.dT []) = H0 at sd T0 sd0 ⊢
    refine ⟨_, rfl, r, dx, _, rfl, sd0 _ _ h1, r, tr, rfl, R.same sd0, _, rfl, by rw [e62]; omega, by rw [e62]; omega, ?_⟩
    refine for_range (lo := 0) (fun i σ H' => ∃ (y2 y3 y4 y5 y6 y7 y8 y9 y10 y11 : Option V), σ = [some (.ref r), some (.ref d), y2, y3, y4, y5, y6, y7, y8, y9, y10, y11] ∧ Same H H' ∧ TbS tr d H' (M0 tr i)) ⟨_, _, _, _, _, _, _, _, _, _, rfl, sd0, T0⟩ ?_ ?_
    · rintro i σ H1 hi ⟨y2, y3, y4, y5, y6, y7, y8, y9, y10, y11, rfl, s1, T1⟩
      have hi : i ≤ tr.length := by
        have : i < ((tr.length : Int) + 1).toNat := hi
        omega
      rw [Int.zero_add]
      have R1 := R.same s1
      refine ⟨_, rfl, _, rfl, r, tr, i, rfl, R1, hi, fun q ps H2 s2 hq hP => ?_⟩
      have lps : ps.length = (nb tr i).length := by rw [hP.1, List.length_map]
      have nbl := nb_len tr i
      refine ⟨_, rfl, q, rfl, ⟨_, SqT.of hq⟩, ?_⟩
      have T2 := (T1.same s2).iff fun e => (m1_nil (tr := tr) (i := i)).symm
      refine for_tup (K := K) (a := q) (xs := ps.map V.ref) (fun j σ H' => ∃ (y4 y5 y6 y7 y8 y9 y10 y11 : Option V), σ = [some (.ref r), some (.ref d), some (iv i), some (.ref q), y4, y5, y6, y7, y8, y9, y10, y11] ∧ Same H H' ∧ (∀ b o, H2 b = some o → b ≠ d → H' b = some o) ∧ TbS tr d H' (M1 tr i ((nb tr i).take j)))
        ⟨_, _, _, _, _, _, _, _, rfl, s1.trans s2, fun b o h _ => h, by rw [List.take_zero]; exact T2⟩ ?_ ?_ ?_
      · rintro j σ H3 _ ⟨_, _, _, _, _, _, _, _, _, s3, fr3, T3⟩
        obtain ⟨kvs2, hd2⟩ := T2.own
        exact SqT.of (fr3 _ _ hq (fun z => by rw [z, hd2] at hq; cases hq))
      · rintro j v σ H3 hv ⟨y4, y5, y6, y7, y8, y9, y10, y11, rfl, s3, fr3, T3⟩
        obtain ⟨kvs2, hd2⟩ := T2.own
        have keep : ∀ {b : Addr} {xs : List V}, H2 b = some (.tup xs) → H3 b = some (.tup xs) := fun {b xs} h => fr3 _ _ h (fun z => by rw [z, hd2] at h; cases h)
        have hq3 := keep hq
        obtain ⟨p, hp, rfl⟩ := map_got hv
        have jl := (List.getElem?_eq_some_iff.mp hp).1
        obtain ⟨w0, hw0⟩ : ∃ w0, (nb tr i)[j]? = some w0 := ⟨_, List.getElem?_eq_getElem (by omega)⟩
        have aw : Adj tr i w0 := (mem_nb T.ne).mp (List.mem_of_getElem? hw0)
        have wl := (T.adj_le aw).2
        have hpw := keep (hP.2 j p (w0, dph tr w0 i + 1) hp (by rw [List.getElem?_map, hw0]; rfl))
        refine ⟨p, _, rfl, SqT.of hpw, rfl, _, _, rfl, _, _, rfl, rfl, ?_⟩
        refine ⟨_, rfl, q, rfl, ⟨_, SqT.of hq3⟩, fun D6 n6 => ?_⟩
        refine lc_tup (K := K) (a := q) (xs := ps.map V.ref) (fun c H' => Same H3 H' ∧ H' D6 = some (.lst ((((nb tr i).take c).filter fun u => decide (u ≠ w0)).map fun u => iv (dph tr u i + 1)))) ⟨same_upd n6 _, upd_same⟩ (fun c H' _ a => SqT.of (a.1 _ _ hq3)) ?_ ?_
        · rintro c v2 H4 hv2 ⟨s4, hD6⟩
          obtain ⟨p2, hp2, rfl⟩ := map_got hv2
          have cl := (List.getElem?_eq_some_iff.mp hp2).1
          obtain ⟨u, hu⟩ : ∃ u, (nb tr i)[c]? = some u := ⟨_, List.getElem?_eq_getElem (by omega)⟩
          have hpu := s4 _ _ (keep (hP.2 c p2 (u, dph tr u i + 1) hp2 (by rw [List.getElem?_map, hu]; rfl)))
          have e1 := fil_snoc (fun u => decide (u ≠ w0)) (fun u => iv (dph tr u i + 1)) hu
          have fl := fil_len (i := c) (xs := nb tr i) fun u => decide (u ≠ w0)
          refine ⟨p2, _, rfl, SqT.of hpu, rfl, _, _, rfl, _, _, rfl, rfl, rfl, _, rfl, _, rfl, rfl, _, rfl, ?_⟩
          show (fun b H3 => if b = true then _ else _) (!decide (iv u = iv w0)) H4
          by_cases cc : u = w0
          · rw [show (!decide (iv u = iv w0)) = false from by rw [decide_eq_true (by rw [cc])]; rfl]
            rw [if_neg (by simp [cc]), List.append_nil] at e1
            exact iteF ⟨s4, by rw [e1]; exact hD6⟩
          · rw [show (!decide (iv u = iv w0)) = true from by rw [decide_eq_false (fun z => cc (iv_inj.mp z))]; rfl]
            rw [if_pos (by simp [cc])] at e1
            refine iteT ⟨_, rfl, _, hD6, by rw [List.length_map, sizeLine_eq]; omega, same_old s4 n6 _, ?_⟩
            rw [upd_same, e1]
        rintro H4 ⟨s4, hD6⟩
        rw [show (nb tr i).take (ps.map V.ref).length = nb tr i from List.take_of_length_le (by rw [List.length_map, lps]; exact Nat.le_refl _)] at hD6
        refine ⟨D6, ((nb tr i).filter fun u => decide (u ≠ w0)).map fun u => ((dph tr u i + 1 : Nat) : Int), 0, rfl, rfl, SqL.of (by rw [hD6, List.map_map]; rfl), fun m hm => ?_⟩
        have em : V.int m = iv (dph tr i w0) := by
          obtain ⟨g1, g2⟩ := dph_rec T aw
          have inn : ∀ u, Adj tr i u → u ≠ w0 → ((dph tr u i + 1 : Nat) : Int) ∈ ((nb tr i).filter fun u => decide (u ≠ w0)).map fun u => ((dph tr u i + 1 : Nat) : Int) := fun u a n =>
            List.mem_map.mpr ⟨u, List.mem_filter.mpr ⟨(mem_nb T.ne).mpr a, decide_eq_true n⟩, rfl⟩
          show V.int m = V.int _
          congr 1
          rcases hm with ⟨e0, rfl⟩ | ⟨hm1, hm2⟩
          · rcases g2 with ⟨z, _⟩ | ⟨u, a, n, _⟩
            · rw [z]; rfl
            · have := inn u a n
              rw [e0] at this
              cases this
          · obtain ⟨u, hu, rfl⟩ := List.mem_map.mp hm1
            obtain ⟨hu1, hu2⟩ := List.mem_filter.mp hu
            have n := of_decide_eq_true hu2
            have g3 := g1 u ((mem_nb T.ne).mp hu1) n
            rcases g2 with ⟨z, _⟩ | ⟨u2, a2, n2, e2⟩
            · omega
            · have := hm2 _ (inn u2 a2 n2)
              omega
        rw [em]
        clear hm em hD6
        have s04 := s3.trans s4
        have T4 := T3.same s4
        refine ⟨_, rfl, _, rfl, _, rfl, r, tr, w0, some i, rfl, R.same s04, wl, fun fl fs H5 s5 hfl hfs hne hend => ⟨fl, _, rfl, SqL.of hfl, ?_⟩⟩
        have T5 := (T4.same s5).iff fun e => (m2_zero T (i := i) (w := w0) (D := (nb tr i).take j) (e := e)).symm
        obtain ⟨kvs5, hd5⟩ := T5.own
        refine for_enumL (K := K) (a := fl) (xs := fs.map V.ref) (fun c σ H' => ∃ (y7 y8 y9 y10 y11 : Option V), σ = [some (.ref r), some (.ref d), some (iv i), some (.ref q), some (iv w0), some (iv (dph tr w0 i + 1)), some (iv (dph tr i w0)), y7, y8, y9, y10, y11] ∧ Same H H' ∧ (∀ b o, H5 b = some o → b ≠ d → H' b = some o) ∧ TbS tr d H' (M2 tr i ((nb tr i).take j) w0 c))
          ⟨_, _, _, _, _, rfl, s04.trans s5, fun b o h _ => h, T5⟩ (fun c σ H' _ ⟨_, _, _, _, _, _, _, fr, _⟩ => SqL.of (fr _ _ hfl (fun z => by rw [z, hd5] at hfl; cases hfl))) ?_ ?_
        · rintro c v T0 σ H6 hv6 ⟨y7, y8, y9, y10, y11, rfl, s6, fr6, T6⟩ nT
          obtain ⟨f0, hf0, rfl⟩ := map_got hv6
          have hrow := hfs c f0 hf0
          have hrow6 := fr6 _ _ hrow (fun z => by rw [z, hd5] at hrow; cases hrow)
          have sT := same_upd nT (.tup [V.int (c : Nat), V.ref f0])
          have hT := upd_same (H := H6) (a := T0) (o := .tup [V.int (c : Nat), V.ref f0])
          have T7 := (T6.same sT).iff fun e => (m3_nil (tr := tr) (i := i) (w := w0) (k := c) (D := (nb tr i).take j) (e := e)).symm
          have hrow7 := sT _ _ hrow6
          have s07 := s6.trans sT
          have fr7 : ∀ b o, H5 b = some o → b ≠ d → upd H6 T0 (.tup [V.int (c : Nat), V.ref f0]) b = some o := fun b o h n => sT _ _ (fr6 b o h n)
          generalize upd H6 T0 (.tup [V.int (c : Nat), V.ref f0]) = H7 at sT hT T7 hrow7 s07 fr7 ⊢
          refine ⟨T0, _, rfl, SqT.of hT, rfl, _, _, rfl, _, _, rfl, rfl, ?_⟩
          obtain ⟨kvs7, hd7⟩ := T7.own
          refine ⟨_, rfl, f0, rfl, ⟨_, SqL.of hrow7⟩, ?_⟩
          refine for_list (K := K) (a := f0) (xs := ((lyr tr w0 (some i) c).map Prod.fst).map iv) (fun x σ H' => ∃ (y11 : Option V), σ = [some (.ref r), some (.ref d), some (iv i), some (.ref q), some (iv w0), some (iv (dph tr w0 i + 1)), some (iv (dph tr i w0)), y7, y8, some (iv c), some (.ref f0), y11] ∧ Same H H' ∧ (∀ b o, H7 b = some o → b ≠ d → H' b = some o) ∧ TbS tr d H' (M3 tr i ((nb tr i).take j) w0 c (((lyr tr w0 (some i) c).map Prod.fst).take x)))
            ⟨_, rfl, s07, fun b o h _ => h, by rw [List.take_zero]; exact T7⟩ (fun x σ H' _ ⟨_, _, _, fr, _⟩ => SqL.of (fr _ _ hrow7 (fun z => by rw [z, hd7] at hrow7; cases hrow7))) ?_ ?_
          · rintro x v σ H8 hv8 ⟨y11, rfl, s8, fr8, T8⟩
            obtain ⟨pl0, hpl0, rfl⟩ := map_got hv8
            obtain ⟨xl, xne, xs1, xs2⟩ := (lay_mem T aw).mp (List.mem_of_getElem? hpl0)
            refine ⟨_, rfl, _, _, rfl, rfl, _, rfl, two, fun vp nvp => ?_⟩
            have sv := same_upd nvp (.tup [V.int ((c : Int) + 1), iv (dph tr i w0)])
            have hv9 : upd H8 vp (.tup [V.int ((c : Int) + 1), iv (dph tr i w0)]) vp = some (.tup [iv (entD tr (i, pl0)).1, iv (entD tr (i, pl0)).2]) := by
              unfold entD
              rw [xs1, xs2]
              exact upd_same
            have T9 := T8.same sv
            have s9 := s8.trans sv
            have fr9 : ∀ b o, H7 b = some o → b ≠ d → upd H8 vp (.tup [V.int ((c : Int) + 1), iv (dph tr i w0)]) b = some o := fun b o h n => sv _ _ (fr8 b o h n)
            generalize upd H8 vp (.tup [V.int ((c : Int) + 1), iv (dph tr i w0)]) = H9 at sv hv9 T9 s9 fr9 ⊢
            refine ⟨_, rfl, _, rfl, _, rfl, two, fun kp nkp => ?_⟩
            have sk := same_upd nkp (.tup [iv i, iv pl0])
            have T10 := T9.same sk
            have s10 := s9.trans sk
            obtain ⟨H11, put, T11, fr11⟩ := T10.put (e := (i, pl0)) (kp := kp) (vp := vp) few (m3_new T aw hw0 hpl0) ⟨hi, xl, xne⟩ upd_same (sk _ _ hv9)
            refine ⟨d, H11, rfl, put, _, rfl, fun b o h => ?_, fun b o h n => fr11 _ _ (sk _ _ (fr9 b o h n)) n, ?_⟩
            · exact fr11 _ _ (s10 _ _ h) (fun z => by rw [z, nd] at h; cases h)
            · rw [take_snoc hpl0]
              exact T11.iff fun e => m3_snoc.symm
          · rintro σ H8 ⟨y11, rfl, s8, fr8, T8⟩
            rw [List.length_map, List.take_length] at T8
            exact ⟨_, _, _, _, _, rfl, s8, fun b o h n => fr8 _ _ (fr7 b o h n) n, T8.iff fun e => m3_all T aw⟩
        · rintro σ H6 ⟨y7, y8, y9, y10, y11, rfl, s6, fr6, T6⟩
          rw [List.length_map] at T6
          refine ⟨_, _, _, _, _, _, _, _, rfl, s6, fun b o h n => fr6 _ _ (s5 _ _ (s4 _ _ (fr3 b o h n))) n, ?_⟩
          rw [take_snoc hw0]
          exact T6.iff fun e => m2_end T aw hend
      · rintro σ H3 ⟨y4, y5, y6, y7, y8, y9, y10, y11, rfl, s3, fr3, T3⟩
        rw [List.length_map, lps, List.take_length] at T3
        exact ⟨_, _, _, _, _, _, _, _, _, _, rfl, s3, T3.iff fun e => m1_all T hi⟩
    · rintro σ H1 ⟨y2, y3, y4, y5, y6, y7, y8, y9, y10, y11, rfl, s1, kvs, es, T1, ok, mem⟩
      refine ⟨_, rfl, k d kvs es H1 s1 nd T1 fun e => ?_⟩
      rw [mem]
      show (okE tr e ∧ e.1 < ((tr.length : Int) + 1).toNat) ↔ _
      exact ⟨fun h => h.1, fun h => ⟨h, by have := h.1; omega⟩⟩
end
end TR


namespace TR
open PySem PySem.Spec PyProof.Rows L2 L2.TT StX ClX
theorem prs_nd {H : Hp} {qs : List Addr} {es : List E2} (P : Prs H qs es) (nd : es.Nodup) : qs.Nodup := by
  rw [List.nodup_iff_pairwise_ne, List.pairwise_iff_getElem]
  intro i j hi hj hij e2
  have lq := P.1
  have hi2 : i < es.length := by omega
  have hj2 : j < es.length := by omega
  have a := P.2 i _ _ (List.getElem?_eq_getElem hi) (List.getElem?_eq_getElem hi2)
  have b := P.2 j _ _ (List.getElem?_eq_getElem hj) (List.getElem?_eq_getElem hj2)
  rw [e2, b] at a
  have := HO.tup.inj (Option.some.inj a)
  have h1 := iv_inj.mp (List.cons.inj this).1
  have h2 := iv_inj.mp (List.cons.inj (List.cons.inj this).2).1
  have : es[i] = es[j] := Prod.ext h1.symm h2.symm
  have := (List.getElem_inj nd).mp this
  omega
theorem ends_nd {tr : List E2} (T : TreeL tr) {bs : List (List Nat)} (nd : bs.Nodup) (hb : ∀ m ∈ bs, Bd tr m) : (bs.map endsB).Nodup := by
  rw [List.nodup_iff_pairwise_ne, List.pairwise_map]
  exact (List.nodup_iff_pairwise_ne.mp nd).imp_of_mem fun {a b} ha hbb ne z => ne (ends_inj T (hb a ha) (hb b hbb) z)
end TR

namespace TR
open PySem PySem.Spec PyProof.Rows L2 L2.TT StX ClX
/-- the facts of one class, each read off the written part -/
structure ClsK (K : PySem.W.Frag) (C fI : Addr) (bm : List Value) (newId : String) (f : Str) : Prop where
  ini : PySem.W.excInitIn K C bm newId = true
  ovr : PySem.W.excOver K C bm = true
  sa : PySem.W.findIn K (.ref C) "__setattr__" = some (some (.builtin "object.__setattr__"))
  ga : PySem.W.findIn K (.ref C) "__getattribute__" = some (some (.builtin "BaseException.__getattribute__"))
  gg : PySem.W.findIn K (.ref C) "__getattr__" = some none
  sub : PySem.W.subIn K (.ref C) (.type "BaseException") = some true
  hd : PySem.W.hasDictIn K C = true
  kp : PySem.W.keepIn K (.ref C) = true
  ca : PySem.W.findIn K (.ref C) "__class__" = some (some (.builtin "object.__class__"))
  ob : PySem.W.mroIn K C (.type "object") = some true
  nF : PySem.W.findIn K (.ref C) f = some none
  tI : PySem.W.typeIn K (.ref fI) = some (.type "function")
  typ : PySem.W.typeIn K (.ref C) = some (.type "type")
theorem ClsK.xc {K : PySem.W.Frag} {C fI : Addr} {bm : List Value} {newId : String} {f : Str} (z : ClsK K C fI bm newId f) : XC K C bm newId := ⟨z.ini, z.ovr, z.sa, z.ga, z.gg, z.sub, z.hd, z.kp, z.ca, z.ob⟩
/-- what is read of an error's class x with its field f, and of the three families -/
structure WdG (P : Program) (w : World) (K : PySem.W.Frag) (mg : Str → Option Value) (base : Heap) (x f : Str) (CI CR CU CM : Addr) (bR bU bM : Bool) : Prop where
  z : RzC P w K mg base x CI f
  mR : mg "RailError" = some (.ref CR)
  mU : mg "RunError" = some (.ref CU)
  mM : mg "MissingError" = some (.ref CM)
  ea : PySem.W.exmAny K (.ref CI) [.ref CR, .ref CU, .ref CM] = some true
  kc : KCls K
  xc : ∃ bmB newId, XC K CI bmB newId
  nv : PySem.W.findIn K (.ref CI) f = some none
  kR : PySem.W.kitOne K (.ref CI) (.ref CR) = some bR
  kU : PySem.W.kitOne K (.ref CI) (.ref CU) = some bU
  kM : PySem.W.kitOne K (.ref CI) (.ref CM) = some bM
structure UseXX (P : Program) (w : World) (K : PySem.W.Frag) (mg : Str → Option Value) (base : Heap) (k : Nat) (x : Str) (f : Addr) (fd : FuncData) (ps : List Str) (sp : Sp) : Prop where
  G : FnOk P w K mg base (L2.CX P w) k f fd ps sp
  m : mg x = some (.ref f)
  kp : PySem.W.keepIn K (.ref f) = true
  b : Binds K fd ps []
/-- a def of the module whose promise asks that no repr is under way -/
structure UseG (P : Program) (w : World) (K : PySem.W.Frag) (mg : Str → Option Value) (base : Heap) (k : Nat) (x : Str) (f : Addr) (fd : FuncData) (ps : List Str) (sp : Sp) : Prop where
  G : FnG P w K mg base CX0 k f fd ps sp
  m : mg x = some (.ref f)
  kp : PySem.W.keepIn K (.ref f) = true
  b : Binds K fd ps []
def spLaw (K : PySem.W.Frag) : Sp := fun vs H Q _ => ∃ (a : Addr) (ns : List Int), vs = [.ref a] ∧ SqL K H a (ns.map V.int) ∧ ns.length ≤ 63 ∧ ∀ H', Q (.bl true) H'
end TR

namespace TR
open PySem PySem.Spec PyProof.Rows L2 L2.TT StX ClX
theorem sqL_fr {K : PySem.W.Frag} {H H' : Hp} {a dr : Addr} {xs : List V} {kvs : List (Key × V)} (h : SqL K H a xs) (F : Fr dr H H') (hd : H dr = some (.dK kvs)) : SqL K H' a xs := by
  rcases h with (h | ⟨ob, h⟩) | h
  · exact .inl (.inl (F _ _ h (ne_of h hd (by intro z; cases z))))
  · exact .inl (.inr ⟨ob, F _ _ h (ne_of h hd (by intro z; cases z))⟩)
  · exact .inr h
theorem paired_at {α β : Type} {R : α → β → Prop} : ∀ {xs : List α} {ys : List β} {i : Nat} {x : α} {y : β}, Paired R xs ys → xs[i]? = some x → ys[i]? = some y → R x y
  | _ :: _, _ :: _, 0, _, _, .cons h _, h1, h2 => by
    cases h1
    cases h2
    exact h
  | _ :: xs, _ :: ys, i + 1, _, _, .cons _ h, h1, h2 => paired_at (xs := xs) (ys := ys) (i := i) h h1 h2
theorem srt2_len (l : List E2) : (srt2 l).length = l.length := (srt2_perm l).length_eq
end TR

namespace TR
open PySem PySem.Spec PyProof.Rows L2 L2.TT StX ClX
/-- all pairs of different stations, in order -/
def pairsL (n : Nat) : List E2 := (List.range (n + 1)).flatMap fun s => ((List.range (n + 1)).filter fun p => decide (s ≠ p)).map fun p => (s, p)
/-- a pair that is a pocket of the length L -/
def isPk (tr : List E2) (L : Nat) (e : E2) : Prop := dph tr e.1 (stp tr e.1 e.2) = dph tr e.2 (stp tr e.2 e.1) ∧ dst tr e.1 e.2 + dph tr e.1 (stp tr e.1 e.2) = L
noncomputable def pktL (tr : List E2) (l : List E2) (L : Nat) : List E2 := l.filter fun e => @decide (isPk tr L e) (Classical.propDecidable _)
/-- lists of pairs, by length -/
structure Fnd (H : Hp) (d : Addr) (tr : List E2) (kvs : List (Key × V)) (l : List E2) : Prop where
  at_ : H d = some (.dK kvs)
  len : kvs.length ≤ l.length
  non : ∀ L : Nat, valV kvs (.inl (L : Int)) = none → pktL tr l L = []
  som : ∀ (L : Nat) v, valV kvs (.inl (L : Int)) = some v → ∃ a ps, v = .ref a ∧ H a = some (.lst (ps.map V.ref)) ∧ Prs H ps (pktL tr l L)
  inj : ∀ (L L' : Nat) a, valV kvs (.inl (L : Int)) = some (.ref a) → valV kvs (.inl (L' : Int)) = some (.ref a) → L = L'
theorem pairs_mem {n : Nat} {e : E2} : e ∈ pairsL n ↔ e.1 ≤ n ∧ e.2 ≤ n ∧ e.1 ≠ e.2 := by
  unfold pairsL
  rw [List.mem_flatMap]
  constructor
  · rintro ⟨s, hs, h⟩
    obtain ⟨p, hp, rfl⟩ := List.mem_map.mp h
    obtain ⟨h1, h2⟩ := List.mem_filter.mp hp
    have := List.mem_range.mp hs
    have := List.mem_range.mp h1
    exact ⟨by show s ≤ n; omega, by show p ≤ n; omega, of_decide_eq_true h2⟩
  · rintro ⟨h1, h2, h3⟩
    exact ⟨e.1, List.mem_range.mpr (by omega), List.mem_map.mpr ⟨e.2, List.mem_filter.mpr ⟨List.mem_range.mpr (by omega), decide_eq_true h3⟩, rfl⟩⟩
theorem pairs_lt (n : Nat) : (pairsL n).Pairwise fun a b => a.1 < b.1 ∨ (a.1 = b.1 ∧ a.2 < b.2) := by
  unfold pairsL
  rw [List.pairwise_flatMap]
  constructor
  · intro s _
    rw [List.pairwise_map]
    exact (List.pairwise_lt_range.filter _).imp fun h => .inr ⟨rfl, h⟩
  · refine List.pairwise_lt_range.imp fun h x hx y hy => ?_
    obtain ⟨p, _, rfl⟩ := List.mem_map.mp hx
    obtain ⟨q, _, rfl⟩ := List.mem_map.mp hy
    exact .inl h
theorem pairs_nd (n : Nat) : (pairsL n).Nodup := (pairs_lt n).imp fun h z => by
  subst z
  omega
theorem pairs_srt {n : Nat} {es : List E2} (nd : es.Nodup) (h : ∀ e, e ∈ es ↔ e.1 ≤ n ∧ e.2 ≤ n ∧ e.1 ≠ e.2) : srt2 es = pairsL n := by
  refine (srt2_of ((List.perm_ext_iff_of_nodup (pairs_nd n) nd).mpr fun e => by rw [pairs_mem, h]) ((pairs_lt n).imp fun h => ?_)).symm
  unfold lexle
  simp
  omega
theorem pktL_snoc {tr : List E2} {l : List E2} {e : E2} {L : Nat} : (isPk tr L e → pktL tr (l ++ [e]) L = pktL tr l L ++ [e]) ∧ (¬ isPk tr L e → pktL tr (l ++ [e]) L = pktL tr l L) := by
  unfold pktL
  rw [List.filter_append]
  constructor
  · intro h
    rw [show [e].filter (fun e => @decide (isPk tr L e) (Classical.propDecidable _)) = [e] from by simp [h]]
  · intro h
    rw [show [e].filter (fun e => @decide (isPk tr L e) (Classical.propDecidable _)) = [] from by simp [h], List.append_nil]
section
variable {H H' : Hp} {d a kp : Addr} {tr : List E2} {kv : List (Key × V)} {l : List E2} {e : E2} {L : Nat}
theorem Fnd.same (f : Fnd H d tr kv l) (s : Same H H') : Fnd H' d tr kv l :=
  ⟨s _ _ f.at_, f.len, f.non, fun L v h => let ⟨a, ps, h1, h2, h3⟩ := f.som L v h; ⟨a, ps, h1, s _ _ h2, h3.same s⟩, f.inj⟩
theorem isPk_uniq {L' : Nat} (h : isPk tr L e) (h' : isPk tr L' e) : L' = L := h'.2.symm.trans h.2
theorem Fnd.skip (f : Fnd H d tr kv l) (hn : ∀ L, ¬ isPk tr L e) : Fnd H d tr kv (l ++ [e]) := by
  have q : ∀ L, pktL tr (l ++ [e]) L = pktL tr l L := fun L => pktL_snoc.2 (hn L)
  refine ⟨f.at_, by rw [List.length_append]; have := f.len; omega, fun L h => by rw [q]; exact f.non L h, fun L v h => by rw [q]; exact f.som L v h, f.inj⟩
theorem prs_off {ps : List Addr} {es : List E2} (h : Prs H ps es) {b : Addr} {ys zs : List V} (hb : H b = some (.lst ys)) : Prs (upd H b (.lst zs)) ps es := ⟨h.1, fun i p e h1 h2 => by
  have c := h.2 i p e h1 h2
  rw [upd_ne (fun q => by rw [q, hb] at c; cases c)]
  exact c⟩
theorem Fnd.old (f : Fnd H d tr kv l) (pk : isPk tr L e) {ps : List Addr} (hv : valV kv (.inl (L : Int)) = some (.ref a)) (ha : H a = some (.lst (ps.map V.ref))) (hP : Prs H ps (pktL tr l L)) (hk : H kp = some (.tup [iv e.1, iv e.2])) : Fnd (upd H a (.lst (ps.map V.ref ++ [V.ref kp]))) d tr kv (l ++ [e]) := by
  have da : d ≠ a := fun q => by
    have := f.at_
    rw [q, ha] at this
    cases this
  have ka : kp ≠ a := fun q => by rw [q, ha] at hk; cases hk
  refine ⟨by rw [upd_ne da]; exact f.at_, by rw [List.length_append]; have := f.len; omega, fun L' h => ?_, fun L' v h => ?_, f.inj⟩
  · rw [pktL_snoc.2 (fun z => by rw [isPk_uniq pk z, hv] at h; cases h)]
    exact f.non L' h
  · by_cases c : L' = L
    · subst c
      rw [hv] at h
      cases h
      rw [pktL_snoc.1 pk]
      exact ⟨a, ps ++ [kp], rfl, by rw [upd_same, List.map_append]; rfl, (prs_off hP ha).snoc (by rw [upd_ne ka]; exact hk)⟩
    · obtain ⟨a', ps', rfl, h2, h3⟩ := f.som L' v h
      have ne : a' ≠ a := fun q => c (f.inj L' L a (by rw [← q]; exact h) hv)
      rw [pktL_snoc.2 (fun z => c (isPk_uniq pk z))]
      exact ⟨a', ps', rfl, by rw [upd_ne ne]; exact h2, prs_off h3 ha⟩
theorem Fnd.fresh (f : Fnd H d tr kv l) (pk : isPk tr L e) {H2 : Hp} (hv : valV kv (.inl (L : Int)) = none) (ha : H a = some (.lst [])) (nf : ∀ L' : Nat, valV kv (.inl (L' : Int)) ≠ some (.ref a)) (s : Same (upd H d (.dK (putK kv (.inl (L : Int)) (.ref a)))) H2) (hk : H2 kp = some (.tup [iv e.1, iv e.2])) :
    Fnd (upd H2 a (.lst [V.ref kp])) d tr (putK kv (.inl (L : Int)) (.ref a)) (l ++ [e]) := by
  have da : a ≠ d := fun q => by
    have := f.at_
    rw [← q, ha] at this
    cases this
  have ha2 : H2 a = some (.lst []) := s _ _ (by rw [upd_ne da]; exact ha)
  have ka : kp ≠ a := fun q => by rw [q, ha2] at hk; cases hk
  have len : (putK kv (.inl (L : Int)) (.ref a)).length = kv.length + 1 := by rw [putK_new _ hv, List.length_append]; rfl
  refine ⟨?_, ?_, fun L' h => ?_, fun L' v h => ?_, fun L1 L2 a1 h1 h2 => ?_⟩
  · rw [upd_ne (Ne.symm da)]
    exact s _ _ upd_same
  · rw [len, List.length_append]
    have := f.len
    show _ ≤ l.length + 1
    omega
  · rw [valV_put] at h
    by_cases c : (Sum.inl (L' : Int) : Key) = Sum.inl (L : Int)
    · rw [if_pos c] at h
      cases h
    · rw [if_neg c] at h
      rw [pktL_snoc.2 (fun z => c (by rw [isPk_uniq pk z]))]
      exact f.non L' h
  · rw [valV_put] at h
    by_cases c : (Sum.inl (L' : Int) : Key) = Sum.inl (L : Int)
    · rw [if_pos c] at h
      cases h
      have eL : L' = L := by
        have := Sum.inl.inj c
        omega
      subst eL
      rw [pktL_snoc.1 pk, f.non L' hv]
      refine ⟨a, [kp], rfl, upd_same, rfl, fun i p e' h1 h2 => ?_⟩
      match i with
      | 0 =>
        cases h1
        cases h2
        rw [upd_ne ka]
        exact hk
      | i + 1 => cases h1
    · rw [if_neg c] at h
      obtain ⟨a', ps', rfl, h2, h3⟩ := f.som L' v h
      have ne : a' ≠ a := fun q => nf L' (by rw [← q]; exact h)
      have ne2 : a' ≠ d := fun q => by
        have := f.at_
        rw [← q, h2] at this
        cases this
      rw [pktL_snoc.2 (fun z => c (by rw [isPk_uniq pk z]))]
      have h3b : Prs H2 ps' (pktL tr l L') := ⟨h3.1, fun i p e' q1 q2 => by
        have c2 := h3.2 i p e' q1 q2
        refine s _ _ ?_
        rw [upd_ne (fun q => by
          have := f.at_
          rw [← q, c2] at this
          cases this)]
        exact c2⟩
      exact ⟨a', ps', rfl, by rw [upd_ne ne]; exact s _ _ (by rw [upd_ne ne2]; exact h2), prs_off h3b ha2⟩
  · rw [valV_put] at h1 h2
    by_cases c1 : (Sum.inl (L1 : Int) : Key) = Sum.inl (L : Int)
    · have z1 := Sum.inl.inj c1
      by_cases c2 : (Sum.inl (L2 : Int) : Key) = Sum.inl (L : Int)
      · have z2 := Sum.inl.inj c2
        omega
      · rw [if_pos c1] at h1
        rw [if_neg c2] at h2
        cases h1
        exact absurd h2 (nf L2)
    · rw [if_neg c1] at h1
      by_cases c2 : (Sum.inl (L2 : Int) : Key) = Sum.inl (L : Int)
      · rw [if_pos c2] at h2
        cases h2
        exact absurd h1 (nf L1)
      · rw [if_neg c2] at h2
        exact f.inj L1 L2 a1 h1 h2
end
def spPbl (C : Addr) : Sp := fun vs H Q _ => ∃ (r : Addr) (tr : List E2), vs = [.ref r] ∧ RailAt C H r tr ∧ tr.length ≤ 50 ∧
  ∀ (d : Addr) (kvs : List (Key × V)) (H' : Hp), Same H H' → H d = none → Fnd H' d tr kvs (pairsL tr.length) → Q (.ref d) H'
section
variable {P : Program} {w : World} {K : PySem.W.Frag} {mg : Str → Option Value} {base : Heap}
abbrev N_sc_pbl : List Str := ["railway", "table", "found", "one", "other", "distance", "depth"]
theorem sc_pbl : FnScope N_sc_pbl ["railway"] (defScope s_pockets_by_length) := ⟨rfl, rfl, rfl, by decide +kernel, rfl, by decide +kernel, by decide +kernel⟩
theorem ok_pbl {f fD C : Addr} {fd fdD : FuncData} (F : Fun K "pockets_by_length" "pockets_by_length" s_pockets_by_length f fd) (N : Nm mg) (UD : Use P w K mg base CX0 10 "distances_and_depths" fD fdD ["railway"] (spDad C)) :
    FnOk P w K mg base CX0 11 f fd ["railway"] (spPbl C) := by
  refine F.ok sc_pbl (fun vs H Q E h => ?_) (fun cdv A outer s H vs Q E hr h => ?_)
  · obtain ⟨r, tr, rfl, _⟩ := h
    rfl
  · obtain ⟨r, tr, rfl, R, few, k⟩ := h
    have hu64 : (A.deeper (envOfC "pockets_by_length" (defScope s_pockets_by_length) s.heap.objs.size f cdv)).units + 64 < cLine := hr.units
    refine ⟨_, (pss_cons (ps_set (i := 1) sc_pbl.nd rfl (.inl rfl) (pe_use UD hr (by rfl) (pa_cons (pv 0) pa_nil)))
        (pss_cons (ps_set (i := 2) sc_pbl.nd rfl (.inl rfl) pe_dnewK)
        (pss_cons (ps_for PassesOwn.never rfl (pi_list (pe_callB (cr_sortedDT rfl) (by rfl) N.sorted boot_sorted (pa_cons (pv 1) pa_nil))) (pg_tup rfl (pgs_cons (pg_name (i := 3) sc_pbl.nd rfl (.inl rfl)) (pgs_cons (pg_name (i := 4) sc_pbl.nd rfl (.inl rfl)) pgs_nil)))
          (pss_cons (ps_asg (pe_dget (hu_of hr) (pv 1) (pe_tup (pa_cons (pv 3) (pa_cons (pv 4) pa_nil))) (fun _ _ => rfl)) (pg_tup rfl (pgs_cons (pg_name (i := 5) sc_pbl.nd rfl (.inl rfl)) (pgs_cons (pg_name (i := 6) sc_pbl.nd rfl (.inl rfl)) pgs_nil))))
          (pss_one (ps_if (pt_cmpR op_eq (pe_ix ix_tup (pe_dget (hu_of hr) (pv 1) (pe_tup (pa_cons (pv 4) (pa_cons (pv 3) pa_nil))) (fun _ _ => rfl)) pe_int (fun _ _ => rfl)) (pv 6) (nomark _)) (pss_one (ps_expr (pe_bm PySem.F.plainAttrs_list PySem.F.slot_list_append PySem.F.type_list_append mt_append (pe_dsetd (pv 2) (pe_op op_add (pv 5) (pv 6)) (pe_lst pa_nil) ⟨rfl, rfl, rfl, rfl⟩) (pa_cons (pe_tup (pa_cons (pv 3) (pa_cons (pv 4) pa_nil))) pa_nil)))) pss_nil))))
        (pss_one (ps_ret (pv 2)))))), ?_⟩
    have T := R.T
    have two : (2 : Nat) ≤ sizeLine := by rw [sizeLine_eq]; decide
    refine ⟨_, rfl, r, tr, rfl, R, few, fun t kvs es H1 s1 nt TB mem => ?_⟩
    have lk := prs_le (n := tr.length) TB.nd (fun e he => ⟨((mem e).mp he).1, ((mem e).mp he).2.1⟩)
    have nine : (tr.length + 1) * (tr.length + 1) ≤ 2601 := Nat.mul_le_mul (show tr.length + 1 ≤ 51 by omega) (show tr.length + 1 ≤ 51 by omega)
    have kl : kvs.length = es.length := by
      have := congrArg List.length TB.keys
      simpa using this
    refine fun d nd => ?_
    have sd := same_upd nd (.dK [])
    have F0 : Fnd (upd H1 d (.dK [])) d tr [] [] := ⟨upd_same, Nat.zero_le _, fun L _ => rfl, fun L v h => (by cases h), fun L L' a h => (by cases h)⟩
    have TB0 := TB.same sd
    have s0 := s1.trans sd
    generalize hH0 : upd H1 d (.dK []) = H0 at sd F0 TB0 s0 ⊢
    refine ⟨_, rfl, t, kvs, rfl, .inl TB0.at_, fun qs ik => ?_⟩
    have PA : Prs H0 qs es := by
      refine ⟨?_, fun i q e h1 h2 => ?_⟩
      · rw [← kl]
        exact (Paired.length ik).symm
      · have il : i < kvs.length := by
          rw [kl]
          exact (List.getElem?_eq_some_iff.mp h2).1
        have hk := List.getElem?_eq_getElem il
        have h3 := paired_at ik hk h1
        have ek : kvs[i].1 = keyE e := by
          have := congrArg (fun z => z[i]?) TB.keys
          simp only [List.getElem?_map, hk, h2, Option.map_some] at this
          exact Option.some.inj this
        rw [ek] at h3
        exact h3
    have ndq := prs_nd PA TB.nd
    refine ⟨kfOf qs es, kf_items PA ndq, fun ys z hsr hst nz => ?_⟩
    obtain ⟨zs, rfl, hQ3, nd3⟩ := sorted_prs PA ndq hsr hst.perm
    rw [pairs_srt TB.nd mem] at hQ3
    have sz := same_upd nz (.lst (zs.map V.ref))
    have hz := upd_same (H := H0) (a := z) (o := .lst (zs.map V.ref))
    have TB1 := TB0.same sz
    have hQ4 := hQ3.same sz
    have F1 : Fnd (upd H0 z (.lst (zs.map V.ref))) d tr [] [] := ⟨sz _ _ F0.at_, Nat.zero_le _, fun L _ => rfl, fun L v h => (by cases h), fun L L' a h => (by cases h)⟩
    have s0z := s0.trans sz
    have nz1 : d ≠ z := fun q => by rw [← q, F0.at_] at nz; cases nz
    have G1 : ∀ b o, H1 b = some o → upd H0 z (.lst (zs.map V.ref)) b = some o := fun b o h => sz _ _ (sd _ _ h)
    generalize upd H0 z (.lst (zs.map V.ref)) = H2 at hz TB1 hQ4 F1 s0z G1 sz ⊢
    have lz : zs.length = (pairsL tr.length).length := hQ4.1
    have lp : (pairsL tr.length).length ≤ 2601 := by
      have := prs_le (n := tr.length) (pairs_nd tr.length) (fun e he => ⟨(pairs_mem.mp he).1, (pairs_mem.mp he).2.1⟩)
      omega
    refine ⟨z, rfl, ⟨_, SqL.of hz⟩, ?_⟩
    refine for_list (K := K) (a := z) (xs := zs.map V.ref) (fun c σ H' => ∃ (kv : List (Key × V)) (y3 y4 y5 y6 : Option V), σ = [some (.ref r), some (.ref t), some (.ref d), y3, y4, y5, y6] ∧ (∀ b o, H2 b = some o → b ≠ d → H' b = some o) ∧ Fnd H' d tr kv ((pairsL tr.length).take c) ∧ ∀ L a, valV kv (.inl L) = some (.ref a) → H2 a = none)
      ⟨[], _, _, _, _, rfl, fun b o h _ => h, by rw [List.take_zero]; exact F1, fun L a h => (by cases h)⟩ (fun c σ H' _ ⟨_, _, _, _, _, _, fr, _⟩ => SqL.of (fr _ _ hz (Ne.symm nz1))) ?_ ?_
    · rintro c v σ H3 hv ⟨kv, y3, y4, y5, y6, rfl, fr, FD, fresh⟩
      obtain ⟨p, hp, rfl⟩ := map_got hv
      have cl := (List.getElem?_eq_some_iff.mp hp).1
      obtain ⟨e, he⟩ : ∃ e, (pairsL tr.length)[c]? = some e := ⟨_, List.getElem?_eq_getElem (by omega)⟩
      obtain ⟨o1, o2, o3⟩ := pairs_mem.mp (List.mem_of_getElem? he)
      have keepT : ∀ {b : Addr} {xs : List V}, H2 b = some (.tup xs) → H3 b = some (.tup xs) := fun {b xs} h => fr _ _ h (fun q => by rw [q, F1.at_] at h; cases h)
      have hpe := keepT (hQ4.2 c p e hp he)
      have td : t ≠ d := fun q => by
        have h1 := F1.at_
        rw [← q, TB1.at_] at h1
        cases h1
      have htb := fr _ _ TB1.at_ td
      refine ⟨p, _, rfl, SqT.of hpe, rfl, _, _, rfl, _, _, rfl, rfl, ?_⟩
      obtain ⟨pe, v1, hpe2⟩ := TB1.vals e ((mem e).mpr ⟨o1, o2, o3⟩)
      obtain ⟨pe', v2, hpe2'⟩ := TB1.vals (e.2, e.1) ((mem (e.2, e.1)).mpr ⟨o2, o1, Ne.symm o3⟩)
      have g1 := keepT hpe2
      have g2 := keepT hpe2'
      refine ⟨_, rfl, _, rfl, _, rfl, two, fun k1 nk1 => ?_⟩
      have sk1 := same_upd nk1 (.tup [iv e.1, iv e.2])
      have dg1 := DGet.t (k := keyE e) (sk1 _ _ htb) upd_same
      rw [v1] at dg1
      refine ⟨t, .ref pe, rfl, dg1, ?_⟩
      have g1' := sk1 _ _ g1
      have g2' := sk1 _ _ g2
      have htb' := sk1 _ _ htb
      generalize upd H3 k1 (.tup [iv e.1, iv e.2]) = H4 at sk1 g1' g2' htb' ⊢
      refine ⟨pe, _, rfl, SqT.of g1', rfl, _, _, rfl, _, _, rfl, rfl, ?_⟩
      refine ⟨_, rfl, _, rfl, _, rfl, two, fun k2 nk2 => ?_⟩
      have sk2 := same_upd nk2 (.tup [iv e.2, iv e.1])
      have dg2 := DGet.t (k := keyE (e.2, e.1)) (sk2 _ _ htb') upd_same
      rw [v2] at dg2
      refine ⟨t, .ref pe', rfl, dg2, ?_⟩
      have g2'' := sk2 _ _ g2'
      have FD5 := (FD.same sk1).same sk2
      have fr5 : ∀ b o, H2 b = some o → b ≠ d → upd H4 k2 (.tup [iv e.2, iv e.1]) b = some o := fun b o h n => sk2 _ _ (sk1 _ _ (fr b o h n))
      generalize upd H4 k2 (.tup [iv e.2, iv e.1]) = H5 at sk2 g2'' FD5 fr5 ⊢
      refine ⟨pe', _, _, _, rfl, rfl, SqT.of g2'', atN (n := 1) rfl, _, rfl, rfl, _, rfl, ?_⟩
      rw [take_snoc he]
      show (fun b H1 => if b = true then _ else _) (decide (iv (entD tr (e.2, e.1)).2 = iv (entD tr e).2)) H5
      by_cases cc : (entD tr (e.2, e.1)).2 = (entD tr e).2
      · rw [show decide (iv (entD tr (e.2, e.1)).2 = iv (entD tr e).2) = true from decide_eq_true (by rw [cc])]
        have pk : isPk tr ((entD tr e).1 + (entD tr e).2) e := ⟨cc.symm, rfl⟩
        generalize hL : (entD tr e).1 + (entD tr e).2 = L at pk
        have eL : ((entD tr e).1 : Int) + ((entD tr e).2 : Int) = (L : Int) := by omega
        refine iteT ?_
        refine ⟨_, rfl, d, rfl, .inl ⟨_, .inl FD5.at_⟩, _, rfl, _, rfl, _, _, rfl, rfl, ?_⟩
        refine ⟨Nat.zero_le _, fun l0 nl0 => ?_⟩
        have sl := same_upd nl0 (.lst [])
        have FD6 := FD5.same sl
        have hl0 := upd_same (H := H5) (a := l0) (o := .lst [])
        have fr6 : ∀ b o, H2 b = some o → b ≠ d → upd H5 l0 (.lst []) b = some o := fun b o h n => sl _ _ (fr5 b o h n)
        have nf : ∀ L' : Nat, valV kv (.inl (L' : Int)) ≠ some (.ref l0) := fun L' h => by
          obtain ⟨a', ps', q, h2, _⟩ := FD5.som L' _ h
          cases q
          rw [nl0] at h2
          cases h2
        have l0n : H2 l0 = none := by
          by_cases q : l0 = d
          · rw [q, FD5.at_] at nl0
            cases nl0
          · cases hc : H2 l0 with
            | none => rfl
            | some o =>
              have := fr5 l0 o hc q
              rw [nl0] at this
              cases this
        generalize upd H5 l0 (.lst []) = H6 at sl FD6 hl0 fr6 ⊢
        have kvl := FD6.len
        rw [List.length_take] at kvl
        refine ⟨kv, .inl (L : Int), FD6.at_, congrArg V.int eL, by rw [sizeLine_eq]; omega, fun v hv => ?_, fun hv => ?_⟩
        · obtain ⟨a, ps, rfl, ha, hPa⟩ := FD6.som L v hv
          have pla : ps.length ≤ 2601 := by
            have h1 := hPa.1
            have h2 : (pktL tr ((pairsL tr.length).take c) L).length ≤ ((pairsL tr.length).take c).length := List.length_filter_le _ _
            rw [List.length_take] at h2
            omega
          refine ⟨.inl ⟨rfl, _, SqL.of ha⟩, _, rfl, _, rfl, two, fun kp nkp => ?_⟩
          have skp := same_upd nkp (.tup [iv e.1, iv e.2])
          refine ⟨a, _, _, rfl, rfl, skp _ _ ha, by rw [List.length_map, sizeLine_eq]; omega, kv, _, _, _, _, rfl, fun b o h n => ?_, (FD6.same skp).old pk hv (skp _ _ ha) (hPa.same skp) upd_same, fresh⟩
          have na : H2 a = none := fresh _ _ hv
          rw [upd_ne (fun q => by rw [q, na] at h; cases h)]
          exact skp _ _ (fr6 b o h n)
        · have l0d : l0 ≠ d := fun q => by
            have := FD6.at_
            rw [← q, hl0] at this
            cases this
          refine ⟨.inl ⟨rfl, _, SqL.of (by rw [upd_ne l0d]; exact hl0)⟩, _, rfl, _, rfl, two, fun kp nkp => ?_⟩
          have skp := same_upd nkp (.tup [iv e.1, iv e.2])
          have hl7 := skp _ _ (show upd H6 d (.dK (putK kv (.inl (L : Int)) (.ref l0))) l0 = some (.lst []) from by rw [upd_ne l0d]; exact hl0)
          refine ⟨l0, _, _, rfl, rfl, hl7, by rw [sizeLine_eq]; decide, _, _, _, _, _, rfl, fun b o h n => ?_, FD6.fresh pk hv hl0 nf skp upd_same, fun L' a' h => ?_⟩
          · rw [upd_ne (fun q => by rw [q, l0n] at h; cases h)]
            exact skp _ _ (by rw [upd_ne n]; exact fr6 b o h n)
          · rw [valV_put] at h
            split at h
            · cases h
              exact l0n
            · exact fresh _ _ h
      · rw [show decide (iv (entD tr (e.2, e.1)).2 = iv (entD tr e).2) = false from decide_eq_false (fun z => cc (iv_inj.mp z))]
        exact iteF ⟨kv, _, _, _, _, rfl, fr5, FD5.skip (fun L z => cc z.1.symm), fresh⟩
    · rintro σ H3 ⟨kv, y3, y4, y5, y6, rfl, fr, FD, fresh⟩
      rw [List.length_map, lz, List.take_length] at FD
      refine ⟨_, rfl, k d kv H3 (fun b o h => fr _ _ (s0z _ _ h) (fun q => ?_)) (s1.free nd) FD⟩
      rw [q] at h
      have := s1 _ _ h
      rw [nd] at this
      cases this
end
end TR


namespace TR
open PySem PySem.Spec PyProof.Rows L2 L2.TT StX ClX
theorem hu_one {n : Nat} (h : n + 64 < cLine) : n + 1 < cLine := by omega
def spPks (C : Addr) : Sp := fun vs H Q _ => ∃ (r : Addr) (tr : List E2) (L : Nat), vs = [.ref r, iv L] ∧ 1 ≤ L ∧ RailAt C H r tr ∧ tr.length ≤ 50 ∧
  ∀ (q : Addr) (ps : List Addr) (H' : Hp), Same H H' → H q = none → H' q = some (.tup (ps.map V.ref)) → Prs H' ps (pktL tr (pairsL tr.length) L) → Q (.ref q) H'
section
variable {P : Program} {w : World} {K : PySem.W.Frag} {mg : Str → Option Value} {base : Heap}
abbrev N_sc_pks : List Str := ["railway", "length"]
theorem sc_pks : FnScope N_sc_pks ["railway", "length"] (defScope s_pockets) := ⟨rfl, rfl, rfl, by decide +kernel, rfl, by decide +kernel, by decide +kernel⟩
theorem ok_pks {f fL fP C : Addr} {fd fdL fdP : FuncData} (F : Fun K "pockets" "pockets" s_pockets f fd) (N : Nm mg) (UL : Use P w K mg base CX0 2 "check_length" fL fdL ["length"] spChkLen) (UP : Use P w K mg base CX0 11 "pockets_by_length" fP fdP ["railway"] (spPbl C)) :
    FnOk P w K mg base CX0 12 f fd ["railway", "length"] (spPks C) := by
  refine F.ok sc_pks (fun vs H Q E h => ?_) (fun cdv A outer s H vs Q E hr h => ?_)
  · obtain ⟨r, tr, L, rfl, _⟩ := h
    rfl
  · obtain ⟨r, tr, L, rfl, hL, R, few, k⟩ := h
    have hu64 : (A.deeper (envOfC "pockets" (defScope s_pockets) s.heap.objs.size f cdv)).units + 64 < cLine := hr.units
    refine ⟨_, (pss_cons (ps_expr (pe_use UL (hr.mono (by decide)) (by rfl) (pa_cons (pv 1) pa_nil)))
        (pss_one (ps_ret (pe_callTy call_tuple_of (by rfl) N.tuple boot_tuple (pa_cons (pe_dget2 (hu_one hu64) (pe_use UP hr (by rfl) (pa_cons (pv 0) pa_nil)) (pv 1) (pe_lst pa_nil) ⟨rfl, rfl, rfl, rfl⟩) pa_nil))))), ?_⟩
    refine ⟨_, rfl, L, rfl, hL, ?_⟩
    refine ⟨_, rfl, r, tr, rfl, R, few, fun d kvs H1 s1 nd FD => ?_⟩
    refine ⟨d, rfl, .inl ⟨_, .inl FD.at_⟩, _, rfl, Nat.zero_le _, fun l0 nl0 => ?_⟩
    have sl := same_upd nl0 (.lst [])
    have FD2 := FD.same sl
    have hl0 := upd_same (H := H1) (a := l0) (o := .lst [])
    have s2 := s1.trans sl
    generalize upd H1 l0 (.lst []) = H2 at sl FD2 hl0 s2 ⊢
    refine ⟨_, DGet.k (k := .inl (L : Int)) FD2.at_, ?_⟩
    cases hv : valV kvs (.inl (L : Int)) with
    | none =>
      refine ⟨l0, _, rfl, .inl ⟨SqL.of hl0, fun q nq => ?_⟩⟩
      refine k q [] _ (s2.trans (same_upd nq _)) (s2.free nq) upd_same ?_
      rw [FD2.non L hv]
      exact ⟨rfl, fun _ _ _ h => nomatch h⟩
    | some v =>
      obtain ⟨a, ps, rfl, ha, hP⟩ := FD2.som L v hv
      refine ⟨a, _, rfl, .inl ⟨SqL.of ha, fun q nq => ?_⟩⟩
      exact k q ps _ (s2.trans (same_upd nq _)) (s2.free nq) upd_same (hP.same (same_upd nq _))
end
end TR


namespace TR
open PySem PySem.Spec PyProof.Rows L2 L2.TT StX ClX
noncomputable def psL (tr : List E2) : Nat := ((lngP tr).length - 1) / 2
def spPsg (C : Addr) : Sp := fun vs H Q _ => ∃ (r : Addr) (tr : List E2), vs = [.ref r] ∧ RailAt C H r tr ∧ ∀ H' : Hp, Same H H' → Q (iv (psL tr)) H'
def spTrn (C : Addr) : Sp := fun vs H Q _ => ∃ (r : Addr) (tr : List E2), vs = [.ref r] ∧ RailAt C H r tr ∧ ∀ (M : Nat) (H' : Hp), Same H H' → RkM tr 2 M → Q (iv M) H'
def fcN (L p t : Nat) : Nat := if p < L then 0 else if L ≤ t then 1 else 2
def spFcl : Sp := fun vs H Q _ => ∃ L p t : Nat, vs = [iv L, iv p, iv t] ∧ Q (iv (fcN L p t)) H
def spCfc (C : Addr) : Sp := fun vs H Q _ => ∃ (r : Addr) (tr : List E2) (L : Nat), vs = [.ref r, iv L] ∧ RailAt C H r tr ∧ ∀ (M : Nat) (H' : Hp), Same H H' → RkM tr 2 M → Q (iv (fcN L (psL tr) M)) H'
def spTru (C : Addr) : Sp := fun vs H Q _ => ∃ (r : Addr) (tr : List E2) (L : Nat), vs = [.ref r, iv L] ∧ RailAt C H r tr ∧ 1 ≤ L ∧
  ∀ (q : Addr) (H' : Hp), Same H H' → H q = none → H' q = some (.tup ((mnyS tr L 2).map iv)) → Q (.ref q) H'
def spCcl (C : Addr) : Sp := fun vs H Q _ => ∃ (r : Addr) (tr : List E2) (L : Nat), vs = [.ref r, iv L] ∧ RailAt C H r tr ∧ 1 ≤ L ∧ tr.length ≤ 50 ∧
  ∀ (q : Addr) (n M : Nat) (H' : Hp), Same H H' → RkM tr 2 M → H' q = some (.tup [iv n, iv (fcN L (psL tr) M)]) → Q (.ref q) H'
theorem rkS_all {tr : List E2} {r : Nat} {ms : List Nat} (hl : ms.length = tr.length + 1) (hm : ∀ s m, ms[s]? = some m → RkS tr r s m) {M : Nat} (h1 : M ∈ ms) (h2 : ∀ m ∈ ms, m ≤ M) : RkM tr r M := fun L hL => by
  constructor
  · intro q
    obtain ⟨s, hs⟩ := List.mem_iff_getElem?.mp h1
    have := (List.getElem?_eq_some_iff.mp hs).1
    exact ⟨s, by omega, (hm s M hs L hL).mp q⟩
  · rintro ⟨s, a, b⟩
    have hs : ms[s]? = some ms[s] := List.getElem?_eq_getElem (by omega)
    have := (hm s _ hs L hL).mpr b
    have := h2 _ (List.mem_of_getElem? hs)
    omega
section
variable {P : Program} {w : World} {K : PySem.W.Frag} {mg : Str → Option Value} {base : Heap}
abbrev N_sc_psg : List Str := ["railway"]
theorem sc_psg : FnScope N_sc_psg ["railway"] (defScope s_passing_length) := ⟨rfl, rfl, rfl, by decide +kernel, rfl, by decide +kernel, by decide +kernel⟩
theorem ok_psg {f fD C : Addr} {fd fdD : FuncData} (F : Fun K "passing_length" "passing_length" s_passing_length f fd) (UD : Use P w K mg base CX0 8 "diameter" fD fdD ["railway"] (spDiam C)) : FnOk P w K mg base CX0 9 f fd ["railway"] (spPsg C) := by
  refine F.ok sc_psg (fun vs H Q E h => ?_) (fun cdv A outer s H vs Q E hr h => ?_)
  · obtain ⟨r, tr, rfl, _⟩ := h
    rfl
  · obtain ⟨r, tr, rfl, R, k⟩ := h
    refine ⟨_, (pss_one (ps_ret (pe_op op_fdiv (pe_use UD hr (by rfl) (pa_cons (pv 0) pa_nil)) pe_int))), ?_⟩
    refine ⟨_, rfl, r, tr, rfl, R, fun H1 s1 => ?_⟩
    have lp := sw_pos (lng_spec R.T).1
    have e : V.int (((lngP tr).length : Int) - 1) = iv ((lngP tr).length - 1) := by
      show V.int _ = V.int _
      congr 1
      omega
    rw [e]
    exact ⟨_, _, rfl, rfl, ⟨by decide, by decide⟩, k H1 s1⟩
abbrev N_sc_fcl : List Str := ["length", "passing", "turning"]
theorem sc_fcl : FnScope N_sc_fcl ["length", "passing", "turning"] (defScope s_free_classes) := ⟨rfl, rfl, rfl, by decide +kernel, rfl, by decide +kernel, by decide +kernel⟩
theorem ok_fcl {f : Addr} {fd : FuncData} (F : Fun K "free_classes" "free_classes" s_free_classes f fd) : FnOk P w K mg base CX0 1 f fd ["length", "passing", "turning"] spFcl := by
  refine F.ok sc_fcl (fun vs H Q E h => ?_) (fun cdv A outer s H vs Q E hr h => ?_)
  · obtain ⟨L, p, t, rfl, _⟩ := h
    rfl
  · obtain ⟨L, p, t, rfl, k⟩ := h
    refine ⟨_, (pss_cons (ps_if (pt_cmpR op_gt (pv 0) (pv 1) (nomark _)) (pss_one (ps_ret pe_int)) pss_nil)
        (pss_one (ps_ret (pe_ifExp (pt_cmpR op_le (pv 0) (pv 2) (nomark _)) pe_int pe_int)))), ?_⟩
    refine ⟨_, rfl, _, rfl, _, _, rfl, rfl, _, rfl, ?_⟩
    unfold fcN at k
    by_cases c : p < L
    · rw [show decide ((p : Int) < (L : Int)) = true from decide_eq_true (by omega)]
      rw [if_pos c] at k
      exact iteT k
    · rw [show decide ((p : Int) < (L : Int)) = false from decide_eq_false (by omega)]
      rw [if_neg c] at k
      refine iteF ?_
      refine ⟨_, rfl, _, rfl, _, _, rfl, rfl, _, rfl, ?_⟩
      by_cases d : L ≤ t
      · rw [show decide ((L : Int) ≤ (t : Int)) = true from decide_eq_true (by omega)]
        rw [if_pos d] at k
        exact iteT k
      · rw [show decide ((L : Int) ≤ (t : Int)) = false from decide_eq_false (by omega)]
        rw [if_neg d] at k
        exact iteF k
abbrev N_sc_trk2 : List Str := ["railway", "length"]
theorem sc_trk2 : FnScope N_sc_trk2 ["railway", "length"] (defScope s_trunk) := ⟨rfl, rfl, rfl, by decide +kernel, rfl, by decide +kernel, by decide +kernel⟩
theorem ok_trk2 {f fS C : Addr} {fd fdS : FuncData} (F : Fun K "trunk" "trunk" s_trunk f fd) (US : Use P w K mg base CX0 11 "_stations_with_deep_branches" fS fdS ["railway", "length", "least"] (spSwd C)) : FnOk P w K mg base CX0 12 f fd ["railway", "length"] (spTru C) := by
  refine F.ok sc_trk2 (fun vs H Q E h => ?_) (fun cdv A outer s H vs Q E hr h => ?_)
  · obtain ⟨r, tr, L, rfl, _⟩ := h
    rfl
  · obtain ⟨r, tr, L, rfl, R, hL, k⟩ := h
    refine ⟨_, (pss_one (ps_ret (pe_use US hr (by rfl) (pa_cons (pv 0) (pa_cons (pv 1) (pa_cons pe_int pa_nil)))))), ?_⟩
    exact ⟨_, rfl, _, rfl, r, tr, L, 2, rfl, R, hL, fun q H' s1 nq hq => k q H' s1 nq hq⟩
abbrev N_sc_trn : List Str := ["railway", "station"]
theorem sc_trn : FnScope N_sc_trn ["railway"] (defScope s_turning_length) := ⟨rfl, rfl, rfl, by decide +kernel, rfl, by decide +kernel, by decide +kernel⟩
theorem ok_trn {f fT C p g : Addr} {fd fdT fdS : FuncData} (F : Fun K "turning_length" "turning_length" s_turning_length f fd) (N : Nm mg) (UT : Use P w K mg base CX0 10 "_third_depth" fT fdT ["railway", "station"] (spThd C)) (Z : SizeOf P w K mg base C p g fdS) : FnOk P w K mg base CX0 11 f fd ["railway"] (spTrn C) := by
  refine F.ok sc_trn (fun vs H Q E h => ?_) (fun cdv A outer s H vs Q E hr h => ?_)
  · obtain ⟨r, tr, rfl, _⟩ := h
    rfl
  · obtain ⟨r, tr, rfl, R, k⟩ := h
    refine ⟨_, (pss_one (ps_ret (pe_callB (cr_max rfl) (by rfl) N.max boot_max (pa_cons (pe_lc (own := [("station", 1)]) (g := (gName 1)) (tt := tYes) rfl sc_trn.nd (pi_range1 (by rfl) N.range (pa_cons (pe_prop (pv 0) Z.cl Z.hp Z.G (hr.mono (by decide)) Z.b .nil pass0 rfl) pa_nil)) (blkOk_by (N := N_sc_trn) (sc := defScope s_turning_length) (by decide +kernel)) (fun _ _ _ _ _ => pg_name (i := 1) sc_trn.nd rfl (Or.inl rfl)) (fun _ _ _ _ _ => pts_nil) (fun _ _ _ _ _ => (pe_use UT hr (by rfl) (pa_cons (pv 0) (pa_cons (pv 1) pa_nil))))) pa_nil)))), ?_⟩
    have few := R.few
    obtain ⟨_, _, dx, _, _, _, _, _, _, h1, _⟩ := id R
    have e62 : (2 : Int) ^ 62 = 4611686018427387904 := by decide
    refine ⟨_, rfl, r, dx, _, rfl, h1, r, tr, rfl, R, _, rfl, by rw [e62]; omega, by rw [e62]; omega, fun D nD => ?_⟩
    refine lc_range (lo := 0) (fun i H' => Same H H' ∧ ∃ ms : List Nat, H' D = some (.lst (ms.map iv)) ∧ ms.length = i ∧ ∀ s m, ms[s]? = some m → RkS tr 2 s m) ⟨same_upd nD _, [], upd_same, rfl, fun s m h => (by cases h)⟩ ?_ ?_
    · rintro i H' hi ⟨s2, ms, hD, lm, hm⟩
      have hi : i ≤ tr.length := by
        have : i < ((tr.length : Int) + 1).toNat := hi
        omega
      rw [Int.zero_add]
      refine ⟨rfl, _, rfl, _, rfl, r, tr, i, rfl, R.same s2, hi, fun M H2 s3 hM => ?_⟩
      refine ⟨_, s3 _ _ hD, by rw [List.length_map, sizeLine_eq]; omega, same_old (s2.trans s3) nD _, ms ++ [M], by rw [upd_same, List.map_append]; rfl, by rw [List.length_append, lm]; rfl, fun s m h => ?_⟩
      by_cases c : s < ms.length
      · rw [List.getElem?_append_left c] at h
        exact hm s m h
      · rw [List.getElem?_append_right (by omega)] at h
        have : s - ms.length = 0 := by
          have := (List.getElem?_eq_some_iff.mp h).1
          simp at this
          omega
        rw [this] at h
        cases h
        have : s = i := by omega
        subst this
        exact hM
    rintro H2 ⟨s2, ms, hD, lm, hm⟩
    have lm : ms.length = tr.length + 1 := by omega
    refine ⟨D, ms.map (fun m => ((m : Nat) : Int)), rfl, SqL.of (by rw [hD, List.map_map]; rfl), by rw [List.length_map]; omega, fun Mi hMi hg => ?_⟩
    obtain ⟨M, hM, rfl⟩ := List.mem_map.mp hMi
    exact k M H2 s2 (rkS_all lm hm hM fun m h => by
      have := hg _ (List.mem_map.mpr ⟨m, h, rfl⟩)
      omega)
abbrev N_sc_cfc : List Str := ["railway", "length"]
theorem sc_cfc : FnScope N_sc_cfc ["railway", "length"] (defScope s_count_free_classes) := ⟨rfl, rfl, rfl, by decide +kernel, rfl, by decide +kernel, by decide +kernel⟩
theorem ok_cfc {f fF fP fT C : Addr} {fd fdF fdP fdT : FuncData} (F : Fun K "_count_free_classes" "_count_free_classes" s_count_free_classes f fd) (UF : Use P w K mg base CX0 1 "free_classes" fF fdF ["length", "passing", "turning"] spFcl) (UP : Use P w K mg base CX0 9 "passing_length" fP fdP ["railway"] (spPsg C)) (UT : Use P w K mg base CX0 11 "turning_length" fT fdT ["railway"] (spTrn C)) :
    FnOk P w K mg base CX0 12 f fd ["railway", "length"] (spCfc C) := by
  refine F.ok sc_cfc (fun vs H Q E h => ?_) (fun cdv A outer s H vs Q E hr h => ?_)
  · obtain ⟨r, tr, L, rfl, _⟩ := h
    rfl
  · obtain ⟨r, tr, L, rfl, R, k⟩ := h
    have hr1 : Room 1 (A.deeper (envOfC "_count_free_classes" (defScope s_count_free_classes) s.heap.objs.size f cdv)) := hr.mono (by decide)
    have hr9 : Room 9 (A.deeper (envOfC "_count_free_classes" (defScope s_count_free_classes) s.heap.objs.size f cdv)) := hr.mono (by decide)
    refine ⟨_, (pss_one (ps_ret (pe_use UF hr1 (by rfl) (pa_cons (pv 1) (pa_cons (pe_use UP hr9 (by rfl) (pa_cons (pv 0) pa_nil)) (pa_cons (pe_use UT hr (by rfl) (pa_cons (pv 0) pa_nil)) pa_nil)))))), ?_⟩
    exact ⟨_, rfl, _, rfl, r, tr, rfl, R, fun H1 s1 => ⟨_, rfl, r, tr, rfl, R.same s1, fun M H2 s2 hM => ⟨L, _, M, rfl, k M H2 (s1.trans s2) hM⟩⟩⟩
abbrev N_sc_ccl : List Str := ["railway", "length"]
theorem sc_ccl : FnScope N_sc_ccl ["railway", "length"] (defScope s_count_classes) := ⟨rfl, rfl, rfl, by decide +kernel, rfl, by decide +kernel, by decide +kernel⟩
theorem ok_ccl {f fF fK C : Addr} {fd fdF fdK : FuncData} (F : Fun K "count_classes" "count_classes" s_count_classes f fd) (N : Nm mg) (UK : Use P w K mg base CX0 12 "pockets" fK fdK ["railway", "length"] (spPks C)) (UF : Use P w K mg base CX0 12 "_count_free_classes" fF fdF ["railway", "length"] (spCfc C)) :
    FnOk P w K mg base CX0 13 f fd ["railway", "length"] (spCcl C) := by
  refine F.ok sc_ccl (fun vs H Q E h => ?_) (fun cdv A outer s H vs Q E hr h => ?_)
  · obtain ⟨r, tr, L, rfl, _⟩ := h
    rfl
  · obtain ⟨r, tr, L, rfl, R, hL, few, k⟩ := h
    refine ⟨_, (pss_one (ps_ret (pe_tup (pa_cons (pe_callB call_len_seq (by rfl) N.len boot_len (pa_cons (pe_use UK hr (by rfl) (pa_cons (pv 0) (pa_cons (pv 1) pa_nil))) pa_nil)) (pa_cons (pe_use UF hr (by rfl) (pa_cons (pv 0) (pa_cons (pv 1) pa_nil))) pa_nil))))), ?_⟩
    have two : (2 : Nat) ≤ sizeLine := by rw [sizeLine_eq]; decide
    refine ⟨_, rfl, _, rfl, r, tr, L, rfl, hL, R, few, fun q ps H1 s1 nq hq hP => ⟨q, _, rfl, .inr (SqT.of hq), ?_⟩⟩
    refine ⟨_, rfl, _, rfl, r, tr, L, rfl, R.same s1, fun M H2 s2 hM => ⟨two, fun p np => ?_⟩⟩
    exact k p _ M _ ((s1.trans s2).trans (same_upd np _)) hM upd_same
end
end TR


namespace TR
open PySem PySem.Spec PyProof.Rows L2 L2.TT StX ClX
/-- the lists of neighbours -/
structure Ard (K : PySem.W.Frag) (H : Hp) (a : Addr) (tr : List E2) : Prop where
  ex : ∃ ts : List Addr, SqL K H a (ts.map V.ref) ∧ ts.length = tr.length + 1 ∧ ∀ (v : Nat) (t : Addr), ts[v]? = some t → H t = some (.lst ((nb tr v).map iv))
theorem Ard.same {K : PySem.W.Frag} {H H' : Hp} {a : Addr} {tr : List E2} (h : Ard K H a tr) (s : Same H H') : Ard K H' a tr := by
  obtain ⟨ts, h1, h2, h3⟩ := h.ex
  exact ⟨ts, s.seq h1, h2, fun v t e => s _ _ (h3 v t e)⟩
theorem Ard.row {K : PySem.W.Frag} {H : Hp} {a : Addr} {tr : List E2} (h : Ard K H a tr) {v : Nat} (hv : v ≤ tr.length) : ∃ (xs : List V) (t : Addr), SqL K H a xs ∧ xs[v]? = some (.ref t) ∧ H t = some (.lst ((nb tr v).map iv)) := by
  obtain ⟨ts, h1, h2, h3⟩ := h.ex
  have lt : v < ts.length := by omega
  exact ⟨_, ts[v], h1, map_get (List.getElem?_eq_getElem lt), h3 v _ (List.getElem?_eq_getElem lt)⟩
theorem Ard.fr {K : PySem.W.Frag} {H H' : Hp} {a dr : Addr} {tr : List E2} {kvs : List (Key × V)} (h : Ard K H a tr) (k : Fr dr H H') (hd : H dr = some (.dK kvs)) : Ard K H' a tr := by
  obtain ⟨ts, h1, h2, h3⟩ := h.ex
  refine ⟨ts, ?_, h2, fun v t e => k _ _ (h3 v t e) (ne_of (h3 v t e) hd (by intro z; cases z))⟩
  rcases h1 with (h1 | ⟨ob, h1⟩) | h1
  · exact .inl (.inl (k _ _ h1 (ne_of h1 hd (by intro z; cases z))))
  · exact .inl (.inr ⟨ob, k _ _ h1 (ne_of h1 hd (by intro z; cases z))⟩)
  · exact .inr h1
theorem tupF {H H' : Hp} {dr p : Addr} {xs : List V} {kvs : List (Key × V)} (k : Fr dr H H') (hd : H dr = some (.dK kvs)) (h : H p = some (.tup xs)) : H' p = some (.tup xs) := k _ _ h (ne_of h hd (by intro z; cases z))
theorem lstF {H H' : Hp} {dr p : Addr} {xs : List V} {kvs : List (Key × V)} (k : Fr dr H H') (hd : H dr = some (.dK kvs)) (h : H p = some (.lst xs)) : H' p = some (.lst xs) := k _ _ h (ne_of h hd (by intro z; cases z))
end TR

namespace TR
open PySem PySem.Spec PyProof.Rows L2 L2.TT StX ClX
def spArU (K : PySem.W.Frag) : Sp := fun vs H Q _ => ∃ (a : Addr) (ps : List Addr) (tr : List E2), vs = [.ref a] ∧ SqT K H a (ps.map V.ref) ∧ Prs H ps tr ∧ (∀ e ∈ tr, e.1 ≠ e.2 ∧ e.1 < tr.length + 1 ∧ e.2 < tr.length + 1) ∧ tr.length ≤ 999 ∧
  ∀ (D : Addr) (ts : List Addr) (H' : Hp), Same H H' → Rws H H' D (tr.length + 1) HO.lst ts (rowOf tr) → Q (.ref D) H'
section
variable {P : Program} {w : World} {K : PySem.W.Frag} {mg : Str → Option Value} {base : Heap}
abbrev N_sc_lku : List Str := ["tracks", "found", "station", "one", "two"]
theorem sc_lku : FnScope N_sc_lku ["tracks"] (defScope s_law_links) := ⟨rfl, rfl, rfl, by decide +kernel, rfl, by decide +kernel, by decide +kernel⟩
theorem ok_lku {f : Addr} {fd : FuncData} (F : Fun K "_law_links" "_law_links" s_law_links f fd) (N : Nm mg) : FnOk P w K mg base CX0 1 f fd ["tracks"] (spArU K) := by
  refine F.ok sc_lku (fun vs H Q E h => ?_) (fun cdv A outer s H vs Q E hr h => ?_)
  · obtain ⟨a, ps, tr, rfl, _⟩ := h
    rfl
  · obtain ⟨a, ps, tr, rfl, hS, hP, T, hl, k⟩ := h
    refine ⟨_, (pss_cons (ps_setLc (i := 1) (own := [("station", 2)]) (g := (gName 2)) (tt := tYes) (by rfl) sc_lku.nd rfl rfl (sw_true rfl rfl rfl (by decide +kernel)) (pi_range1 (by rfl) N.range (pa_cons (pe_op op_add (pe_callB call_len_seq (by rfl) N.len boot_len (pa_cons (pv 0) pa_nil)) pe_int) pa_nil)) (blkOk_by (N := N_sc_lku) (sc := defScope s_law_links) (by decide +kernel)) (fun _ _ _ _ _ => pg_name (i := 2) sc_lku.nd rfl (Or.inl rfl)) (fun _ _ _ _ _ => pts_nil) (fun _ _ _ _ _ => (pe_lst pa_nil)))
        (pss_cons (ps_for PassesOwn.never rfl (pi_tup (pv 0)) (pg_tup rfl (pgs_cons (pg_name (i := 3) sc_lku.nd rfl (.inl rfl)) (pgs_cons (pg_name (i := 4) sc_lku.nd rfl (.inl rfl)) pgs_nil)))
          (pss_cons (ps_expr (pe_bm PySem.F.plainAttrs_list PySem.F.slot_list_append PySem.F.type_list_append mt_append (pe_ix ix_list (pv 1) (pv 3) (fun _ _ => rfl)) (pa_cons (pv 4) pa_nil)))
          (pss_one (ps_expr (pe_bm PySem.F.plainAttrs_list PySem.F.slot_list_append PySem.F.type_list_append mt_append (pe_ix ix_list (pv 1) (pv 4) (fun _ _ => rfl)) (pa_cons (pv 3) pa_nil))))))
        (pss_one (ps_ret (pv 1))))), ?_⟩
    have lp : (ps.map V.ref).length = tr.length := by rw [List.length_map, hP.1]
    have e62 : (2 : Int) ^ 62 = 4611686018427387904 := by decide
    refine ⟨_, rfl, a, _, rfl, .inr hS, _, _, rfl, rfl, _, rfl, by omega, by rw [lp, e62]; omega, fun r nr => ?_⟩
    refine lc_range (lo := 0) (fun i H' => ∃ as, Rws H H' r i HO.lst as (fun _ => []) ∧ Same H H') ⟨[], rws_start _ _ nr, same_upd nr _⟩ ?_ ?_
    · rintro i H' hi ⟨as, R, s1⟩
      refine ⟨rfl, by show 0 ≤ sizeLine; exact Nat.zero_le _, fun p np => ⟨as.map V.ref, ?_, ?_, as ++ [p], ?_, ?_⟩⟩
      · have npr : r ≠ p := fun z => by rw [← z, R.own] at np; cases np
        rw [upd_ne npr]
        exact R.own
      · rw [List.length_map, R.len, sizeLine_eq]
        rw [lp] at hi
        omega
      · exact R.grow s1 np (fun b hb _ => upd_ne hb) upd_same
      · exact same_old (s1.trans (same_upd np _)) nr _
    rintro H1 ⟨as, R, s1⟩
    have en : (((ps.map V.ref).length : Int) + 1).toNat = tr.length + 1 := by rw [lp]; omega
    have R1 : Rws H H1 r (tr.length + 1) HO.lst as (fun _ => []) := en ▸ R
    clear R
    -- for one, other in tracks
    refine ⟨_, rfl, a, rfl, ⟨_, s1.tp hS⟩, for_tup (K := K) (a := a) (xs := ps.map V.ref) (fun i σ H' => ∃ (as : List Addr) (x2 x3 x4 : Option V), σ = [some (.ref a), some (.ref r), x2, x3, x4] ∧ Same H H' ∧ Rws H H' r (tr.length + 1) HO.lst as (rowOf (tr.take i)))
      ⟨as, none, none, none, rfl, s1, R1⟩ (fun i σ H' _ ⟨_, _, _, _, _, s2, _⟩ => s2.tp hS) ?_ ?_⟩
    · rintro i v σ H' hv ⟨as, x2, x3, x4, rfl, s2, R⟩
      obtain ⟨p, e, rfl, hp, he, hH⟩ := hP.get hv
      have hm := List.mem_of_getElem? he
      obtain ⟨ne, b1, b2⟩ := T e hm
      have hH2 := s2 _ _ hH
      refine ⟨p, _, rfl, SqT.of hH2, rfl, ?_⟩
      refine ⟨_, _, rfl, _, _, rfl, rfl, ?_⟩
      obtain ⟨r1, g1, h1, n1, d1⟩ := R.get b1
      have hlen : ∀ u, ((rowOf (tr.take i) u).map iv).length ≤ 999 := fun u => by
        rw [List.length_map]
        have := rowOf_len (tr.take i) u
        rw [List.length_take] at this
        omega
      refine ⟨_, rfl, _, rfl, r, _, _, _, rfl, rfl, SqL.of R.own, atN (map_get g1), .inl ⟨rfl, _, SqL.of h1⟩, _, rfl, _, _, _, rfl, rfl, h1, by rw [sizeLine_eq]; have := hlen e.1; omega, ?_⟩
      have e1 : (rowOf (tr.take i) e.1).map iv ++ [iv e.2] = ((fun u => if u = e.1 then rowOf (tr.take i) u ++ [e.2] else rowOf (tr.take i) u) e.1).map iv := by simp
      have R2 := R.put (g := fun u => if u = e.1 then rowOf (tr.take i) u ++ [e.2] else rowOf (tr.take i) u) g1 (fun u hu => by simp [hu])
      rw [← e1] at R2
      have s3 := same_old s2 n1 (.lst ((rowOf (tr.take i) e.1).map iv ++ [iv e.2]))
      generalize upd H' r1 (.lst ((rowOf (tr.take i) e.1).map iv ++ [iv e.2])) = H2 at R2 s3
      obtain ⟨r2, g2, h2, n2, d2⟩ := R2.get b2
      rw [if_neg fun z => ne z.symm] at h2
      refine ⟨_, rfl, _, rfl, r, _, _, _, rfl, rfl, SqL.of R2.own, atN (map_get g2), .inl ⟨rfl, _, SqL.of h2⟩, _, rfl, _, _, _, rfl, rfl, h2, by rw [sizeLine_eq]; have := hlen e.2; omega, ?_⟩
      have et : tr.take (i + 1) = tr.take i ++ [e] := take_snoc he
      have e2 : (rowOf (tr.take i) e.2).map iv ++ [iv e.1] = (rowOf (tr.take (i + 1)) e.2).map iv := by
        rw [et, rowOf_snoc, List.map_append]
        have : bit e.2 e = [e.1] := by unfold bit; rw [if_neg ne, if_pos rfl]
        rw [this]
        rfl
      refine ⟨as, _, _, _, rfl, same_old s3 n2 _, ?_⟩
      rw [e2]
      refine R2.put g2 fun u hu => ?_
      rw [et, rowOf_snoc]
      show rowOf (tr.take i) u ++ bit u e = if u = e.1 then rowOf (tr.take i) u ++ [e.2] else rowOf (tr.take i) u
      by_cases c : u = e.1
      · rw [if_pos c]
        unfold bit
        rw [if_pos c.symm]
      · rw [if_neg c]
        unfold bit
        rw [if_neg fun z => c z.symm, if_neg fun z => hu z.symm, List.append_nil]
    · rintro σ H' ⟨as, x2, x3, x4, rfl, s2, R⟩
      have ea : tr.take (ps.map V.ref).length = tr := by rw [lp]; exact List.take_length
      rw [ea] at R
      exact ⟨_, rfl, k r as H' s2 R⟩
end
end TR


namespace TR
open PySem PySem.Spec PyProof.Rows L2 L2.TT StX ClX
/-- lists of neighbours in any order -/
structure ArU (K : PySem.W.Frag) (H : Hp) (a : Addr) (tr : List E2) : Prop where
  ex : ∃ ts : List Addr, SqL K H a (ts.map V.ref) ∧ ts.length = tr.length + 1 ∧ ∀ (v : Nat) (t : Addr), ts[v]? = some t → ∃ xs : List Nat, H t = some (.lst (xs.map iv)) ∧ xs.Perm (nb tr v)
theorem ArU.same {K : PySem.W.Frag} {H H' : Hp} {a : Addr} {tr : List E2} (h : ArU K H a tr) (s : Same H H') : ArU K H' a tr := by
  obtain ⟨ts, h1, h2, h3⟩ := h.ex
  exact ⟨ts, s.seq h1, h2, fun v t e => let ⟨xs, a, b⟩ := h3 v t e; ⟨xs, s _ _ a, b⟩⟩
theorem ArU.row {K : PySem.W.Frag} {H : Hp} {a : Addr} {tr : List E2} (h : ArU K H a tr) {v : Nat} (hv : v ≤ tr.length) : ∃ (rs : List V) (t : Addr) (xs : List Nat), SqL K H a rs ∧ rs[v]? = some (.ref t) ∧ H t = some (.lst (xs.map iv)) ∧ xs.Perm (nb tr v) := by
  obtain ⟨ts, h1, h2, h3⟩ := h.ex
  have lt : v < ts.length := by omega
  obtain ⟨xs, a, b⟩ := h3 v ts[v] (List.getElem?_eq_getElem lt)
  exact ⟨_, ts[v], xs, h1, map_get (List.getElem?_eq_getElem lt), a, b⟩
/-- the rows of all distances -/
structure GpR (K : PySem.W.Frag) (H : Hp) (a : Addr) (tr : List E2) : Prop where
  ex : ∃ ts : List Addr, SqL K H a (ts.map V.ref) ∧ ts.length = tr.length + 1 ∧ ∀ (v : Nat) (t : Addr), ts[v]? = some t → H t = some (.lst ((List.range (tr.length + 1)).map fun u => iv (dst tr v u)))
theorem GpR.same {K : PySem.W.Frag} {H H' : Hp} {a : Addr} {tr : List E2} (h : GpR K H a tr) (s : Same H H') : GpR K H' a tr := by
  obtain ⟨ts, h1, h2, h3⟩ := h.ex
  exact ⟨ts, s.seq h1, h2, fun v t e => s _ _ (h3 v t e)⟩
/-- the distances that are known -/
structure FarA (tr : List E2) (s : Nat) (ws : List Nat) (gs : List Int) : Prop where
  len : gs.length = tr.length + 1
  at_ : ∀ v, v ≤ tr.length → gs[v]? = some (if v ∈ ws then (dst tr s v : Int) else -1)
theorem FarA.start {tr : List E2} (T : TreeL tr) {s : Nat} (hs : s ≤ tr.length) : FarA tr s [s] ((List.replicate (tr.length + 1) (-1 : Int)).set s 0) := by
  refine ⟨by rw [List.length_set, List.length_replicate], fun v hv => ?_⟩
  rw [List.getElem?_set, List.length_replicate]
  by_cases c : s = v
  · subst c
    rw [if_pos rfl, if_pos (by omega), if_pos (by simp), dst_self T]
    rfl
  · rw [if_neg c, if_neg (by simp; exact fun z => c z.symm), List.getElem?_replicate, if_pos (by omega)]
theorem FarA.add {tr : List E2} {s w : Nat} {ws : List Nat} {gs : List Int} (f : FarA tr s ws gs) (hw : w ≤ tr.length) (hn : w ∉ ws) : FarA tr s (ws ++ [w]) (gs.set w (dst tr s w : Int)) := by
  refine ⟨by rw [List.length_set, f.len], fun v hv => ?_⟩
  rw [List.getElem?_set, f.len]
  by_cases c : w = v
  · subst c
    rw [if_pos rfl, if_pos (by omega), if_pos (by simp)]
  · rw [if_neg c, f.at_ v hv]
    congr 1
    have : (v ∈ ws ++ [w]) ↔ v ∈ ws := by simp; exact fun z => absurd z.symm c
    by_cases d : v ∈ ws
    · rw [if_pos d, if_pos (this.mpr d)]
    · rw [if_neg d, if_neg (fun z => d (this.mp z))]
theorem FarA.all {tr : List E2} {s : Nat} {ws : List Nat} {gs : List Int} (f : FarA tr s ws gs) (h : ∀ v, v ≤ tr.length → v ∈ ws) : gs.map V.int = (List.range (tr.length + 1)).map fun u => iv (dst tr s u) := by
  apply List.ext_getElem?
  intro v
  rw [List.getElem?_map, List.getElem?_map]
  by_cases c : v ≤ tr.length
  · rw [f.at_ v c, if_pos (h v c), List.getElem?_range (by omega)]
    rfl
  · rw [List.getElem?_eq_none (by rw [f.len]; omega), List.getElem?_eq_none (by rw [List.length_range]; omega)]
    rfl
def spGap (K : PySem.W.Frag) : Sp := fun vs H Q _ => ∃ (a : Addr) (tr : List E2), vs = [.ref a] ∧ ArU K H a tr ∧ TreeL tr ∧ tr.length ≤ 999 ∧ ∀ (D : Addr) (H' : Hp), Same H H' → H D = none → GpR K H' D tr → Q (.ref D) H'
section
variable {P : Program} {w : World} {K : PySem.W.Frag} {mg : Str → Option Value} {base : Heap}
abbrev N_sc_gps : List Str := ["links", "rows", "start", "far", "waiting", "at", "near"]
theorem sc_gps : FnScope N_sc_gps ["links"] (defScope s_law_gaps) := ⟨rfl, rfl, rfl, by decide +kernel, rfl, by decide +kernel, by decide +kernel⟩
theorem ok_gps {f : Addr} {fd : FuncData} (F : Fun K "_law_gaps" "_law_gaps" s_law_gaps f fd) (N : Nm mg) : FnOk P w K mg base CX0 1 f fd ["links"] (spGap K) := by
  refine F.ok sc_gps (fun vs H Q E h => ?_) (fun cdv A outer s H vs Q E hr h => ?_)
  · obtain ⟨a, tr, rfl, _⟩ := h
    rfl
  · obtain ⟨a, tr, rfl, hA, T, few, k⟩ := h
    refine ⟨_, (pss_cons (ps_set (i := 1) sc_gps.nd rfl (.inl rfl) (pe_lst pa_nil))
        (pss_cons (ps_for PassesOwn.never rfl (pi_range1 (by rfl) N.range (pa_cons (pe_callB call_len_seq (by rfl) N.len boot_len (pa_cons (pv 0) pa_nil)) pa_nil)) (pg_name (i := 2) sc_gps.nd rfl (.inl rfl))
          (pss_cons (ps_par3 (i := 3) (j := 4) (l := 5) (by rfl) sc_gps.nd rfl rfl rfl (by decide) (by decide) (by decide) rfl rfl rfl (pa_cons (pe_op op_rep (pe_lst (pa_cons (pe_op op_sub pe_int pe_int) pa_nil)) (pe_callB call_len_seq (by rfl) N.len boot_len (pa_cons (pv 0) pa_nil))) (pa_cons (pe_lst (pa_cons (pv 2) pa_nil)) (pa_cons pe_int pa_nil))) (by rfl))
          (pss_cons (ps_asg pe_int (pg_sub (pv 3) (pv 2) set_list))
          (pss_cons (ps_while PassesOwn.never (pt_cmpR op_lt (pv 5) (pe_callB call_len_seq (by rfl) N.len boot_len (pa_cons (pv 4) pa_nil)) (nomark _))
            (pss_cons (ps_for PassesOwn.never rfl (pi_list (pe_ix ix_list (pv 0) (pe_ix ix_list (pv 4) (pv 5) (fun _ _ => rfl)) (fun _ _ => rfl))) (pg_name (i := 6) sc_gps.nd rfl (.inl rfl))
              (pss_one (ps_if (pt_cmpR op_lt (pe_ix ix_list (pv 3) (pv 6) (fun _ _ => rfl)) pe_int (nomark _)) (pss_cons (ps_asg (pe_op op_add (pe_ix ix_list (pv 3) (pe_ix ix_list (pv 4) (pv 5) (fun _ _ => rfl)) (fun _ _ => rfl)) pe_int) (pg_sub (pv 3) (pv 6) set_list))
                (pss_one (ps_expr (pe_bm PySem.F.plainAttrs_list PySem.F.slot_list_append PySem.F.type_list_append mt_append (pv 4) (pa_cons (pv 6) pa_nil))))) pss_nil)))
            (pss_one (ps_set (i := 5) sc_gps.nd rfl (.inl rfl) (pe_op op_add (pv 5) pe_int)))))
          (pss_one (ps_expr (pe_bm PySem.F.plainAttrs_list PySem.F.slot_list_append PySem.F.type_list_append mt_append (pv 1) (pa_cons (pv 3) pa_nil))))))))
        (pss_one (ps_ret (pv 1))))), ?_⟩
    have e62 : (2 : Int) ^ 62 = 4611686018427387904 := by decide
    have one : (1 : Nat) ≤ sizeLine := by rw [sizeLine_eq]; decide
    refine ⟨Nat.zero_le _, fun D nD => ?_⟩
    have s0 := same_upd nD (.lst [])
    have hD0 : upd H D (.lst []) D = some (.lst (([] : List Addr).map V.ref)) := upd_same
    generalize upd H D (.lst []) = H0 at s0 hD0 ⊢
    obtain ⟨ts, g1, g2, g3⟩ := hA.ex
    have lts : (ts.map V.ref).length = tr.length + 1 := by rw [List.length_map, g2]
    refine ⟨_, rfl, a, _, rfl, .inl (s0.seq g1), _, rfl, by omega, by rw [lts, e62]; omega, ?_⟩
    refine for_range (lo := 0) (fun i σ H' => ∃ (qs : List Addr) (x2 x3 x4 x5 x6 : Option V), σ = [some (.ref a), some (.ref D), x2, x3, x4, x5, x6] ∧ Same H H' ∧ H' D = some (.lst (qs.map V.ref)) ∧ qs.length = i ∧ ∀ v t, qs[v]? = some t → t ≠ D ∧ H' t = some (.lst ((List.range (tr.length + 1)).map fun u => iv (dst tr v u))))
      ⟨[], _, _, _, _, _, rfl, s0, hD0, rfl, fun v t h => (by cases h)⟩ ?_ ?_
    · rintro i σ H1 hi ⟨qs, x2, x3, x4, x5, x6, rfl, s1, hD1, lq, rows⟩
      rw [lts] at hi
      have hi : i ≤ tr.length := by
        have : i < ((tr.length + 1 : Nat) : Int).toNat := hi
        omega
      rw [Int.zero_add]
      refine ⟨_, _, rfl, rfl, one, fun e0 n0 => ?_⟩
      have t1 := same_upd n0 (.lst [V.int (0 - 1)])
      have he0 : upd H1 e0 (.lst [V.int (0 - 1)]) e0 = some (.lst [V.int (0 - 1)]) := upd_same
      refine ⟨_, rfl, a, _, rfl, .inl ((s1.trans t1).seq g1), e0, _, _, rfl, rfl, he0, by rw [lts]; omega, by rw [lts]; omega, by rw [lts, sizeLine_eq]; simp; omega, fun F nF => ?_⟩
      have erep : (List.replicate ((ts.map V.ref).length : Int).toNat [V.int (0 - 1)]).flatten = (List.replicate (tr.length + 1) (-1 : Int)).map V.int := by
        rw [lts, show ((tr.length + 1 : Nat) : Int).toNat = tr.length + 1 by omega]
        simp
      rw [erep]
      have t2 := t1.trans (same_upd nF (.lst ((List.replicate (tr.length + 1) (-1 : Int)).map V.int)))
      have hF : upd (upd H1 e0 (.lst [V.int (0 - 1)])) F (.lst ((List.replicate (tr.length + 1) (-1 : Int)).map V.int)) F = _ := upd_same
      have nF1 := t1.free nF
      generalize upd (upd H1 e0 (.lst [V.int (0 - 1)])) F (.lst ((List.replicate (tr.length + 1) (-1 : Int)).map V.int)) = H2 at t2 hF ⊢
      clear erep he0 t1 nF n0
      refine ⟨_, rfl, one, fun W nW => ⟨_, _, _, rfl, ?_⟩⟩
      have t3 := t2.trans (same_upd nW (.lst [iv i]))
      have hF3 := same_upd nW (.lst [iv i]) _ _ hF
      have hW3 : upd H2 W (.lst [iv i]) W = some (.lst (([i] : List Nat).map iv)) := upd_same
      have nW1 := t2.free nW
      have FW : F ≠ W := ne_of_none hF nW
      generalize upd H2 W (.lst [iv i]) = H3 at t3 hF3 hW3 ⊢
      clear t2 hF nW H2
      refine ⟨_, rfl, _, rfl, F, _, _, i, rfl, rfl, hF3, ixN_lt (by rw [List.length_map, List.length_replicate]; omega), ?_⟩
      have t4 : Same H1 (upd H3 F (.lst (((List.replicate (tr.length + 1) (-1 : Int)).map V.int).set i (V.int 0)))) := same_old t3 nF1 _
      have hF4 : upd H3 F (.lst (((List.replicate (tr.length + 1) (-1 : Int)).map V.int).set i (V.int 0))) F = some (.lst (((List.replicate (tr.length + 1) (-1 : Int)).set i 0).map V.int)) := by
        rw [upd_same, List.map_set]
      have hW4 : upd H3 F (.lst (((List.replicate (tr.length + 1) (-1 : Int)).map V.int).set i (V.int 0))) W = _ := (upd_ne FW.symm).trans hW3
      generalize upd H3 F (.lst (((List.replicate (tr.length + 1) (-1 : Int)).map V.int).set i (V.int 0))) = H4 at t4 hF4 hW4 ⊢
      clear t3 hF3 hW3 H3
      have wl : ∀ {ws : List Nat} {n : Nat}, Gp tr i ws n → ws.length ≤ tr.length + 1 := fun g => nd_len g.nd g.le
      refine ⟨fun m σ H' => ∃ (ws : List Nat) (gs : List Int) (n : Nat) (x6 : Option V), m = tr.length + 2 - n ∧ σ = [some (.ref a), some (.ref D), some (iv i), some (.ref F), some (.ref W), some (iv n), x6] ∧ Same H1 H' ∧ H' F = some (.lst (gs.map V.int)) ∧ H' W = some (.lst (ws.map iv)) ∧ FarA tr i ws gs ∧ Gp tr i ws n ∧ n ≤ ws.length,
        ⟨_, [i], _, 0, _, rfl, rfl, t4, hF4, hW4, FarA.start T hi, Gp.start T hi, Nat.zero_le _⟩, ?_⟩
      clear t4 hF4 hW4 H4
      rintro m σ H4 ⟨ws, gs, n, x6, rfl, rfl, t4, hF4, hW4, fa, gp, nl⟩
      have wll := wl gp
      refine ⟨_, rfl, _, rfl, W, _, rfl, .inl (SqL.of hW4), _, _, rfl, rfl, _, rfl, ?_⟩
      by_cases c : n < ws.length
      · rw [show decide ((n : Int) < ((ws.map iv).length : Int)) = true from decide_eq_true (by rw [List.length_map]; omega)]
        refine iteT ?_
        refine ⟨fun σ' H' => ∃ (ws' : List Nat) (gs : List Int) (x6 : Option V), σ' = [some (.ref a), some (.ref D), some (iv i), some (.ref F), some (.ref W), some (iv (n + 1)), x6] ∧ Same H1 H' ∧ H' F = some (.lst (gs.map V.int)) ∧ H' W = some (.lst (ws'.map iv)) ∧ FarA tr i ws' gs ∧ Gp tr i ws' (n + 1) ∧ n + 1 ≤ ws'.length,
          fun σ' H' ⟨ws', gs, x6, e, r⟩ => ⟨tr.length + 2 - (n + 1), by omega, ws', gs, n + 1, x6, rfl, e, r⟩, ?_⟩
        have hv := List.getElem?_eq_getElem c
        generalize ws[n] = v at hv
        have vm := List.mem_of_getElem? hv
        have vl := gp.le v vm
        obtain ⟨rs, t, xs, r1, r2, r3, pm⟩ := (hA.same s1).row vl
        refine ⟨_, rfl, _, rfl, _, rfl, W, _, _, _, rfl, rfl, SqL.of hW4, atN (v := iv v) (by rw [List.getElem?_map, hv]; rfl), a, _, _, _, rfl, rfl, t4.seq r1, atN r2, t, rfl, ⟨_, SqL.of (t4 _ _ r3)⟩, ?_⟩
        refine for_list (K := K) (a := t) (xs := xs.map iv) (fun j σ H' => ∃ (ws' : List Nat) (gs' : List Int) (x6 : Option V), σ = [some (.ref a), some (.ref D), some (iv i), some (.ref F), some (.ref W), some (iv n), x6] ∧ Same H1 H' ∧ H' F = some (.lst (gs'.map V.int)) ∧ H' W = some (.lst (ws'.map iv)) ∧ FarA tr i ws' gs' ∧ Gp tr i ws' n ∧ ws'[n]? = some v ∧ ∀ w ∈ xs.take j, w ∈ ws')
          ⟨ws, gs, _, rfl, t4, hF4, hW4, fa, gp, hv, fun w hw => by cases hw⟩ (fun j σ H' _ ⟨_, _, _, _, t5, _⟩ => SqL.of (t5 _ _ r3)) ?_ ?_
        · rintro j x σ H5 hx ⟨ws5, gs5, x6, rfl, t5, hF5, hW5, fa5, gp5, hv5, seen⟩
          obtain ⟨w, hw, rfl⟩ := map_got hx
          have ad : Adj tr v w := (mem_nb T.ne).mp (pm.mem_iff.mp (List.mem_of_getElem? hw))
          have wle := (T.adj_le ad).2
          have wl5 := wl gp5
          have n5 := (List.getElem?_eq_some_iff.mp hv5).1
          refine ⟨_, rfl, _, rfl, F, _, _, _, rfl, rfl, SqL.of hF5, atN (by rw [List.getElem?_map, fa5.at_ w wle]; rfl), _, _, rfl, rfl, _, rfl, ?_⟩
          by_cases cw : w ∈ ws5
          · rw [if_pos cw, show decide ((dst tr i w : Int) < 0) = false from decide_eq_false (by omega)]
            refine iteF ?_
            exact ⟨ws5, gs5, _, rfl, t5, hF5, hW5, fa5, gp5, hv5, fun y hy => by
              rw [take_snoc hw] at hy
              rcases mem_snoc.mp hy with hy | rfl
              · exact seen y hy
              · exact cw⟩
          · rw [if_neg cw, show decide ((-1 : Int) < 0) = true from rfl]
            refine iteT ?_
            have vm5 := List.mem_of_getElem? hv5
            obtain ⟨gp6, ed⟩ := gp5.add T hi (by omega) vm5 ad cw
            have atv : (gs5.map V.int)[v]? = some (V.int (dst tr i v : Int)) := by
              rw [List.getElem?_map, fa5.at_ v vl, if_pos vm5]
              rfl
            refine ⟨_, rfl, _, rfl, _, rfl, W, _, _, _, rfl, rfl, SqL.of hW5, atN (v := iv v) (by rw [List.getElem?_map, hv5]; rfl), F, _, _, _, rfl, rfl, SqL.of hF5, atN atv, _, _, rfl, rfl, _, rfl, _, rfl, F, _, _, w, rfl, rfl, hF5, ixN_lt (by rw [List.length_map, fa5.len]; omega), ?_⟩
            have fa6 := fa5.add wle cw
            rw [ed] at fa6
            have ev : (gs5.map V.int).set w ((fun i j => V.int (i + j)) (dst tr i v : Int) 1) = (gs5.set w ((dst tr i v + 1 : Nat) : Int)).map V.int := by
              rw [List.map_set]
              rfl
            rw [ev]
            have t6 := same_old t5 nF1 (.lst ((gs5.set w ((dst tr i v + 1 : Nat) : Int)).map V.int))
            have hF6 := upd_same (H := H5) (a := F) (o := .lst ((gs5.set w ((dst tr i v + 1 : Nat) : Int)).map V.int))
            have hW6 : upd H5 F (.lst ((gs5.set w ((dst tr i v + 1 : Nat) : Int)).map V.int)) W = _ := (upd_ne FW.symm).trans hW5
            generalize upd H5 F (.lst ((gs5.set w ((dst tr i v + 1 : Nat) : Int)).map V.int)) = H6 at t6 hF6 hW6 ⊢
            refine ⟨_, rfl, .inl ⟨rfl, _, SqL.of hW6⟩, _, rfl, W, _, _, rfl, rfl, hW6, by rw [List.length_map, sizeLine_eq]; omega, ?_⟩
            refine ⟨ws5 ++ [w], _, _, rfl, same_old t6 nW1 _, by rw [upd_ne FW]; exact hF6, by rw [upd_same, List.map_append]; rfl, fa6, gp6, by rw [List.getElem?_append_left n5]; exact hv5, fun y hy => ?_⟩
            rw [take_snoc hw] at hy
            rcases mem_snoc.mp hy with hy | rfl
            · exact List.mem_append_left _ (seen y hy)
            · simp
        · rintro σ H5 ⟨ws5, gs5, x6, rfl, t5, hF5, hW5, fa5, gp5, hv5, seen⟩
          rw [List.length_map, List.take_length] at seen
          have n5 := (List.getElem?_eq_some_iff.mp hv5).1
          refine ⟨_, rfl, _, _, rfl, rfl, ws5, gs5, _, rfl, t5, hF5, hW5, fa5, gp5.next hv5 (fun w ad => seen w (pm.mem_iff.mpr ((mem_nb T.ne).mpr ad))), by omega⟩
      · rw [show decide ((n : Int) < ((ws.map iv).length : Int)) = false from decide_eq_false (by rw [List.length_map]; omega)]
        refine iteF ?_
        have en : n = ws.length := by omega
        rw [en] at gp
        have ef := fa.all (gp.all T hi)
        rw [ef] at hF4
        have hD4 := t4 _ _ hD1
        have FD : F ≠ D := fun z => by rw [z, hD1] at nF1; cases nF1
        refine ⟨_, rfl, .inl ⟨rfl, _, SqL.of hD4⟩, _, rfl, D, _, _, rfl, rfl, hD4, by rw [List.length_map, sizeLine_eq]; omega, ?_⟩
        refine ⟨qs ++ [F], _, _, _, _, _, rfl, same_old (s1.trans t4) nD _, by rw [upd_same, List.map_append]; rfl, by rw [List.length_append, lq]; rfl, fun v t h => ?_⟩
        by_cases cv : v < qs.length
        · rw [List.getElem?_append_left cv] at h
          obtain ⟨r1, r2⟩ := rows v t h
          exact ⟨r1, by rw [upd_ne r1]; exact t4 _ _ r2⟩
        · rw [List.getElem?_append_right (by omega)] at h
          have : v - qs.length = 0 := by
            cases e : v - qs.length with
            | zero => rfl
            | succ k => rw [e] at h; cases h
          rw [this] at h
          cases h
          have ev : v = i := by omega
          rw [ev]
          exact ⟨FD, by rw [upd_ne FD]; exact hF4⟩
    · rintro σ H1 ⟨qs, x2, x3, x4, x5, x6, rfl, s1, hD1, lq, rows⟩
      rw [lts, show ((tr.length + 1 : Nat) : Int).toNat = tr.length + 1 by omega] at lq
      exact ⟨_, rfl, k D H1 s1 nD ⟨qs, SqL.of hD1, lq, fun v t h => (rows v t h).2⟩⟩
end
end TR


namespace TR
open PySem PySem.Spec PyProof.Rows L2 L2.TT StX ClX
theorem GpR.row {K : PySem.W.Frag} {H : Hp} {a : Addr} {tr : List E2} (h : GpR K H a tr) {v : Nat} (hv : v ≤ tr.length) : ∃ (rs : List V) (t : Addr), SqL K H a rs ∧ rs[v]? = some (.ref t) ∧ H t = some (.lst ((List.range (tr.length + 1)).map fun u => iv (dst tr v u))) := by
  obtain ⟨ts, h1, h2, h3⟩ := h.ex
  have lt : v < ts.length := by omega
  exact ⟨_, ts[v], h1, map_get (List.getElem?_eq_getElem lt), h3 v ts[v] (List.getElem?_eq_getElem lt)⟩
theorem gp_at {tr : List E2} {v u : Nat} (hu : u ≤ tr.length) : atI ((List.range (tr.length + 1)).map fun u => iv (dst tr v u)) (u : Int) = some (iv (dst tr v u)) :=
  atN (by rw [List.getElem?_map, List.getElem?_range (by omega)]; rfl)
end TR

namespace TR
open PySem PySem.Spec PyProof.Rows L2 L2.TT StX ClX
def spLdp (K : PySem.W.Frag) : Sp := fun vs H Q _ => ∃ (g : Addr) (tr : List E2) (p q : Nat), vs = [.ref g, iv p, iv q] ∧ GpR K H g tr ∧ TreeL tr ∧ p ≤ tr.length ∧ q ≤ tr.length ∧ p ≠ q ∧ tr.length ≤ 999 ∧
  ∀ (H' : Hp), Same H H' → Q (iv (dph tr p (stp tr p q))) H'
section
variable {P : Program} {w : World} {K : PySem.W.Frag} {mg : Str → Option Value} {base : Heap}
abbrev N_sc_ldp : List Str := ["gaps", "front", "back", "span", "x"]
theorem sc_ldp : FnScope N_sc_ldp ["gaps", "front", "back"] (defScope s_law_depth) := ⟨rfl, rfl, rfl, by decide +kernel, rfl, by decide +kernel, by decide +kernel⟩
theorem ok_ldp {f : Addr} {fd : FuncData} (F : Fun K "_law_depth" "_law_depth" s_law_depth f fd) (N : Nm mg) : FnOk P w K mg base CX0 1 f fd ["gaps", "front", "back"] (spLdp K) := by
  refine F.ok sc_ldp (fun vs H Q E h => ?_) (fun cdv A outer s H vs Q E hr h => ?_)
  · obtain ⟨g, tr, p, q, rfl, _⟩ := h
    rfl
  · obtain ⟨g, tr, p, q, rfl, G, T, hp, hq, ne, few, k⟩ := h
    refine ⟨_, (pss_cons (ps_set (i := 3) sc_ldp.nd rfl (.inr rfl) (pe_ix ix_list (pe_ix ix_list (pv 0) (pv 1) (fun _ _ => rfl)) (pv 2) (fun _ _ => rfl)))
        (pss_one (ps_ret (pe_callB (cr_max rfl) (by rfl) N.max boot_max (pa_cons (pe_lc (own := [("x", 4)]) (g := (gName 4)) rfl sc_ldp.nd (pi_range1 (by rfl) N.range (pa_cons (pe_callB call_len_seq (by rfl) N.len boot_len (pa_cons (pv 0) pa_nil)) pa_nil)) (blkOk_by (N := N_sc_ldp) (sc := defScope s_law_depth) (by decide +kernel)) (fun _ _ _ _ _ => pg_name (i := 4) sc_ldp.nd rfl (Or.inl rfl)) (fun _ _ _ _ _ => pts_one (pt_cmpR op_eq (pe_ix (ix_K (K := K) rfl) (pe_ix (ix_K (K := K) rfl) (pv 0) (pv 2) (fun _ _ => rfl)) (pv 4) (fun _ _ => rfl)) (pe_op op_add (pv 3) (pe_ix (ix_K (K := K) rfl) (pe_ix (ix_K (K := K) rfl) (pv 0) (pv 1) (fun _ _ => rfl)) (pv 4) (fun _ _ => rfl))) (nomark _))) (fun _ _ _ _ _ => (pe_ix (ix_K (K := K) rfl) (pe_ix (ix_K (K := K) rfl) (pv 0) (pv 1) (fun _ _ => rfl)) (pv 4) (fun _ _ => rfl)))) pa_nil))))), ?_⟩
    have e62 : (2 : Int) ^ 62 = 4611686018427387904 := by decide
    obtain ⟨pr, pt, p1, p2, p3⟩ := G.row hp
    refine ⟨_, rfl, _, rfl, g, _, _, _, rfl, rfl, p1, atN p2, _, rfl, pt, _, _, _, rfl, rfl, SqL.of p3, gp_at hq, ?_⟩
    obtain ⟨ts, g1, g2, g3⟩ := G.ex
    have lts : (ts.map V.ref).length = tr.length + 1 := by rw [List.length_map, g2]
    refine ⟨_, rfl, _, _, rfl, .inl g1, _, rfl, by omega, by rw [lts, e62]; omega, fun D nD => ?_⟩
    refine lc_range (lo := 0) (fun i H' => Same H H' ∧ H' D = some (.lst (((List.range i).filter fun x => decide (dst tr q x = dst tr p q + dst tr p x)).map fun x => iv (dst tr p x)))) ⟨same_upd nD _, upd_same⟩ ?_ ?_
    · rintro i H' hi ⟨s2, hD⟩
      rw [lts] at hi
      have hi : i ≤ tr.length := by
        have : i < ((tr.length + 1 : Nat) : Int).toNat := hi
        omega
      rw [Int.zero_add]
      obtain ⟨qr, qt, q1, q2, q3⟩ := (G.same s2).row hq
      obtain ⟨pr', pt', p1', p2', p3'⟩ := (G.same s2).row hp
      have fl : ((List.range i).filter fun x => decide (dst tr q x = dst tr p q + dst tr p x)).length ≤ i := Nat.le_trans (List.length_filter_le _ _) (by rw [List.length_range]; exact Nat.le_refl _)
      have e1 : (List.range (i + 1)).filter (fun x => decide (dst tr q x = dst tr p q + dst tr p x)) = (List.range i).filter (fun x => decide (dst tr q x = dst tr p q + dst tr p x)) ++ (if dst tr q i = dst tr p q + dst tr p i then [i] else []) := by
        rw [List.range_succ, List.filter_append]
        congr 1
        by_cases c : dst tr q i = dst tr p q + dst tr p i <;> simp [c]
      refine ⟨rfl, _, rfl, _, rfl, g, _, _, _, rfl, rfl, q1, atN q2, _, rfl, qt, _, _, _, rfl, rfl, SqL.of q3, gp_at hi, _, rfl, _, rfl, _, rfl, g, _, _, _, rfl, rfl, p1', atN p2', _, rfl, pt', _, _, _, rfl, rfl, SqL.of p3', gp_at hi, _, _, rfl, rfl, rfl, _, rfl, ?_⟩
      show (fun b H3 => if b = true then _ else _) (decide (iv (dst tr q i) = V.int ((dst tr p q : Int) + (dst tr p i : Int)))) H'
      by_cases c : dst tr q i = dst tr p q + dst tr p i
      · rw [show decide (iv (dst tr q i) = V.int ((dst tr p q : Int) + (dst tr p i : Int))) = true from decide_eq_true (by rw [c]; rfl)]
        rw [if_pos c] at e1
        refine iteT ⟨_, rfl, _, rfl, g, _, _, _, rfl, rfl, p1', atN p2', _, rfl, pt', _, _, _, rfl, rfl, SqL.of p3', gp_at hi, _, hD, by rw [List.length_map, sizeLine_eq]; omega, same_old s2 nD _, ?_⟩
        rw [upd_same, e1, List.map_append]
        rfl
      · rw [show decide (iv (dst tr q i) = V.int ((dst tr p q : Int) + (dst tr p i : Int))) = false from decide_eq_false (fun z => c (by have := V.int.inj z; omega))]
        rw [if_neg c, List.append_nil] at e1
        exact iteF ⟨s2, by rw [e1]; exact hD⟩
    rintro H2 ⟨s2, hD⟩
    rw [lts, show ((tr.length + 1 : Nat) : Int).toNat = tr.length + 1 by omega] at hD
    obtain ⟨f1, v, vl, f2, f3⟩ := dph_far T hp hq ne
    have inn : ∀ x, x ≤ tr.length → dst tr q x = dst tr p q + dst tr p x → ((dst tr p x : Nat) : Int) ∈ ((List.range (tr.length + 1)).filter fun x => decide (dst tr q x = dst tr p q + dst tr p x)).map fun x => ((dst tr p x : Nat) : Int) := fun x hx h =>
      List.mem_map.mpr ⟨x, List.mem_filter.mpr ⟨List.mem_range.mpr (by omega), decide_eq_true h⟩, rfl⟩
    refine ⟨D, ((List.range (tr.length + 1)).filter fun x => decide (dst tr q x = dst tr p q + dst tr p x)).map fun x => ((dst tr p x : Nat) : Int), rfl, SqL.of (by rw [hD, List.map_map]; rfl), List.length_pos_of_mem (inn v vl f2), fun m hm hg => ?_⟩
    have em : V.int m = iv (dph tr p (stp tr p q)) := by
      show V.int m = V.int _
      congr 1
      obtain ⟨x, hx, rfl⟩ := List.mem_map.mp hm
      obtain ⟨x1, x2⟩ := List.mem_filter.mp hx
      have x1 := List.mem_range.mp x1
      have := f1 x (by omega) (of_decide_eq_true x2)
      have := hg _ (inn v vl f2)
      omega
    rw [em]
    exact k H2 s2
end
end TR


namespace TR
open PySem PySem.Spec PyProof.Rows L2 L2.TT StX ClX
def spLth (K : PySem.W.Frag) : Sp := fun vs H Q _ => ∃ (a g : Addr) (tr : List E2) (rk : Nat), vs = [.ref a, .ref g, iv rk] ∧ ArU K H a tr ∧ GpR K H g tr ∧ TreeL tr ∧ tr.length ≤ 99 ∧ ∀ (M : Nat) (H' : Hp), Same H H' → RkM tr rk M → Q (iv M) H'
section
variable {P : Program} {w : World} {K : PySem.W.Frag} {mg : Str → Option Value} {base : Heap}
abbrev N_sc_lth : List Str := ["links", "gaps", "rank", "found", "station", "depths", "near"]
theorem sc_lth : FnScope N_sc_lth ["links", "gaps", "rank"] (defScope s_law_third) := ⟨rfl, rfl, rfl, by decide +kernel, rfl, by decide +kernel, by decide +kernel⟩
theorem ok_lth {f fD : Addr} {fd fdD : FuncData} (F : Fun K "_law_third" "_law_third" s_law_third f fd) (N : Nm mg) (UD : Use P w K mg base CX0 1 "_law_depth" fD fdD ["gaps", "front", "back"] (spLdp K)) : FnOk P w K mg base CX0 2 f fd ["links", "gaps", "rank"] (spLth K) := by
  refine F.ok sc_lth (fun vs H Q E h => ?_) (fun cdv A outer s H vs Q E hr h => ?_)
  · obtain ⟨a, g, tr, rk, rfl, _⟩ := h
    rfl
  · obtain ⟨a, g, tr, rk, rfl, hA, G, T, few, k⟩ := h
    refine ⟨_, (pss_cons (ps_set (i := 3) sc_lth.nd rfl (.inl rfl) pe_int)
        (pss_cons (ps_for PassesOwn.never rfl (pi_range1 (by rfl) N.range (pa_cons (pe_callB call_len_seq (by rfl) N.len boot_len (pa_cons (pv 0) pa_nil)) pa_nil)) (pg_name (i := 4) sc_lth.nd rfl (.inr rfl))
          (pss_cons (ps_set (i := 5) sc_lth.nd rfl (.inl rfl) (pe_revL (pe_callB cr_sortedI (by rfl) N.sorted boot_sorted (pa_cons (pe_lc (own := [("near", 6)]) (g := (gName 6)) (tt := tYes) rfl sc_lth.nd (pi_list (pe_ix ix_list (pv 0) (pv 4) (fun _ _ => rfl))) (blkOk_by (N := N_sc_lth) (sc := defScope s_law_third) (by decide +kernel)) (fun _ _ _ _ _ => pg_name (i := 6) sc_lth.nd rfl (Or.inl rfl)) (fun _ _ _ _ _ => pts_nil) (fun _ _ _ _ _ => (pe_op op_add pe_int (pe_use UD hr (by rfl) (pa_cons (pv 1) (pa_cons (pv 6) (pa_cons (pv 4) pa_nil))))))) pa_nil))))
          (pss_one (ps_if (pt_cmpR op_gt (pe_callB call_len_seq (by rfl) N.len boot_len (pa_cons (pv 5) pa_nil)) (pv 2) (nomark _)) (pss_one (ps_set (i := 3) sc_lth.nd rfl (.inl rfl) (pe_callB (call_max2 rfl) (by rfl) N.max boot_max (pa_cons (pv 3) (pa_cons (pe_ix ix_list (pv 5) (pv 2) (fun _ _ => rfl)) pa_nil))))) pss_nil))))
        (pss_one (ps_ret (pv 3))))), ?_⟩
    have e62 : (2 : Int) ^ 62 = 4611686018427387904 := by decide
    obtain ⟨ts, a1, a2, a3⟩ := hA.ex
    have lts : (ts.map V.ref).length = tr.length + 1 := by rw [List.length_map, a2]
    refine ⟨_, rfl, _, _, rfl, .inl a1, _, rfl, by rw [e62]; omega, by rw [lts, e62]; omega, ?_⟩
    refine for_range (lo := 0) (fun i σ H' => ∃ (M : Nat) (y4 y5 y6 : Option V), σ = [some (.ref a), some (.ref g), some (iv rk), some (iv M), y4, y5, y6] ∧ Same H H' ∧ RkU tr rk i M) ⟨0, _, _, _, rfl, Same.refl _, rkU_zero⟩ ?_ ?_
    · rintro i σ H1 hi ⟨M, y4, y5, y6, rfl, s1, hM⟩
      rw [lts] at hi
      have hi : i ≤ tr.length := by
        have : i < ((tr.length + 1 : Nat) : Int).toNat := hi
        omega
      rw [Int.zero_add]
      obtain ⟨rs, t, xs, r1, r2, r3, r4⟩ := (hA.same s1).row hi
      have xl := r4.length_eq
      have nbl := nb_len tr i
      have xa : ∀ x ∈ xs, Adj tr i x ∧ x ≤ tr.length := fun x hx => by
        have h := (mem_nb T.ne).mp (r4.mem_iff.mp hx)
        exact ⟨h, (T.adj_le h).2⟩
      have one : (1 : Nat) ≤ sizeLine := by rw [sizeLine_eq]; decide
      refine ⟨_, rfl, _, rfl, a, _, _, _, rfl, rfl, r1, atN r2, t, rfl, ⟨_, SqL.of r3⟩, fun D nD => ?_⟩
      refine lc_list (K := K) (a := t) (xs := xs.map iv) (fun i' H' => Same H1 H' ∧ H' D = some (.lst ((xs.take i').map fun w => iv (dph tr w i + 1)))) ⟨same_upd nD _, upd_same⟩ (fun _ H' _ ⟨s, _⟩ => SqL.of (s _ _ r3)) ?_ ?_
      · rintro c v H' hv ⟨s2, hD⟩
        obtain ⟨w, hw, rfl⟩ := map_got hv
        have cl := (List.getElem?_eq_some_iff.mp hw).1
        obtain ⟨ad, wl⟩ := xa w (List.mem_of_getElem? hw)
        refine ⟨rfl, _, rfl, _, rfl, _, rfl, g, tr, w, i, rfl, (G.same s1).same s2, T, wl, hi, fun z => T.adj_ne ad z.symm, by omega, fun H3 s3 => ?_⟩
        rw [stp_one T ad.sym hi]
        refine ⟨_, _, rfl, rfl, _, s3 _ _ hD, by rw [List.length_map, List.length_take, sizeLine_eq]; omega, same_old (s2.trans s3) nD _, ?_⟩
        rw [upd_same, take_snoc hw, List.map_append]
        rw [show (fun i j => V.int (i + j)) (1 : Int) ((dph tr w i : Nat) : Int) = iv (dph tr w i + 1) from by show V.int _ = V.int _; congr 1; omega]
        rfl
      rintro H2 ⟨s2, hD⟩
      rw [List.length_map, List.take_length] at hD
      refine ⟨D, xs.map fun w => ((dph tr w i + 1 : Nat) : Int), rfl, SqL.of (by rw [hD, List.map_map]; rfl), fun ys p perm od np => ?_⟩
      have hp := upd_same (H := H2) (a := p) (o := .lst (ys.map V.int))
      have s3 := s2.trans (same_upd np (.lst (ys.map V.int)))
      generalize upd H2 p (.lst (ys.map V.int)) = H3 at s3 hp ⊢
      refine ⟨p, _, rfl, SqL.of hp, fun p2 np2 => ?_⟩
      have s4 := s3.trans (same_upd np2 (.lst (ys.map V.int).reverse))
      have hp2 : upd H3 p2 (.lst (ys.map V.int).reverse) p2 = some (.lst (ys.reverse.map V.int)) := by rw [← List.map_reverse]; exact upd_same
      generalize upd H3 p2 (.lst (ys.map V.int).reverse) = H4 at s4 hp2 ⊢
      have od2 : ys.reverse.Pairwise (fun a b => b ≤ a) := List.pairwise_reverse.mpr od
      have perm2 : ys.reverse.Perm (xs.map fun w => ((dph tr w i + 1 : Nat) : Int)) := (List.reverse_perm ys).trans perm
      generalize ys.reverse = zs at hp2 od2 perm2
      have s5 := s1.trans s4
      refine ⟨_, rfl, _, _, rfl, .inl (SqL.of hp2), _, rfl, _, _, rfl, rfl, _, rfl, ?_⟩
      rw [List.length_map]
      by_cases c : rk < zs.length
      · rw [show decide ((rk : Int) < (zs.length : Int)) = true from decide_eq_true (by omega)]
        refine iteT ?_
        obtain ⟨y, hy⟩ : ∃ y, zs[rk]? = some y := ⟨_, List.getElem?_eq_getElem c⟩
        obtain ⟨m, rfl, hm⟩ := rkS_some r4 perm2 od2 hy
        refine ⟨_, rfl, _, rfl, _, rfl, p2, _, _, _, rfl, rfl, SqL.of hp2, atN (by rw [List.getElem?_map, hy]; rfl), _, _, rfl, ?_⟩
        have e : V.int (if (m : Int) > (M : Int) then (m : Int) else (M : Int)) = iv (max M m) := by
          show V.int _ = V.int _
          congr 1
          split <;> omega
        rw [e]
        exact ⟨_, _, _, _, rfl, s5, hM.up hm rfl⟩
      · rw [show decide ((rk : Int) < (zs.length : Int)) = false from decide_eq_false (by omega)]
        refine iteF ?_
        exact ⟨_, _, _, _, rfl, s5, hM.up (rkS_none r4 perm2 od2 (by omega)) (by omega)⟩
    · rintro σ H1 ⟨M, y4, y5, y6, rfl, s1, hM⟩
      rw [lts, show ((tr.length + 1 : Nat) : Int).toNat = tr.length + 1 by omega] at hM
      exact ⟨_, rfl, k M H1 s1 hM⟩
end
end TR


namespace L2.TT
open PySem PySem.Spec PyProof.Rows
theorem maxL_K {X : Cx} {K : PySem.W.Frag} (h : X.K = K) (hc : X.calm = true) : CallR X (.builtin "max") (rMax K) := by
  subst h
  exact cr_max hc
end L2.TT

namespace TR
open PySem PySem.Spec PyProof.Rows L2 L2.TT StX ClX
theorem mnyS_iff {tr : List E2} {L m M : Nat} (hm : 1 ≤ m) (h : RkM tr (m - 1) M) (hL : 1 ≤ L) : mnyS tr L m = [] ↔ M < L := by
  have q := h L hL
  unfold mnyS
  rw [List.filter_eq_nil_iff]
  constructor
  · intro z
    by_cases c : L ≤ M
    · obtain ⟨s, a, b⟩ := q.mp c
      have := z s (List.mem_range.mpr a)
      rw [decide_eq_true_iff] at this
      omega
    · omega
  · intro z s hs w
    rw [decide_eq_true_iff] at w
    have := q.mpr ⟨s, List.mem_range.mp hs, by omega⟩
    omega
theorem shaped_intsN (l : List Nat) : SeqAt.shaped (.tuple (l.map di)) = true := by
  unfold SeqAt.shaped
  rw [Bool.and_eq_true]
  refine ⟨canLay_ints l, decide_eq_true ?_⟩
  show PyData.depthAll (l.map di) + 1 ≤ 64
  rw [depth_ints]
  decide
section
variable {P : Program} {w : World} {K : PySem.W.Frag} {mg : Str → Option Value} {base : Heap}
abbrev N_sc_law : List Str := ["script", "draw", "turn", "tracks", "road", "links", "gaps", "longest", "row", "passing", "turning", "found", "span", "due"]
theorem sc_law : FnScope N_sc_law ["script"] (defScope s_law) := ⟨rfl, rfl, rfl, by decide +kernel, rfl, by decide +kernel, by decide +kernel⟩
theorem ok_law {f fB fT fA fG f3 fK fV fC fP fN fO C pO : Addr} {mc : Value} {fd fdB fdT fdA fdG fd3 fdK fdV fdC fdP fdN : FuncData} (F : Fun K "law" "law" s_law f fd) (N : Nm mg) (X : TxtR K mg C) (hcr : CRead K C mc) (cm : CMet K C mc "of" pO fO) (GO : FnR P w K mg base CX0 7 fO (spRof C))
    (UB : Use P w K mg base CX0 1 "_law_begin" fB fdB ["script"] (spBegin K)) (UT : Use P w K mg base CX0 3 "_law_tracks" fT fdT ["draw", "most"] spTracks) (UA : Use P w K mg base CX0 1 "_law_links" fA fdA ["tracks"] (spArU K)) (UG : Use P w K mg base CX0 1 "_law_gaps" fG fdG ["links"] (spGap K))
    (U3 : Use P w K mg base CX0 2 "_law_third" f3 fd3 ["links", "gaps", "rank"] (spLth K)) (UP : UseK P w K mg base 9 "passing_length" fP fdP ["railway"] ["railway"] id (spPsg C)) (UN : UseK P w K mg base 11 "turning_length" fN fdN ["railway"] ["railway"] id (spTrn C))
    (UK : Use P w K mg base CX0 12 "trunk" fK fdK ["railway", "length"] (spTru C)) (UV : Use P w K mg base CX0 12 "pivots" fV fdV ["railway", "length"] (spPiv C)) (UC : Use P w K mg base CX0 13 "count_classes" fC fdC ["railway", "length"] (spCcl C)) :
    FnG P w K mg base CX0 14 f fd ["script"] (spLaw K) := by
  refine L2.TT.Fun.okG F sc_law (fun vs H Q E h => ?_) (fun cdv A outer s H vs Q E hG hr h => ?_)
  · obtain ⟨a, ns, rfl, _⟩ := h
    rfl
  · obtain ⟨a, ns, rfl, hS, hlen, k⟩ := h
    have hr1 : Room 1 (A.deeper (envOfC "law" (defScope s_law) s.heap.objs.size f cdv)) := hr.mono (by decide)
    have hr2 : Room 2 (A.deeper (envOfC "law" (defScope s_law) s.heap.objs.size f cdv)) := hr.mono (by decide)
    have hr3 : Room 3 (A.deeper (envOfC "law" (defScope s_law) s.heap.objs.size f cdv)) := hr.mono (by decide)
    have hr7 : Room 7 (A.deeper (envOfC "law" (defScope s_law) s.heap.objs.size f cdv)) := hr.mono (by decide)
    have hr9 : Room 9 (A.deeper (envOfC "law" (defScope s_law) s.heap.objs.size f cdv)) := hr.mono (by decide)
    have hr11 : Room 11 (A.deeper (envOfC "law" (defScope s_law) s.heap.objs.size f cdv)) := hr.mono (by decide)
    have hr12 : Room 12 (A.deeper (envOfC "law" (defScope s_law) s.heap.objs.size f cdv)) := hr.mono (by decide)
    have hu64 : (A.deeper (envOfC "law" (defScope s_law) s.heap.objs.size f cdv)).units + 64 < cLine := hr.units
    refine ⟨_, (pss_cons (ps_set (i := 1) sc_law.nd rfl (.inl rfl) (pe_use UB hr1 (by rfl) (pa_cons (pv 0) pa_nil)))
        (pss_cons (ps_for PassesOwn.never rfl (pi_range1 (by rfl) N.range (pa_cons pe_int pa_nil)) (pg_name (i := 2) sc_law.nd rfl (.inl rfl))
          (pss_cons (ps_set (i := 3) sc_law.nd rfl (.inl rfl) (pe_use UT hr3 (by rfl) (pa_cons (pv 1) (pa_cons pe_int pa_nil))))
          (pss_cons (ps_par (i := 4) (j := 5) (by rfl) sc_law.nd rfl rfl (by decide) rfl rfl (pa_cons (pe_cmeth (pe_glob (v := .ref C) (by rfl) X.mgC rfl) hcr cm GO hr7 pass0 (pa_cons (pv 3) pa_nil)) (pa_cons (pe_use UA hr1 (by rfl) (pa_cons (pv 3) pa_nil)) pa_nil)) (by rfl))
          (pss_cons (ps_set (i := 6) sc_law.nd rfl (.inl rfl) (pe_use UG hr1 (by rfl) (pa_cons (pv 5) pa_nil)))
          (pss_cons (ps_set (i := 7) sc_law.nd rfl (.inl rfl) (pe_callB (cr_max rfl) (by rfl) N.max boot_max (pa_cons (pe_lc (own := [("row", 8)]) (g := (gName 8)) (tt := tYes) rfl sc_law.nd (pi_list (pv 6)) (blkOk_by (N := N_sc_law) (sc := defScope s_law) (by decide +kernel)) (fun _ _ _ _ _ => pg_name (i := 8) sc_law.nd rfl (Or.inl rfl)) (fun _ _ _ _ _ => pts_nil) (fun _ _ _ _ _ => (pe_callB (maxL_K (K := K) rfl rfl) (by rfl) N.max boot_max (pa_cons (pv 8) pa_nil)))) pa_nil)))
          (pss_cons (ps_par (i := 9) (j := 10) (by rfl) sc_law.nd rfl rfl (by decide) rfl rfl (pa_cons (pe_use U3 hr2 (by rfl) (pa_cons (pv 5) (pa_cons (pv 6) (pa_cons pe_int pa_nil)))) (pa_cons (pe_use U3 hr2 (by rfl) (pa_cons (pv 5) (pa_cons (pv 6) (pa_cons pe_int pa_nil)))) pa_nil)) (by rfl))
          (pss_cons (ps_set (i := 11) sc_law.nd rfl (.inl rfl) (pe_tup (pa_cons (pe_callKW0 (hV := id) UP.G hr9 UP.kb (fun _ r => r) pass0 (by rfl) UP.m UP.kp (pk_cons (pv 4) pk_nil)) (pa_cons (pe_callKW0 (hV := id) UN.G hr11 UN.kb (fun _ r => r) pass0 (by rfl) UN.m UN.kp (pk_cons (pv 4) pk_nil)) pa_nil))))
          (pss_cons (ps_if (PW.pt (pw_or (pt_cmpR op_ne (pe_callB (call_reprT hG hu64) (by rfl) N.repr boot_repr (pa_cons (pv 11) pa_nil)) (pe_callB (call_reprT hG hu64) (by rfl) N.repr boot_repr (pa_cons (pe_tup (pa_cons (pv 9) (pa_cons (pv 10) pa_nil))) pa_nil)) (nomark _)) (pw_or (pt_cmpR op_ne (pv 9) (pe_op op_fdiv (pv 7) pe_int) (nomark _)) (pw_or1 (pt_cmpR op_gt (pv 10) (pv 9) (nomark _)))))) (pss_one (ps_ret pe_bl)) pss_nil)
          (pss_one (ps_for PassesOwn.never rfl (pi_range2 (by rfl) N.range (pa_cons pe_int (pa_cons (pe_op op_add (pv 7) pe_int) pa_nil))) (pg_name (i := 12) sc_law.nd rfl (.inl rfl))
            (pss_cons (ps_if (PW.pt (pw_or (pt_cmpR op_ne (pe_cmpR (op_eqD hu64) (pe_use UK hr12 (by rfl) (pa_cons (pv 4) (pa_cons (pv 12) pa_nil))) (pe_tup pa_nil) (nomark _)) (pe_cmpR op_gt (pv 12) (pv 9) (nomark _)) (nomark _)) (pw_or1 (pt_cmpR op_ne (pe_cmpR (op_eqD hu64) (pe_use UV hr12 (by rfl) (pa_cons (pv 4) (pa_cons (pv 12) pa_nil))) (pe_tup pa_nil) (nomark _)) (pe_cmpR op_gt (pv 12) (pv 10) (nomark _)) (nomark _))))) (pss_one (ps_ret pe_bl)) pss_nil)
            (pss_cons (ps_set (i := 13) sc_law.nd rfl (.inl rfl) (pe_ifExp (pt_cmpR op_le (pv 12) (pv 10) (nomark _)) pe_int pe_int))
            (pss_one (ps_if (pt_cmpR op_ne (pe_ix ix_tup (pe_use UC hr (by rfl) (pa_cons (pv 4) (pa_cons (pv 12) pa_nil))) pe_int (fun _ _ => rfl)) (pe_ifExp (pt_cmpR op_le (pv 12) (pv 9) (nomark _)) (pv 13) pe_int) (nomark _)) (pss_one (ps_ret pe_bl)) pss_nil))))))))))))))
        (pss_one (ps_ret pe_bl)))), ?_⟩
    have e62 : (2 : Int) ^ 62 = 4611686018427387904 := by decide
    have two : (2 : Nat) ≤ sizeLine := by rw [sizeLine_eq]; decide
    refine ⟨_, rfl, a, ns, rfl, hS, hlen, fun dr cl H1 nd nc s1 D1 => ?_⟩
    refine ⟨_, rfl, by rw [e62]; decide, by rw [e62]; decide, ?_⟩
    refine for_range (lo := 0) (fun i σ H' => ∃ (y2 y3 y4 y5 y6 y7 y8 y9 y10 y11 y12 y13 : Option V), σ = [some (.ref a), some (.ref dr), y2, y3, y4, y5, y6, y7, y8, y9, y10, y11, y12, y13] ∧ DrawAt H' dr cl (1000 * i)) ⟨_, _, _, _, _, _, _, _, _, _, _, _, rfl, D1⟩ ?_ ?_
    · rintro i σ H2 hi ⟨y2, y3, y4, y5, y6, y7, y8, y9, y10, y11, y12, y13, rfl, D2⟩
      have hi4 : i < 2 := hi
      obtain ⟨kv2, hd2⟩ := D2.some1
      refine ⟨_, rfl, dr, cl, 30, _, rfl, D2, by omega, by decide, by decide, fun a4 ps4 tr4 H4 D4 F4 ha4 P4 T4 l4 => ?_⟩
      have l4 : tr4.length ≤ 29 := by omega
      refine ⟨rfl, _, rfl, a4, ps4, tr4, rfl, ha4, P4, T4, by omega, fun r H8 nr s8 R => ?_⟩
      refine ⟨_, rfl, a4, ps4, tr4, rfl, SqT.of (s8 _ _ ha4), P4.same s8, fun e he => ⟨T4.ne e he, T4.lt1 he⟩, by omega, fun DL ts H9 s9 RW => ⟨_, _, rfl, ?_⟩⟩
      have R9 := R.same s9
      have A9 : ArU K H9 DL (nrmS tr4) := ⟨ts, SqL.of RW.own, by rw [RW.len, nrmS_len], fun v t h => by
        refine ⟨_, (RW.at_ v t h).1, ?_⟩
        rw [nb_nrmS T4]
        exact (srt_perm _).symm⟩
      have D9 := D4.same (s8.trans s9)
      have ln2 : (nrmS tr4).length ≤ 29 := by rw [nrmS_len]; omega
      have T := R9.T
      generalize nrmS tr4 = tr at R9 A9 ln2 T
      refine ⟨_, rfl, DL, tr, rfl, A9, T, by omega, fun g H10 s10 ng G10 => ?_⟩
      have R10 := R9.same s10
      have D10 := D9.same s10
      have A10 := A9.same s10
      obtain ⟨ts', g1, g2, g3⟩ := G10.ex
      refine ⟨_, rfl, g, rfl, ⟨_, g1⟩, fun CC nC => ?_⟩
      refine lc_list (K := K) (a := g) (xs := ts'.map V.ref) (fun i H' => Same H10 H' ∧ ∃ ms : List Nat, H' CC = some (.lst (ms.map iv)) ∧ ms.length = i ∧ (∀ m ∈ ms, ∃ u v, u ≤ tr.length ∧ v ≤ tr.length ∧ m = dst tr u v) ∧ ∀ u, u < i → ∃ m ∈ ms, ∀ v, v ≤ tr.length → dst tr u v ≤ m) ⟨same_upd nC _, [], upd_same, rfl, fun m hm => (by cases hm), fun u hu => (by omega)⟩
        (fun i H' _ ⟨s, _⟩ => s.seq g1) ?_ ?_
      · rintro u x H' hx ⟨s1, ms, hC, lm, bm, mm⟩
        obtain ⟨t, ht, rfl⟩ := map_got hx
        have ul := (List.getElem?_eq_some_iff.mp ht).1
        have hu : u ≤ tr.length := by omega
        refine ⟨rfl, _, rfl, t, (List.range (tr.length + 1)).map (fun v => ((dst tr u v : Nat) : Int)), rfl, SqL.of (by rw [s1 _ _ (g3 u t ht), List.map_map]; rfl), by rw [List.length_map, List.length_range]; omega, fun m hm hg => ?_⟩
        obtain ⟨v0, hv0, rfl⟩ := List.mem_map.mp hm
        have hv0 := List.mem_range.mp hv0
        have b0 := dst_le T hu (show v0 ≤ tr.length by omega)
        refine ⟨_, hC, by rw [List.length_map, sizeLine_eq]; omega, same_old s1 nC _, ms ++ [dst tr u v0], by rw [upd_same, List.map_append]; rfl, by rw [List.length_append, lm]; rfl, fun m hm => ?_, fun u' hu' => ?_⟩
        · rcases List.mem_append.mp hm with h | h
          · exact bm m h
          · rw [List.mem_singleton.mp h]
            exact ⟨u, v0, hu, by omega, rfl⟩
        · by_cases e : u' = u
          · subst e
            refine ⟨dst tr u' v0, by simp, fun v hv => ?_⟩
            have := hg _ (List.mem_map.mpr ⟨v, List.mem_range.mpr (by omega), rfl⟩)
            omega
          · obtain ⟨m, h1, h2⟩ := mm u' (by omega)
            exact ⟨m, List.mem_append_left _ h1, h2⟩
      rintro H11 ⟨s11, ms, hC, lm, bm, mm⟩
      rw [List.length_map, g2] at lm mm
      refine ⟨CC, ms.map (fun m => ((m : Nat) : Int)), rfl, SqL.of (by rw [hC, List.map_map]; rfl), by rw [List.length_map]; omega, fun Mi hMi hg => ?_⟩
      obtain ⟨M, hM, rfl⟩ := List.mem_map.mp hMi
      have M1 := bm M hM
      have M2 : ∀ u v, u ≤ tr.length → v ≤ tr.length → dst tr u v ≤ M := fun u v hu hv => by
        obtain ⟨m, h1, h2⟩ := mm u (by omega)
        have := hg _ (List.mem_map.mpr ⟨m, h1, rfl⟩)
        have := h2 v hv
        omega
      have R11 := R10.same s11
      have D11 := D10.same s11
      have G11 := G10.same s11
      have A11 := A10.same s11
      have eM := lng_gap T M2 M1
      clear hMi hM hg mm bm hC lm g1 g2 g3 G10 R10 D10 R9 D9 A9 A10
      refine ⟨_, rfl, _, rfl, DL, g, tr, 1, rfl, A11, G11, T, by omega, fun P1 H12 s12 hP1 => ?_⟩
      refine ⟨_, rfl, _, rfl, DL, g, tr, 2, rfl, A11.same s12, G11.same s12, T, by omega, fun P2 H13 s13 hP2 => ⟨_, _, rfl, ?_⟩⟩
      have le21 := hP1.le hP2 (by decide)
      have e1 : P1 = psL tr := hP1.uniq (rkM_two T)
      have eh : P1 = M / 2 := by rw [e1, eM]; rfl
      have M29 : M ≤ 29 := by
        have := sw_len T (lng_spec T).1 (lng_spec T).2.1
        omega
      have s113 := s12.trans s13
      refine ⟨_, rfl, rfl, r, tr, rfl, R11.same s113, fun H14 s14 => ?_⟩
      refine ⟨_, rfl, rfl, r, tr, rfl, (R11.same s113).same s14, fun P2' H15 s15 hP2' => ?_⟩
      have e2 := hP2'.uniq hP2
      subst e2
      rw [← e1]
      refine ⟨two, fun e ne => ?_⟩
      have se := same_upd ne (.tup [iv P1, iv P2'])
      have he : upd H15 e (.tup [iv P1, iv P2']) e = some (.tup ([P1, P2'].map iv)) := upd_same
      have s1116 := ((s113.trans s14).trans s15).trans se
      generalize upd H15 e (.tup [iv P1, iv P2']) = H16 at he s1116 ⊢
      obtain ⟨q1, q2, q3, q4, q5⟩ := shw_ints (i := (P1 : Int)) (j := (P2' : Int)) (by omega) (by omega) (by omega) (by omega)
      refine ⟨_, rfl, e, _, [P1, P2'].map di, rfl, SqT.of he, .inl ⟨dpAll_ints [P1, P2'], q1⟩, q2, q3, q4, q5, ?_⟩
      refine ⟨_, rfl, _, rfl, two, fun e3 ne3 => ?_⟩
      have se3 := same_upd ne3 (.tup [iv P1, iv P2'])
      refine ⟨e3, _, [P1, P2'].map di, rfl, SqT.of upd_same, .inl ⟨dpAll_ints [P1, P2'], q1⟩, q2, q3, q4, q5, ?_⟩
      refine ⟨rfl, _, rfl, ?_⟩
      generalize (PyData.tuple ([P1, P2'].map di)).shown = shn
      rw [show (!decide (V.str shn = V.str shn)) = false from by rw [decide_eq_true rfl]; rfl]
      refine iteF ?_
      have s1117 := s1116.trans se3
      generalize upd H16 e3 (.tup [iv P1, iv P2']) = H17 at s1117 ⊢
      refine ⟨_, rfl, _, rfl, _, _, rfl, rfl, ⟨by decide, by decide⟩, rfl, _, rfl, ?_⟩
      rw [show (!decide (iv P1 = V.int ((M : Int) / 2))) = false from by
        rw [decide_eq_true (by show V.int _ = V.int _; congr 1; omega)]
        rfl]
      refine iteF ?_
      refine ⟨_, rfl, _, rfl, _, _, rfl, rfl, _, rfl, ?_⟩
      rw [show decide ((P1 : Int) < (P2' : Int)) = false from decide_eq_false (by omega)]
      refine iteF ?_
      have R17 := R11.same s1117
      have D17 := D11.same s1117
      clear R11 D11 A11 G11 se3 se he q1 q2 q3 q4 q5 s14 s15 s12 s13 s113 s1116 s1117 hP2
      refine ⟨_, rfl, _, _, rfl, rfl, _, _, rfl, ⟨by rw [e62]; decide, by rw [e62]; decide, by rw [e62]; omega, by rw [e62]; omega⟩, ?_⟩
      refine for_range (lo := 1) (fun j σ H' => ∃ (y12 y13 : Option V), σ = [some (.ref a), some (.ref dr), some (V.int (0 + (i : Int))), some (.ref a4), some (.ref r), some (.ref DL), some (.ref g), some (iv M), y8, some (iv P1), some (iv P2'), some (.ref e), y12, y13] ∧ Same H17 H') ⟨_, _, rfl, Same.refl _⟩ ?_ ?_
      · rintro j σ Hj hj ⟨y12, y13, rfl, sj⟩
        rw [show (1 : Int) + (j : Int) = ((j + 1 : Nat) : Int) from by omega]
        have hL : 1 ≤ j + 1 := by omega
        generalize j + 1 = L at hL
        have Rj := R17.same sj
        refine ⟨_, rfl, _, rfl, r, tr, L, rfl, Rj, hL, fun q H18 s18 nq hq => ⟨Nat.zero_le _, fun z nz => ?_⟩⟩
        have sz := same_upd nz (.tup [])
        refine ⟨.tuple ((mnyS tr L 2).map di), .tuple (([] : List Nat).map di), .tup (SqT.of (sz _ _ hq)) (dpAll_ints _), .tup (SqT.of upd_same) .nil, shaped_intsN _, shaped_intsN _, ?_⟩
        rw [eqv_ints]
        refine ⟨_, rfl, _, rfl, _, _, rfl, rfl, rfl, _, rfl, ?_⟩
        have m2 : mnyS tr L 2 = [] ↔ P1 < L := mnyS_iff (by decide) hP1 hL
        have m3 : mnyS tr L 3 = [] ↔ P2' < L := mnyS_iff (by decide) hP2' hL
        rw [show (!decide (V.bl (decide (mnyS tr L 2 = [])) = V.bl (decide ((P1 : Int) < (L : Int))))) = false from by
          rw [show decide (mnyS tr L 2 = []) = decide ((P1 : Int) < (L : Int)) from by rw [decide_eq_decide, m2]; omega, decide_eq_true rfl]
          rfl]
        refine iteF ?_
        have s18z := (sj.trans s18).trans sz
        generalize upd H18 z (.tup []) = H19 at s18z ⊢
        refine ⟨_, rfl, _, rfl, r, tr, L, rfl, R17.same s18z, hL, fun q3 H20 s20 nq3 hq3 => ⟨Nat.zero_le _, fun z3 nz3 => ?_⟩⟩
        have sz3 := same_upd nz3 (.tup [])
        refine ⟨.tuple ((mnyS tr L 3).map di), .tuple (([] : List Nat).map di), .tup (SqT.of (sz3 _ _ hq3)) (dpAll_ints _), .tup (SqT.of upd_same) .nil, shaped_intsN _, shaped_intsN _, ?_⟩
        rw [eqv_ints]
        refine ⟨_, rfl, _, rfl, _, _, rfl, rfl, rfl, _, rfl, ?_⟩
        rw [show (!decide (V.bl (decide (mnyS tr L 3 = [])) = V.bl (decide ((P2' : Int) < (L : Int))))) = false from by
          rw [show decide (mnyS tr L 3 = []) = decide ((P2' : Int) < (L : Int)) from by rw [decide_eq_decide, m3]; omega, decide_eq_true rfl]
          rfl]
        refine iteF ?_
        have s20z := (s18z.trans s20).trans sz3
        generalize upd H20 z3 (.tup []) = H21 at s20z ⊢
        clear s18z s20 sz3 hq3 nq3 nz3 hq nq nz sz s18
        refine ⟨_, rfl, _, rfl, _, _, rfl, rfl, _, rfl, ?_⟩
        have fcl : fcN L P1 P2' = if L ≤ P1 then (if L ≤ P2' then 1 else 2) else 0 := by
          unfold fcN
          by_cases c : L ≤ P1
          · rw [if_neg (by omega), if_pos c]
          · rw [if_pos (by omega), if_neg c]
        by_cases d : L ≤ P2'
        · rw [show decide ((L : Int) ≤ (P2' : Int)) = true from decide_eq_true (by omega)]
          refine iteT ?_
          have c : L ≤ P1 := by omega
          rw [if_pos c, if_pos d] at fcl
          refine ⟨_, rfl, _, rfl, r, tr, L, rfl, R17.same s20z, hL, by omega, fun q n M3 H22 s22 hM3 hq22 => ?_⟩
          have eM3 := hM3.uniq hP2'
          subst eM3
          rw [← e1, fcl] at hq22
          refine ⟨q, _, _, _, rfl, rfl, SqT.of hq22, atN (n := 1) rfl, ?_⟩
          refine ⟨_, rfl, _, rfl, _, _, rfl, rfl, _, rfl, ?_⟩
          rw [show decide ((L : Int) ≤ (P1 : Int)) = true from decide_eq_true (by omega)]
          refine iteT ⟨_, rfl, rfl, _, rfl, ?_⟩
          refine iteF ?_
          exact ⟨_, _, rfl, s20z.trans s22⟩
        · rw [show decide ((L : Int) ≤ (P2' : Int)) = false from decide_eq_false (by omega)]
          refine iteF ?_
          by_cases c : L ≤ P1
          · rw [if_pos c, if_neg d] at fcl
            refine ⟨_, rfl, _, rfl, r, tr, L, rfl, R17.same s20z, hL, by omega, fun q n M3 H22 s22 hM3 hq22 => ?_⟩
            have eM3 := hM3.uniq hP2'
            subst eM3
            rw [← e1, fcl] at hq22
            refine ⟨q, _, _, _, rfl, rfl, SqT.of hq22, atN (n := 1) rfl, ?_⟩
            refine ⟨_, rfl, _, rfl, _, _, rfl, rfl, _, rfl, ?_⟩
            rw [show decide ((L : Int) ≤ (P1 : Int)) = true from decide_eq_true (by omega)]
            refine iteT ⟨_, rfl, rfl, _, rfl, ?_⟩
            refine iteF ?_
            exact ⟨_, _, rfl, s20z.trans s22⟩
          · rw [if_neg c] at fcl
            refine ⟨_, rfl, _, rfl, r, tr, L, rfl, R17.same s20z, hL, by omega, fun q n M3 H22 s22 hM3 hq22 => ?_⟩
            have eM3 := hM3.uniq hP2'
            subst eM3
            rw [← e1, fcl] at hq22
            refine ⟨q, _, _, _, rfl, rfl, SqT.of hq22, atN (n := 1) rfl, ?_⟩
            refine ⟨_, rfl, _, rfl, _, _, rfl, rfl, _, rfl, ?_⟩
            rw [show decide ((L : Int) ≤ (P1 : Int)) = false from decide_eq_false (by omega)]
            refine iteF ⟨rfl, _, rfl, ?_⟩
            refine iteF ?_
            exact ⟨_, _, rfl, s20z.trans s22⟩
      · rintro σ Hj ⟨y12, y13, rfl, sj⟩
        exact ⟨_, _, _, _, _, _, _, _, _, _, _, _, rfl, (D17.same sj).mono (by omega)⟩
    · rintro σ H2 ⟨y2, y3, y4, y5, y6, y7, y8, y9, y10, y11, y12, y13, rfl, D2⟩
      exact k H2
end
end TR


namespace TR
open PySem PySem.Spec PyProof.Rows L2 L2.TT StX ClX
theorem lenV1 {us : List Value} (h : us.length = 1) : ∃ x0, us = [x0] := by
  obtain ⟨x0, us, rfl⟩ : ∃ x r, us = x :: r := by
    cases us with
    | nil => cases h
    | cons x r => exact ⟨_, _, rfl⟩
  have h : us.length = 0 := Nat.succ.inj h
  cases us with
  | nil => exact ⟨x0, rfl⟩
  | cons x r => cases h
theorem lenV2 {us : List Value} (h : us.length = 2) : ∃ x0 x1, us = [x0, x1] := by
  obtain ⟨x0, us, rfl⟩ : ∃ x r, us = x :: r := by
    cases us with
    | nil => cases h
    | cons x r => exact ⟨_, _, rfl⟩
  have h : us.length = 1 := Nat.succ.inj h
  obtain ⟨x1, us, rfl⟩ : ∃ x r, us = x :: r := by
    cases us with
    | nil => cases h
    | cons x r => exact ⟨_, _, rfl⟩
  have h : us.length = 0 := Nat.succ.inj h
  cases us with
  | nil => exact ⟨x0, x1, rfl⟩
  | cons x r => cases h
theorem lenV3 {us : List Value} (h : us.length = 3) : ∃ x0 x1 x2, us = [x0, x1, x2] := by
  obtain ⟨x0, us, rfl⟩ : ∃ x r, us = x :: r := by
    cases us with
    | nil => cases h
    | cons x r => exact ⟨_, _, rfl⟩
  have h : us.length = 2 := Nat.succ.inj h
  obtain ⟨x1, us, rfl⟩ : ∃ x r, us = x :: r := by
    cases us with
    | nil => cases h
    | cons x r => exact ⟨_, _, rfl⟩
  have h : us.length = 1 := Nat.succ.inj h
  obtain ⟨x2, us, rfl⟩ : ∃ x r, us = x :: r := by
    cases us with
    | nil => cases h
    | cons x r => exact ⟨_, _, rfl⟩
  have h : us.length = 0 := Nat.succ.inj h
  cases us with
  | nil => exact ⟨x0, x1, x2, rfl⟩
  | cons x r => cases h
theorem lenV4 {us : List Value} (h : us.length = 4) : ∃ x0 x1 x2 x3, us = [x0, x1, x2, x3] := by
  obtain ⟨x0, us, rfl⟩ : ∃ x r, us = x :: r := by
    cases us with
    | nil => cases h
    | cons x r => exact ⟨_, _, rfl⟩
  have h : us.length = 3 := Nat.succ.inj h
  obtain ⟨x1, us, rfl⟩ : ∃ x r, us = x :: r := by
    cases us with
    | nil => cases h
    | cons x r => exact ⟨_, _, rfl⟩
  have h : us.length = 2 := Nat.succ.inj h
  obtain ⟨x2, us, rfl⟩ : ∃ x r, us = x :: r := by
    cases us with
    | nil => cases h
    | cons x r => exact ⟨_, _, rfl⟩
  have h : us.length = 1 := Nat.succ.inj h
  obtain ⟨x3, us, rfl⟩ : ∃ x r, us = x :: r := by
    cases us with
    | nil => cases h
    | cons x r => exact ⟨_, _, rfl⟩
  have h : us.length = 0 := Nat.succ.inj h
  cases us with
  | nil => exact ⟨x0, x1, x2, x3, rfl⟩
  | cons x r => cases h
theorem lenV5 {us : List Value} (h : us.length = 5) : ∃ x0 x1 x2 x3 x4, us = [x0, x1, x2, x3, x4] := by
  obtain ⟨x0, us, rfl⟩ : ∃ x r, us = x :: r := by
    cases us with
    | nil => cases h
    | cons x r => exact ⟨_, _, rfl⟩
  have h : us.length = 4 := Nat.succ.inj h
  obtain ⟨x1, us, rfl⟩ : ∃ x r, us = x :: r := by
    cases us with
    | nil => cases h
    | cons x r => exact ⟨_, _, rfl⟩
  have h : us.length = 3 := Nat.succ.inj h
  obtain ⟨x2, us, rfl⟩ : ∃ x r, us = x :: r := by
    cases us with
    | nil => cases h
    | cons x r => exact ⟨_, _, rfl⟩
  have h : us.length = 2 := Nat.succ.inj h
  obtain ⟨x3, us, rfl⟩ : ∃ x r, us = x :: r := by
    cases us with
    | nil => cases h
    | cons x r => exact ⟨_, _, rfl⟩
  have h : us.length = 1 := Nat.succ.inj h
  obtain ⟨x4, us, rfl⟩ : ∃ x r, us = x :: r := by
    cases us with
    | nil => cases h
    | cons x r => exact ⟨_, _, rfl⟩
  have h : us.length = 0 := Nat.succ.inj h
  cases us with
  | nil => exact ⟨x0, x1, x2, x3, x4, rfl⟩
  | cons x r => cases h
theorem lenV6 {us : List Value} (h : us.length = 6) : ∃ x0 x1 x2 x3 x4 x5, us = [x0, x1, x2, x3, x4, x5] := by
  obtain ⟨x0, us, rfl⟩ : ∃ x r, us = x :: r := by
    cases us with
    | nil => cases h
    | cons x r => exact ⟨_, _, rfl⟩
  have h : us.length = 5 := Nat.succ.inj h
  obtain ⟨x1, us, rfl⟩ : ∃ x r, us = x :: r := by
    cases us with
    | nil => cases h
    | cons x r => exact ⟨_, _, rfl⟩
  have h : us.length = 4 := Nat.succ.inj h
  obtain ⟨x2, us, rfl⟩ : ∃ x r, us = x :: r := by
    cases us with
    | nil => cases h
    | cons x r => exact ⟨_, _, rfl⟩
  have h : us.length = 3 := Nat.succ.inj h
  obtain ⟨x3, us, rfl⟩ : ∃ x r, us = x :: r := by
    cases us with
    | nil => cases h
    | cons x r => exact ⟨_, _, rfl⟩
  have h : us.length = 2 := Nat.succ.inj h
  obtain ⟨x4, us, rfl⟩ : ∃ x r, us = x :: r := by
    cases us with
    | nil => cases h
    | cons x r => exact ⟨_, _, rfl⟩
  have h : us.length = 1 := Nat.succ.inj h
  obtain ⟨x5, us, rfl⟩ : ∃ x r, us = x :: r := by
    cases us with
    | nil => cases h
    | cons x r => exact ⟨_, _, rfl⟩
  have h : us.length = 0 := Nat.succ.inj h
  cases us with
  | nil => exact ⟨x0, x1, x2, x3, x4, x5, rfl⟩
  | cons x r => cases h
theorem lenV7 {us : List Value} (h : us.length = 7) : ∃ x0 x1 x2 x3 x4 x5 x6, us = [x0, x1, x2, x3, x4, x5, x6] := by
  obtain ⟨x0, us, rfl⟩ : ∃ x r, us = x :: r := by
    cases us with
    | nil => cases h
    | cons x r => exact ⟨_, _, rfl⟩
  have h : us.length = 6 := Nat.succ.inj h
  obtain ⟨x1, us, rfl⟩ : ∃ x r, us = x :: r := by
    cases us with
    | nil => cases h
    | cons x r => exact ⟨_, _, rfl⟩
  have h : us.length = 5 := Nat.succ.inj h
  obtain ⟨x2, us, rfl⟩ : ∃ x r, us = x :: r := by
    cases us with
    | nil => cases h
    | cons x r => exact ⟨_, _, rfl⟩
  have h : us.length = 4 := Nat.succ.inj h
  obtain ⟨x3, us, rfl⟩ : ∃ x r, us = x :: r := by
    cases us with
    | nil => cases h
    | cons x r => exact ⟨_, _, rfl⟩
  have h : us.length = 3 := Nat.succ.inj h
  obtain ⟨x4, us, rfl⟩ : ∃ x r, us = x :: r := by
    cases us with
    | nil => cases h
    | cons x r => exact ⟨_, _, rfl⟩
  have h : us.length = 2 := Nat.succ.inj h
  obtain ⟨x5, us, rfl⟩ : ∃ x r, us = x :: r := by
    cases us with
    | nil => cases h
    | cons x r => exact ⟨_, _, rfl⟩
  have h : us.length = 1 := Nat.succ.inj h
  obtain ⟨x6, us, rfl⟩ : ∃ x r, us = x :: r := by
    cases us with
    | nil => cases h
    | cons x r => exact ⟨_, _, rfl⟩
  have h : us.length = 0 := Nat.succ.inj h
  cases us with
  | nil => exact ⟨x0, x1, x2, x3, x4, x5, x6, rfl⟩
  | cons x r => cases h
theorem all_mk {P : Program} {w : World} {K : PySem.W.Frag} {h : Heap} {mg : Str → Option Value} {fa : Addr} (X : K.In h) (G : h.Ns mainGlobals mg) (hfa : mg "law" = some (.ref fa))
  {fis_integer : Addr} {ocis_integer kVis_integer dcis_integer pmis_integer cdis_integer ctis_integer : Value} {odis_integer anis_integer : Option Addr} {slis_integer : Array (Option Value)}
  {fis_number_from : Addr} {ocis_number_from kVis_number_from dcis_number_from pmis_number_from cdis_number_from ctis_number_from : Value} {odis_number_from anis_number_from : Option Addr} {slis_number_from : Array (Option Value)}
  {fis_pair_of_stations : Addr} {ocis_pair_of_stations kVis_pair_of_stations dcis_pair_of_stations pmis_pair_of_stations cdis_pair_of_stations ctis_pair_of_stations : Value} {odis_pair_of_stations anis_pair_of_stations : Option Addr} {slis_pair_of_stations : Array (Option Value)}
  {fis_station : Addr} {ocis_station kVis_station dcis_station pmis_station cdis_station ctis_station : Value} {odis_station anis_station : Option Addr} {slis_station : Array (Option Value)}
  {fcheck_station : Addr} {occheck_station kVcheck_station dccheck_station pmcheck_station cdcheck_station ctcheck_station : Value} {odcheck_station ancheck_station : Option Addr} {slcheck_station : Array (Option Value)}
  {fjoined : Addr} {ocjoined kVjoined dcjoined pmjoined cdjoined ctjoined : Value} {odjoined anjoined : Option Addr} {sljoined : Array (Option Value)}
  {ffirst_wrong_track : Addr} {ocfirst_wrong_track kVfirst_wrong_track dcfirst_wrong_track pmfirst_wrong_track cdfirst_wrong_track ctfirst_wrong_track : Value} {odfirst_wrong_track anfirst_wrong_track : Option Addr} {slfirst_wrong_track : Array (Option Value)}
  {fneighbours_of : Addr} {ocneighbours_of kVneighbours_of dcneighbours_of pmneighbours_of cdneighbours_of ctneighbours_of : Value} {odneighbours_of anneighbours_of : Option Addr} {slneighbours_of : Array (Option Value)}
  {fplaces_below_first : Addr} {ocplaces_below_first kVplaces_below_first dcplaces_below_first pmplaces_below_first cdplaces_below_first ctplaces_below_first : Value} {odplaces_below_first anplaces_below_first : Option Addr} {slplaces_below_first : Array (Option Value)}
  {flaw_begin : Addr} {oclaw_begin kVlaw_begin dclaw_begin pmlaw_begin cdlaw_begin ctlaw_begin : Value} {odlaw_begin anlaw_begin : Option Addr} {sllaw_begin : Array (Option Value)}
  {flaw_mixed : Addr} {oclaw_mixed kVlaw_mixed dclaw_mixed pmlaw_mixed cdlaw_mixed ctlaw_mixed : Value} {odlaw_mixed anlaw_mixed : Option Addr} {sllaw_mixed : Array (Option Value)}
  {flaw_next : Addr} {oclaw_next kVlaw_next dclaw_next pmlaw_next cdlaw_next ctlaw_next : Value} {odlaw_next anlaw_next : Option Addr} {sllaw_next : Array (Option Value)}
  {flaw_tracks : Addr} {oclaw_tracks kVlaw_tracks dclaw_tracks pmlaw_tracks cdlaw_tracks ctlaw_tracks : Value} {odlaw_tracks anlaw_tracks : Option Addr} {sllaw_tracks : Array (Option Value)}
  {fcheck_length : Addr} {occheck_length kVcheck_length dccheck_length pmcheck_length cdcheck_length ctcheck_length : Value} {odcheck_length ancheck_length : Option Addr} {slcheck_length : Array (Option Value)}
  {flayers : Addr} {oclayers kVlayers dclayers pmlayers cdlayers ctlayers : Value} {odlayers anlayers : Option Addr} {sllayers : Array (Option Value)}
  {fdepth_behind : Addr} {ocdepth_behind kVdepth_behind dcdepth_behind pmdepth_behind cddepth_behind ctdepth_behind : Value} {oddepth_behind andepth_behind : Option Addr} {sldepth_behind : Array (Option Value)}
  {fbranch_depths : Addr} {ocbranch_depths kVbranch_depths dcbranch_depths pmbranch_depths cdbranch_depths ctbranch_depths : Value} {odbranch_depths anbranch_depths : Option Addr} {slbranch_depths : Array (Option Value)}
  {flayers_behind : Addr} {oclayers_behind kVlayers_behind dclayers_behind pmlayers_behind cdlayers_behind ctlayers_behind : Value} {odlayers_behind anlayers_behind : Option Addr} {sllayers_behind : Array (Option Value)}
  {flongest_path : Addr} {oclongest_path kVlongest_path dclongest_path pmlongest_path cdlongest_path ctlongest_path : Value} {odlongest_path anlongest_path : Option Addr} {sllongest_path : Array (Option Value)}
  {fdiameter : Addr} {ocdiameter kVdiameter dcdiameter pmdiameter cddiameter ctdiameter : Value} {oddiameter andiameter : Option Addr} {sldiameter : Array (Option Value)}
  {fdeep_branches : Addr} {ocdeep_branches kVdeep_branches dcdeep_branches pmdeep_branches cddeep_branches ctdeep_branches : Value} {oddeep_branches andeep_branches : Option Addr} {sldeep_branches : Array (Option Value)}
  {ftrunk : Addr} {octrunk kVtrunk dctrunk pmtrunk cdtrunk cttrunk : Value} {odtrunk antrunk : Option Addr} {sltrunk : Array (Option Value)}
  {fpivots : Addr} {ocpivots kVpivots dcpivots pmpivots cdpivots ctpivots : Value} {odpivots anpivots : Option Addr} {slpivots : Array (Option Value)}
  {fstations_with_deep_branches : Addr} {ocstations_with_deep_branches kVstations_with_deep_branches dcstations_with_deep_branches pmstations_with_deep_branches cdstations_with_deep_branches ctstations_with_deep_branches : Value} {odstations_with_deep_branches anstations_with_deep_branches : Option Addr} {slstations_with_deep_branches : Array (Option Value)}
  {fdistances_and_depths : Addr} {ocdistances_and_depths kVdistances_and_depths dcdistances_and_depths pmdistances_and_depths cddistances_and_depths ctdistances_and_depths : Value} {oddistances_and_depths andistances_and_depths : Option Addr} {sldistances_and_depths : Array (Option Value)}
  {fpockets_by_length : Addr} {ocpockets_by_length kVpockets_by_length dcpockets_by_length pmpockets_by_length cdpockets_by_length ctpockets_by_length : Value} {odpockets_by_length anpockets_by_length : Option Addr} {slpockets_by_length : Array (Option Value)}
  {fpockets : Addr} {ocpockets kVpockets dcpockets pmpockets cdpockets ctpockets : Value} {odpockets anpockets : Option Addr} {slpockets : Array (Option Value)}
  {fpassing_length : Addr} {ocpassing_length kVpassing_length dcpassing_length pmpassing_length cdpassing_length ctpassing_length : Value} {odpassing_length anpassing_length : Option Addr} {slpassing_length : Array (Option Value)}
  {fturning_length : Addr} {octurning_length kVturning_length dcturning_length pmturning_length cdturning_length ctturning_length : Value} {odturning_length anturning_length : Option Addr} {slturning_length : Array (Option Value)}
  {ffree_classes : Addr} {ocfree_classes kVfree_classes dcfree_classes pmfree_classes cdfree_classes ctfree_classes : Value} {odfree_classes anfree_classes : Option Addr} {slfree_classes : Array (Option Value)}
  {fthird_depth : Addr} {octhird_depth kVthird_depth dcthird_depth pmthird_depth cdthird_depth ctthird_depth : Value} {odthird_depth anthird_depth : Option Addr} {slthird_depth : Array (Option Value)}
  {fcount_classes : Addr} {occount_classes kVcount_classes dccount_classes pmcount_classes cdcount_classes ctcount_classes : Value} {odcount_classes ancount_classes : Option Addr} {slcount_classes : Array (Option Value)}
  {fcount_free_classes : Addr} {occount_free_classes kVcount_free_classes dccount_free_classes pmcount_free_classes cdcount_free_classes ctcount_free_classes : Value} {odcount_free_classes ancount_free_classes : Option Addr} {slcount_free_classes : Array (Option Value)}
  {flaw_links : Addr} {oclaw_links kVlaw_links dclaw_links pmlaw_links cdlaw_links ctlaw_links : Value} {odlaw_links anlaw_links : Option Addr} {sllaw_links : Array (Option Value)}
  {flaw_gaps : Addr} {oclaw_gaps kVlaw_gaps dclaw_gaps pmlaw_gaps cdlaw_gaps ctlaw_gaps : Value} {odlaw_gaps anlaw_gaps : Option Addr} {sllaw_gaps : Array (Option Value)}
  {flaw_depth : Addr} {oclaw_depth kVlaw_depth dclaw_depth pmlaw_depth cdlaw_depth ctlaw_depth : Value} {odlaw_depth anlaw_depth : Option Addr} {sllaw_depth : Array (Option Value)}
  {flaw_third : Addr} {oclaw_third kVlaw_third dclaw_third pmlaw_third cdlaw_third ctlaw_third : Value} {odlaw_third anlaw_third : Option Addr} {sllaw_third : Array (Option Value)}
  {flaw : Addr} {oclaw kVlaw dclaw pmlaw cdlaw ctlaw : Value} {odlaw anlaw : Option Addr} {sllaw : Array (Option Value)}
  {C : Addr} {tM : Tok}
  {fMinit : Addr} {ocMinit kVMinit dcMinit pmMinit cdMinit ctMinit : Value} {odMinit anMinit : Option Addr} {slMinit : Array (Option Value)}
  {fMpath : Addr} {ocMpath kVMpath dcMpath pmMpath cdMpath ctMpath : Value} {odMpath anMpath : Option Addr} {slMpath : Array (Option Value)}
  {fMsize : Addr} {ocMsize kVMsize dcMsize pmMsize cdMsize ctMsize : Value} {odMsize anMsize : Option Addr} {slMsize : Array (Option Value)}
  {pMsize : Addr} {rMsize : List Value}
  {fMof : Addr} {ocMof kVMof dcMof pmMof cdMof ctMof : Value} {odMof anMof : Option Addr} {slMof : Array (Option Value)}
  {pMof : Addr} {rMof : List Value}
  {fMneighbours : Addr} {ocMneighbours kVMneighbours dcMneighbours pmMneighbours cdMneighbours ctMneighbours : Value} {odMneighbours anMneighbours : Option Addr} {slMneighbours : Array (Option Value)}
  (ais_integer : PySem.W.nsIn K mainGlobals "is_integer" = some (some (.ref fis_integer)))
  (lis_integer : K.lookup fis_integer = some ⟨ocis_integer, odis_integer, .func (PySem.W.fnOf "is_integer" "is_integer" (defArgs s_is_integer) (defBody s_is_integer) (defScope s_is_integer) .none kVis_integer dcis_integer pmis_integer anis_integer cdis_integer ctis_integer), slis_integer⟩)
  (cis_integer : PySem.W.codeIn K cdis_integer "is_integer" = true)
  (kis_integer : PySem.W.keepIn K (.ref fis_integer) = true)
  (ais_number_from : PySem.W.nsIn K mainGlobals "is_number_from" = some (some (.ref fis_number_from)))
  (lis_number_from : K.lookup fis_number_from = some ⟨ocis_number_from, odis_number_from, .func (PySem.W.fnOf "is_number_from" "is_number_from" (defArgs s_is_number_from) (defBody s_is_number_from) (defScope s_is_number_from) .none kVis_number_from dcis_number_from pmis_number_from anis_number_from cdis_number_from ctis_number_from), slis_number_from⟩)
  (cis_number_from : PySem.W.codeIn K cdis_number_from "is_number_from" = true)
  (kis_number_from : PySem.W.keepIn K (.ref fis_number_from) = true)
  (ais_pair_of_stations : PySem.W.nsIn K mainGlobals "is_pair_of_stations" = some (some (.ref fis_pair_of_stations)))
  (lis_pair_of_stations : K.lookup fis_pair_of_stations = some ⟨ocis_pair_of_stations, odis_pair_of_stations, .func (PySem.W.fnOf "is_pair_of_stations" "is_pair_of_stations" (defArgs s_is_pair_of_stations) (defBody s_is_pair_of_stations) (defScope s_is_pair_of_stations) .none kVis_pair_of_stations dcis_pair_of_stations pmis_pair_of_stations anis_pair_of_stations cdis_pair_of_stations ctis_pair_of_stations), slis_pair_of_stations⟩)
  (cis_pair_of_stations : PySem.W.codeIn K cdis_pair_of_stations "is_pair_of_stations" = true)
  (kis_pair_of_stations : PySem.W.keepIn K (.ref fis_pair_of_stations) = true)
  (ais_station : PySem.W.nsIn K mainGlobals "is_station" = some (some (.ref fis_station)))
  (lis_station : K.lookup fis_station = some ⟨ocis_station, odis_station, .func (PySem.W.fnOf "is_station" "is_station" (defArgs s_is_station) (defBody s_is_station) (defScope s_is_station) .none kVis_station dcis_station pmis_station anis_station cdis_station ctis_station), slis_station⟩)
  (cis_station : PySem.W.codeIn K cdis_station "is_station" = true)
  (kis_station : PySem.W.keepIn K (.ref fis_station) = true)
  (acheck_station : PySem.W.nsIn K mainGlobals "check_station" = some (some (.ref fcheck_station)))
  (lcheck_station : K.lookup fcheck_station = some ⟨occheck_station, odcheck_station, .func (PySem.W.fnOf "check_station" "check_station" (defArgs s_check_station) (defBody s_check_station) (defScope s_check_station) .none kVcheck_station dccheck_station pmcheck_station ancheck_station cdcheck_station ctcheck_station), slcheck_station⟩)
  (ccheck_station : PySem.W.codeIn K cdcheck_station "check_station" = true)
  (kcheck_station : PySem.W.keepIn K (.ref fcheck_station) = true)
  (ajoined : PySem.W.nsIn K mainGlobals "joined" = some (some (.ref fjoined)))
  (ljoined : K.lookup fjoined = some ⟨ocjoined, odjoined, .func (PySem.W.fnOf "joined" "joined" (defArgs s_joined) (defBody s_joined) (defScope s_joined) .none kVjoined dcjoined pmjoined anjoined cdjoined ctjoined), sljoined⟩)
  (cjoined : PySem.W.codeIn K cdjoined "joined" = true)
  (kjoined : PySem.W.keepIn K (.ref fjoined) = true)
  (afirst_wrong_track : PySem.W.nsIn K mainGlobals "first_wrong_track" = some (some (.ref ffirst_wrong_track)))
  (lfirst_wrong_track : K.lookup ffirst_wrong_track = some ⟨ocfirst_wrong_track, odfirst_wrong_track, .func (PySem.W.fnOf "first_wrong_track" "first_wrong_track" (defArgs s_first_wrong_track) (defBody s_first_wrong_track) (defScope s_first_wrong_track) .none kVfirst_wrong_track dcfirst_wrong_track pmfirst_wrong_track anfirst_wrong_track cdfirst_wrong_track ctfirst_wrong_track), slfirst_wrong_track⟩)
  (cfirst_wrong_track : PySem.W.codeIn K cdfirst_wrong_track "first_wrong_track" = true)
  (kfirst_wrong_track : PySem.W.keepIn K (.ref ffirst_wrong_track) = true)
  (aneighbours_of : PySem.W.nsIn K mainGlobals "_neighbours_of" = some (some (.ref fneighbours_of)))
  (lneighbours_of : K.lookup fneighbours_of = some ⟨ocneighbours_of, odneighbours_of, .func (PySem.W.fnOf "_neighbours_of" "_neighbours_of" (defArgs s_neighbours_of) (defBody s_neighbours_of) (defScope s_neighbours_of) .none kVneighbours_of dcneighbours_of pmneighbours_of anneighbours_of cdneighbours_of ctneighbours_of), slneighbours_of⟩)
  (cneighbours_of : PySem.W.codeIn K cdneighbours_of "_neighbours_of" = true)
  (kneighbours_of : PySem.W.keepIn K (.ref fneighbours_of) = true)
  (aplaces_below_first : PySem.W.nsIn K mainGlobals "_places_below_first" = some (some (.ref fplaces_below_first)))
  (lplaces_below_first : K.lookup fplaces_below_first = some ⟨ocplaces_below_first, odplaces_below_first, .func (PySem.W.fnOf "_places_below_first" "_places_below_first" (defArgs s_places_below_first) (defBody s_places_below_first) (defScope s_places_below_first) .none kVplaces_below_first dcplaces_below_first pmplaces_below_first anplaces_below_first cdplaces_below_first ctplaces_below_first), slplaces_below_first⟩)
  (cplaces_below_first : PySem.W.codeIn K cdplaces_below_first "_places_below_first" = true)
  (kplaces_below_first : PySem.W.keepIn K (.ref fplaces_below_first) = true)
  (alaw_begin : PySem.W.nsIn K mainGlobals "_law_begin" = some (some (.ref flaw_begin)))
  (llaw_begin : K.lookup flaw_begin = some ⟨oclaw_begin, odlaw_begin, .func (PySem.W.fnOf "_law_begin" "_law_begin" (defArgs s_law_begin) (defBody s_law_begin) (defScope s_law_begin) .none kVlaw_begin dclaw_begin pmlaw_begin anlaw_begin cdlaw_begin ctlaw_begin), sllaw_begin⟩)
  (claw_begin : PySem.W.codeIn K cdlaw_begin "_law_begin" = true)
  (klaw_begin : PySem.W.keepIn K (.ref flaw_begin) = true)
  (alaw_mixed : PySem.W.nsIn K mainGlobals "_law_mixed" = some (some (.ref flaw_mixed)))
  (llaw_mixed : K.lookup flaw_mixed = some ⟨oclaw_mixed, odlaw_mixed, .func (PySem.W.fnOf "_law_mixed" "_law_mixed" (defArgs s_law_mixed) (defBody s_law_mixed) (defScope s_law_mixed) .none kVlaw_mixed dclaw_mixed pmlaw_mixed anlaw_mixed cdlaw_mixed ctlaw_mixed), sllaw_mixed⟩)
  (claw_mixed : PySem.W.codeIn K cdlaw_mixed "_law_mixed" = true)
  (klaw_mixed : PySem.W.keepIn K (.ref flaw_mixed) = true)
  (alaw_next : PySem.W.nsIn K mainGlobals "_law_next" = some (some (.ref flaw_next)))
  (llaw_next : K.lookup flaw_next = some ⟨oclaw_next, odlaw_next, .func (PySem.W.fnOf "_law_next" "_law_next" (defArgs s_law_next) (defBody s_law_next) (defScope s_law_next) .none kVlaw_next dclaw_next pmlaw_next anlaw_next cdlaw_next ctlaw_next), sllaw_next⟩)
  (claw_next : PySem.W.codeIn K cdlaw_next "_law_next" = true)
  (klaw_next : PySem.W.keepIn K (.ref flaw_next) = true)
  (alaw_tracks : PySem.W.nsIn K mainGlobals "_law_tracks" = some (some (.ref flaw_tracks)))
  (llaw_tracks : K.lookup flaw_tracks = some ⟨oclaw_tracks, odlaw_tracks, .func (PySem.W.fnOf "_law_tracks" "_law_tracks" (defArgs s_law_tracks) (defBody s_law_tracks) (defScope s_law_tracks) .none kVlaw_tracks dclaw_tracks pmlaw_tracks anlaw_tracks cdlaw_tracks ctlaw_tracks), sllaw_tracks⟩)
  (claw_tracks : PySem.W.codeIn K cdlaw_tracks "_law_tracks" = true)
  (klaw_tracks : PySem.W.keepIn K (.ref flaw_tracks) = true)
  (acheck_length : PySem.W.nsIn K mainGlobals "check_length" = some (some (.ref fcheck_length)))
  (lcheck_length : K.lookup fcheck_length = some ⟨occheck_length, odcheck_length, .func (PySem.W.fnOf "check_length" "check_length" (defArgs s_check_length) (defBody s_check_length) (defScope s_check_length) .none kVcheck_length dccheck_length pmcheck_length ancheck_length cdcheck_length ctcheck_length), slcheck_length⟩)
  (ccheck_length : PySem.W.codeIn K cdcheck_length "check_length" = true)
  (kcheck_length : PySem.W.keepIn K (.ref fcheck_length) = true)
  (alayers : PySem.W.nsIn K mainGlobals "layers" = some (some (.ref flayers)))
  (llayers : K.lookup flayers = some ⟨oclayers, odlayers, .func (PySem.W.fnOf "layers" "layers" (defArgs s_layers) (defBody s_layers) (defScope s_layers) .none kVlayers dclayers pmlayers anlayers cdlayers ctlayers), sllayers⟩)
  (clayers : PySem.W.codeIn K cdlayers "layers" = true)
  (klayers : PySem.W.keepIn K (.ref flayers) = true)
  (adepth_behind : PySem.W.nsIn K mainGlobals "depth_behind" = some (some (.ref fdepth_behind)))
  (ldepth_behind : K.lookup fdepth_behind = some ⟨ocdepth_behind, oddepth_behind, .func (PySem.W.fnOf "depth_behind" "depth_behind" (defArgs s_depth_behind) (defBody s_depth_behind) (defScope s_depth_behind) .none kVdepth_behind dcdepth_behind pmdepth_behind andepth_behind cddepth_behind ctdepth_behind), sldepth_behind⟩)
  (cdepth_behind : PySem.W.codeIn K cddepth_behind "depth_behind" = true)
  (kdepth_behind : PySem.W.keepIn K (.ref fdepth_behind) = true)
  (abranch_depths : PySem.W.nsIn K mainGlobals "branch_depths" = some (some (.ref fbranch_depths)))
  (lbranch_depths : K.lookup fbranch_depths = some ⟨ocbranch_depths, odbranch_depths, .func (PySem.W.fnOf "branch_depths" "branch_depths" (defArgs s_branch_depths) (defBody s_branch_depths) (defScope s_branch_depths) .none kVbranch_depths dcbranch_depths pmbranch_depths anbranch_depths cdbranch_depths ctbranch_depths), slbranch_depths⟩)
  (cbranch_depths : PySem.W.codeIn K cdbranch_depths "branch_depths" = true)
  (kbranch_depths : PySem.W.keepIn K (.ref fbranch_depths) = true)
  (alayers_behind : PySem.W.nsIn K mainGlobals "_layers_behind" = some (some (.ref flayers_behind)))
  (llayers_behind : K.lookup flayers_behind = some ⟨oclayers_behind, odlayers_behind, .func (PySem.W.fnOf "_layers_behind" "_layers_behind" (defArgs s_layers_behind) (defBody s_layers_behind) (defScope s_layers_behind) .none kVlayers_behind dclayers_behind pmlayers_behind anlayers_behind cdlayers_behind ctlayers_behind), sllayers_behind⟩)
  (clayers_behind : PySem.W.codeIn K cdlayers_behind "_layers_behind" = true)
  (klayers_behind : PySem.W.keepIn K (.ref flayers_behind) = true)
  (alongest_path : PySem.W.nsIn K mainGlobals "longest_path" = some (some (.ref flongest_path)))
  (llongest_path : K.lookup flongest_path = some ⟨oclongest_path, odlongest_path, .func (PySem.W.fnOf "longest_path" "longest_path" (defArgs s_longest_path) (defBody s_longest_path) (defScope s_longest_path) .none kVlongest_path dclongest_path pmlongest_path anlongest_path cdlongest_path ctlongest_path), sllongest_path⟩)
  (clongest_path : PySem.W.codeIn K cdlongest_path "longest_path" = true)
  (klongest_path : PySem.W.keepIn K (.ref flongest_path) = true)
  (adiameter : PySem.W.nsIn K mainGlobals "diameter" = some (some (.ref fdiameter)))
  (ldiameter : K.lookup fdiameter = some ⟨ocdiameter, oddiameter, .func (PySem.W.fnOf "diameter" "diameter" (defArgs s_diameter) (defBody s_diameter) (defScope s_diameter) .none kVdiameter dcdiameter pmdiameter andiameter cddiameter ctdiameter), sldiameter⟩)
  (cdiameter : PySem.W.codeIn K cddiameter "diameter" = true)
  (kdiameter : PySem.W.keepIn K (.ref fdiameter) = true)
  (adeep_branches : PySem.W.nsIn K mainGlobals "deep_branches" = some (some (.ref fdeep_branches)))
  (ldeep_branches : K.lookup fdeep_branches = some ⟨ocdeep_branches, oddeep_branches, .func (PySem.W.fnOf "deep_branches" "deep_branches" (defArgs s_deep_branches) (defBody s_deep_branches) (defScope s_deep_branches) .none kVdeep_branches dcdeep_branches pmdeep_branches andeep_branches cddeep_branches ctdeep_branches), sldeep_branches⟩)
  (cdeep_branches : PySem.W.codeIn K cddeep_branches "deep_branches" = true)
  (kdeep_branches : PySem.W.keepIn K (.ref fdeep_branches) = true)
  (atrunk : PySem.W.nsIn K mainGlobals "trunk" = some (some (.ref ftrunk)))
  (ltrunk : K.lookup ftrunk = some ⟨octrunk, odtrunk, .func (PySem.W.fnOf "trunk" "trunk" (defArgs s_trunk) (defBody s_trunk) (defScope s_trunk) .none kVtrunk dctrunk pmtrunk antrunk cdtrunk cttrunk), sltrunk⟩)
  (ctrunk : PySem.W.codeIn K cdtrunk "trunk" = true)
  (ktrunk : PySem.W.keepIn K (.ref ftrunk) = true)
  (apivots : PySem.W.nsIn K mainGlobals "pivots" = some (some (.ref fpivots)))
  (lpivots : K.lookup fpivots = some ⟨ocpivots, odpivots, .func (PySem.W.fnOf "pivots" "pivots" (defArgs s_pivots) (defBody s_pivots) (defScope s_pivots) .none kVpivots dcpivots pmpivots anpivots cdpivots ctpivots), slpivots⟩)
  (cpivots : PySem.W.codeIn K cdpivots "pivots" = true)
  (kpivots : PySem.W.keepIn K (.ref fpivots) = true)
  (astations_with_deep_branches : PySem.W.nsIn K mainGlobals "_stations_with_deep_branches" = some (some (.ref fstations_with_deep_branches)))
  (lstations_with_deep_branches : K.lookup fstations_with_deep_branches = some ⟨ocstations_with_deep_branches, odstations_with_deep_branches, .func (PySem.W.fnOf "_stations_with_deep_branches" "_stations_with_deep_branches" (defArgs s_stations_with_deep_branches) (defBody s_stations_with_deep_branches) (defScope s_stations_with_deep_branches) .none kVstations_with_deep_branches dcstations_with_deep_branches pmstations_with_deep_branches anstations_with_deep_branches cdstations_with_deep_branches ctstations_with_deep_branches), slstations_with_deep_branches⟩)
  (cstations_with_deep_branches : PySem.W.codeIn K cdstations_with_deep_branches "_stations_with_deep_branches" = true)
  (kstations_with_deep_branches : PySem.W.keepIn K (.ref fstations_with_deep_branches) = true)
  (adistances_and_depths : PySem.W.nsIn K mainGlobals "distances_and_depths" = some (some (.ref fdistances_and_depths)))
  (ldistances_and_depths : K.lookup fdistances_and_depths = some ⟨ocdistances_and_depths, oddistances_and_depths, .func (PySem.W.fnOf "distances_and_depths" "distances_and_depths" (defArgs s_distances_and_depths) (defBody s_distances_and_depths) (defScope s_distances_and_depths) .none kVdistances_and_depths dcdistances_and_depths pmdistances_and_depths andistances_and_depths cddistances_and_depths ctdistances_and_depths), sldistances_and_depths⟩)
  (cdistances_and_depths : PySem.W.codeIn K cddistances_and_depths "distances_and_depths" = true)
  (kdistances_and_depths : PySem.W.keepIn K (.ref fdistances_and_depths) = true)
  (apockets_by_length : PySem.W.nsIn K mainGlobals "pockets_by_length" = some (some (.ref fpockets_by_length)))
  (lpockets_by_length : K.lookup fpockets_by_length = some ⟨ocpockets_by_length, odpockets_by_length, .func (PySem.W.fnOf "pockets_by_length" "pockets_by_length" (defArgs s_pockets_by_length) (defBody s_pockets_by_length) (defScope s_pockets_by_length) .none kVpockets_by_length dcpockets_by_length pmpockets_by_length anpockets_by_length cdpockets_by_length ctpockets_by_length), slpockets_by_length⟩)
  (cpockets_by_length : PySem.W.codeIn K cdpockets_by_length "pockets_by_length" = true)
  (kpockets_by_length : PySem.W.keepIn K (.ref fpockets_by_length) = true)
  (apockets : PySem.W.nsIn K mainGlobals "pockets" = some (some (.ref fpockets)))
  (lpockets : K.lookup fpockets = some ⟨ocpockets, odpockets, .func (PySem.W.fnOf "pockets" "pockets" (defArgs s_pockets) (defBody s_pockets) (defScope s_pockets) .none kVpockets dcpockets pmpockets anpockets cdpockets ctpockets), slpockets⟩)
  (cpockets : PySem.W.codeIn K cdpockets "pockets" = true)
  (kpockets : PySem.W.keepIn K (.ref fpockets) = true)
  (apassing_length : PySem.W.nsIn K mainGlobals "passing_length" = some (some (.ref fpassing_length)))
  (lpassing_length : K.lookup fpassing_length = some ⟨ocpassing_length, odpassing_length, .func (PySem.W.fnOf "passing_length" "passing_length" (defArgs s_passing_length) (defBody s_passing_length) (defScope s_passing_length) .none kVpassing_length dcpassing_length pmpassing_length anpassing_length cdpassing_length ctpassing_length), slpassing_length⟩)
  (cpassing_length : PySem.W.codeIn K cdpassing_length "passing_length" = true)
  (kpassing_length : PySem.W.keepIn K (.ref fpassing_length) = true)
  (aturning_length : PySem.W.nsIn K mainGlobals "turning_length" = some (some (.ref fturning_length)))
  (lturning_length : K.lookup fturning_length = some ⟨octurning_length, odturning_length, .func (PySem.W.fnOf "turning_length" "turning_length" (defArgs s_turning_length) (defBody s_turning_length) (defScope s_turning_length) .none kVturning_length dcturning_length pmturning_length anturning_length cdturning_length ctturning_length), slturning_length⟩)
  (cturning_length : PySem.W.codeIn K cdturning_length "turning_length" = true)
  (kturning_length : PySem.W.keepIn K (.ref fturning_length) = true)
  (afree_classes : PySem.W.nsIn K mainGlobals "free_classes" = some (some (.ref ffree_classes)))
  (lfree_classes : K.lookup ffree_classes = some ⟨ocfree_classes, odfree_classes, .func (PySem.W.fnOf "free_classes" "free_classes" (defArgs s_free_classes) (defBody s_free_classes) (defScope s_free_classes) .none kVfree_classes dcfree_classes pmfree_classes anfree_classes cdfree_classes ctfree_classes), slfree_classes⟩)
  (cfree_classes : PySem.W.codeIn K cdfree_classes "free_classes" = true)
  (kfree_classes : PySem.W.keepIn K (.ref ffree_classes) = true)
  (athird_depth : PySem.W.nsIn K mainGlobals "_third_depth" = some (some (.ref fthird_depth)))
  (lthird_depth : K.lookup fthird_depth = some ⟨octhird_depth, odthird_depth, .func (PySem.W.fnOf "_third_depth" "_third_depth" (defArgs s_third_depth) (defBody s_third_depth) (defScope s_third_depth) .none kVthird_depth dcthird_depth pmthird_depth anthird_depth cdthird_depth ctthird_depth), slthird_depth⟩)
  (cthird_depth : PySem.W.codeIn K cdthird_depth "_third_depth" = true)
  (kthird_depth : PySem.W.keepIn K (.ref fthird_depth) = true)
  (acount_classes : PySem.W.nsIn K mainGlobals "count_classes" = some (some (.ref fcount_classes)))
  (lcount_classes : K.lookup fcount_classes = some ⟨occount_classes, odcount_classes, .func (PySem.W.fnOf "count_classes" "count_classes" (defArgs s_count_classes) (defBody s_count_classes) (defScope s_count_classes) .none kVcount_classes dccount_classes pmcount_classes ancount_classes cdcount_classes ctcount_classes), slcount_classes⟩)
  (ccount_classes : PySem.W.codeIn K cdcount_classes "count_classes" = true)
  (kcount_classes : PySem.W.keepIn K (.ref fcount_classes) = true)
  (acount_free_classes : PySem.W.nsIn K mainGlobals "_count_free_classes" = some (some (.ref fcount_free_classes)))
  (lcount_free_classes : K.lookup fcount_free_classes = some ⟨occount_free_classes, odcount_free_classes, .func (PySem.W.fnOf "_count_free_classes" "_count_free_classes" (defArgs s_count_free_classes) (defBody s_count_free_classes) (defScope s_count_free_classes) .none kVcount_free_classes dccount_free_classes pmcount_free_classes ancount_free_classes cdcount_free_classes ctcount_free_classes), slcount_free_classes⟩)
  (ccount_free_classes : PySem.W.codeIn K cdcount_free_classes "_count_free_classes" = true)
  (kcount_free_classes : PySem.W.keepIn K (.ref fcount_free_classes) = true)
  (alaw_links : PySem.W.nsIn K mainGlobals "_law_links" = some (some (.ref flaw_links)))
  (llaw_links : K.lookup flaw_links = some ⟨oclaw_links, odlaw_links, .func (PySem.W.fnOf "_law_links" "_law_links" (defArgs s_law_links) (defBody s_law_links) (defScope s_law_links) .none kVlaw_links dclaw_links pmlaw_links anlaw_links cdlaw_links ctlaw_links), sllaw_links⟩)
  (claw_links : PySem.W.codeIn K cdlaw_links "_law_links" = true)
  (klaw_links : PySem.W.keepIn K (.ref flaw_links) = true)
  (alaw_gaps : PySem.W.nsIn K mainGlobals "_law_gaps" = some (some (.ref flaw_gaps)))
  (llaw_gaps : K.lookup flaw_gaps = some ⟨oclaw_gaps, odlaw_gaps, .func (PySem.W.fnOf "_law_gaps" "_law_gaps" (defArgs s_law_gaps) (defBody s_law_gaps) (defScope s_law_gaps) .none kVlaw_gaps dclaw_gaps pmlaw_gaps anlaw_gaps cdlaw_gaps ctlaw_gaps), sllaw_gaps⟩)
  (claw_gaps : PySem.W.codeIn K cdlaw_gaps "_law_gaps" = true)
  (klaw_gaps : PySem.W.keepIn K (.ref flaw_gaps) = true)
  (alaw_depth : PySem.W.nsIn K mainGlobals "_law_depth" = some (some (.ref flaw_depth)))
  (llaw_depth : K.lookup flaw_depth = some ⟨oclaw_depth, odlaw_depth, .func (PySem.W.fnOf "_law_depth" "_law_depth" (defArgs s_law_depth) (defBody s_law_depth) (defScope s_law_depth) .none kVlaw_depth dclaw_depth pmlaw_depth anlaw_depth cdlaw_depth ctlaw_depth), sllaw_depth⟩)
  (claw_depth : PySem.W.codeIn K cdlaw_depth "_law_depth" = true)
  (klaw_depth : PySem.W.keepIn K (.ref flaw_depth) = true)
  (alaw_third : PySem.W.nsIn K mainGlobals "_law_third" = some (some (.ref flaw_third)))
  (llaw_third : K.lookup flaw_third = some ⟨oclaw_third, odlaw_third, .func (PySem.W.fnOf "_law_third" "_law_third" (defArgs s_law_third) (defBody s_law_third) (defScope s_law_third) .none kVlaw_third dclaw_third pmlaw_third anlaw_third cdlaw_third ctlaw_third), sllaw_third⟩)
  (claw_third : PySem.W.codeIn K cdlaw_third "_law_third" = true)
  (klaw_third : PySem.W.keepIn K (.ref flaw_third) = true)
  (alaw : PySem.W.nsIn K mainGlobals "law" = some (some (.ref flaw)))
  (llaw : K.lookup flaw = some ⟨oclaw, odlaw, .func (PySem.W.fnOf "law" "law" (defArgs s_law) (defBody s_law) (defScope s_law) .none kVlaw dclaw pmlaw anlaw cdlaw ctlaw), sllaw⟩)
  (claw : PySem.W.codeIn K cdlaw "law" = true)
  (klaw : PySem.W.keepIn K (.ref flaw) = true)
  (aC : PySem.W.nsIn K mainGlobals "Railway" = some (some (.ref C)))
  (cR : PySem.W.readsIn K C (.type "type") = true)
  (cG : PySem.W.specialIn K (.ref C) "__getattribute__" = some (some (.builtin "type.__getattribute__")))
  (cM : PySem.W.findCls K (.ref C) (.type "type") "MOST_STATIONS" = some (.val (.int 100 tM)))
  (pg : PySem.W.plainGet K C Str.empty = true)
  (hd : PySem.W.hasDictIn K C = true)
  (po : PySem.W.plainOver K C = true)
  (sa : PySem.W.findIn K (.ref C) "__setattr__" = some (some (.builtin "object.__setattr__")))
  (mk : PySem.W.makesIn K C = true)
  (kc : PySem.W.keepIn K (.ref C) = true)
  (n0 : PySem.W.findIn K (.ref C) "_tracks" = some none)
  (n1 : PySem.W.findIn K (.ref C) "_neighbours" = some none)
  (n2 : PySem.W.findIn K (.ref C) "_above" = some none)
  (n3 : PySem.W.findIn K (.ref C) "_levels" = some none)
  (kca : PySem.W.findIn K (.ref C) "__class__" = some (some (.builtin "object.__class__")))
  (kob : PySem.W.mroIn K C (.type "object") = some true)
  (sg : PySem.W.specialIn K (.builtin "object.__class__") "__get__" = some (some (.builtin "getset_descriptor.__get__")))
  (st : PySem.W.takesIn K (.builtin "object.__class__") = some true)
  (aMinit : PySem.W.findIn K (.ref C) "__init__" = some (some (.ref fMinit)))
  (iMinit : PySem.W.isFn K (.ref fMinit) = true)
  (lMinit : K.lookup fMinit = some ⟨ocMinit, odMinit, .func (PySem.W.fnOf "__init__" "Railway.__init__" (defArgs s_Railway_init) (defBody s_Railway_init) (defScope s_Railway_init) .none kVMinit dcMinit pmMinit anMinit cdMinit ctMinit), slMinit⟩)
  (cMinit : PySem.W.codeIn K cdMinit "Railway.__init__" = true)
  (kMinit : PySem.W.keepIn K (.ref fMinit) = true)
  (aMpath : PySem.W.findIn K (.ref C) "path" = some (some (.ref fMpath)))
  (iMpath : PySem.W.isFn K (.ref fMpath) = true)
  (lMpath : K.lookup fMpath = some ⟨ocMpath, odMpath, .func (PySem.W.fnOf "path" "Railway.path" (defArgs s_Railway_path) (defBody s_Railway_path) (defScope s_Railway_path) .none kVMpath dcMpath pmMpath anMpath cdMpath ctMpath), slMpath⟩)
  (cMpath : PySem.W.codeIn K cdMpath "Railway.path" = true)
  (kMpath : PySem.W.keepIn K (.ref fMpath) = true)
  (aMsize : PySem.W.findIn K (.ref C) "size" = some (some (.ref pMsize)))
  (gMsize : PySem.W.specialIn K (.ref pMsize) "__get__" = some (some (.builtin "property.__get__")))
  (tMsize : PySem.W.takesIn K (.ref pMsize) = some true)
  (rMsizeh : PySem.W.recIn K pMsize "property" = some (.ref fMsize :: rMsize))
  (lMsize : K.lookup fMsize = some ⟨ocMsize, odMsize, .func (PySem.W.fnOf "size" "Railway.size" (defArgs s_Railway_size) (defBody s_Railway_size) (defScope s_Railway_size) .none kVMsize dcMsize pmMsize anMsize cdMsize ctMsize), slMsize⟩)
  (cMsize : PySem.W.codeIn K cdMsize "Railway.size" = true)
  (kMsize : PySem.W.keepIn K (.ref fMsize) = true)
  (aMof : PySem.W.findCls K (.ref C) (.type "type") "of" = some (.get (.builtin "classmethod.__get__") (.ref pMof) .none (.ref C)))
  (rMofh : PySem.W.recIn K pMof "classmethod" = some (.ref fMof :: rMof))
  (iMof : PySem.W.fnIn K fMof = true)
  (lMof : K.lookup fMof = some ⟨ocMof, odMof, .func (PySem.W.fnOf "of" "Railway.of" (defArgs s_Railway_of) (defBody s_Railway_of) (defScope s_Railway_of) .none kVMof dcMof pmMof anMof cdMof ctMof), slMof⟩)
  (cMof : PySem.W.codeIn K cdMof "Railway.of" = true)
  (kMof : PySem.W.keepIn K (.ref fMof) = true)
  (aMneighbours : PySem.W.findIn K (.ref C) "neighbours" = some (some (.ref fMneighbours)))
  (iMneighbours : PySem.W.isFn K (.ref fMneighbours) = true)
  (lMneighbours : K.lookup fMneighbours = some ⟨ocMneighbours, odMneighbours, .func (PySem.W.fnOf "neighbours" "Railway.neighbours" (defArgs s_Railway_neighbours) (defBody s_Railway_neighbours) (defScope s_Railway_neighbours) .none kVMneighbours dcMneighbours pmMneighbours anMneighbours cdMneighbours ctMneighbours), slMneighbours⟩)
  (cMneighbours : PySem.W.codeIn K cdMneighbours "Railway.neighbours" = true)
  (kMneighbours : PySem.W.keepIn K (.ref fMneighbours) = true)
  (z_len : PySem.W.nsIn K mainGlobals "len" = some none)
  (z_isinstance : PySem.W.nsIn K mainGlobals "isinstance" = some none)
  (z_int : PySem.W.nsIn K mainGlobals "int" = some none)
  (z_bool : PySem.W.nsIn K mainGlobals "bool" = some none)
  (z_tuple : PySem.W.nsIn K mainGlobals "tuple" = some none)
  (z_list : PySem.W.nsIn K mainGlobals "list" = some none)
  (z_sorted : PySem.W.nsIn K mainGlobals "sorted" = some none)
  (z_min : PySem.W.nsIn K mainGlobals "min" = some none)
  (z_max : PySem.W.nsIn K mainGlobals "max" = some none)
  (z_range : PySem.W.nsIn K mainGlobals "range" = some none)
  (z_enumerate : PySem.W.nsIn K mainGlobals "enumerate" = some none)
  (z_repr : PySem.W.nsIn K mainGlobals "repr" = some none)
  (z_set : PySem.W.nsIn K mainGlobals "set" = some none)
  (z_all : PySem.W.nsIn K mainGlobals "all" = some none)
  (z_any : PySem.W.nsIn K mainGlobals "any" = some none)
  (z_zip : PySem.W.nsIn K mainGlobals "zip" = some none)
  (z_str : PySem.W.nsIn K mainGlobals "str" = some none) :
  ∃ fd : FuncData, (∀ (s : Shared) (u : Value), BindsTo s fd ⟨[u], []⟩ [("script", u)]) ∧ ∀ base : Heap, K.In base → base.Ns mainGlobals mg → FnG P w K mg base CX0 14 fa fd ["script"] (spLaw K) := by
  have e := hfa.symm.trans (PySem.W.mg_of X G alaw)
  cases e
  have N : Nm mg := ⟨PySem.W.mg_none_of X G z_len, PySem.W.mg_none_of X G z_isinstance, PySem.W.mg_none_of X G z_int, PySem.W.mg_none_of X G z_bool, PySem.W.mg_none_of X G z_tuple, PySem.W.mg_none_of X G z_list, PySem.W.mg_none_of X G z_sorted, PySem.W.mg_none_of X G z_min, PySem.W.mg_none_of X G z_max, PySem.W.mg_none_of X G z_range, PySem.W.mg_none_of X G z_enumerate, PySem.W.mg_none_of X G z_repr, PySem.W.mg_none_of X G z_set, PySem.W.mg_none_of X G z_all, PySem.W.mg_none_of X G z_any, PySem.W.mg_none_of X G z_zip, PySem.W.mg_none_of X G z_str⟩
  have Fis_integer := fun_mk (st := s_is_integer) lis_integer cis_integer kis_integer
  have bis_integer := Fis_integer.binds (ps := ["value"]) fun _ _ _ _ _ _ us hl => by obtain ⟨_, rfl⟩ := lenV1 hl; exact rfl
  have Fis_number_from := fun_mk (st := s_is_number_from) lis_number_from cis_number_from kis_number_from
  have bis_number_from := Fis_number_from.binds (ps := ["value", "least", "greatest"]) fun _ _ _ _ _ _ us hl => by obtain ⟨_, _, _, rfl⟩ := lenV3 hl; exact rfl
  have Fis_pair_of_stations := fun_mk (st := s_is_pair_of_stations) lis_pair_of_stations cis_pair_of_stations kis_pair_of_stations
  have bis_pair_of_stations := Fis_pair_of_stations.binds (ps := ["value", "size"]) fun _ _ _ _ _ _ us hl => by obtain ⟨_, _, rfl⟩ := lenV2 hl; exact rfl
  have Fis_station := fun_mk (st := s_is_station) lis_station cis_station kis_station
  have bis_station := Fis_station.binds (ps := ["railway", "value"]) fun _ _ _ _ _ _ us hl => by obtain ⟨_, _, rfl⟩ := lenV2 hl; exact rfl
  have Fcheck_station := fun_mk (st := s_check_station) lcheck_station ccheck_station kcheck_station
  have bcheck_station := Fcheck_station.binds (ps := ["railway", "station"]) fun _ _ _ _ _ _ us hl => by obtain ⟨_, _, rfl⟩ := lenV2 hl; exact rfl
  have Fjoined := fun_mk (st := s_joined) ljoined cjoined kjoined
  have bjoined := Fjoined.binds (ps := ["groups", "one", "other"]) fun _ _ _ _ _ _ us hl => by obtain ⟨_, _, _, rfl⟩ := lenV3 hl; exact rfl
  have Ffirst_wrong_track := fun_mk (st := s_first_wrong_track) lfirst_wrong_track cfirst_wrong_track kfirst_wrong_track
  have bfirst_wrong_track := Ffirst_wrong_track.binds (ps := ["tracks"]) fun _ _ _ _ _ _ us hl => by obtain ⟨_, rfl⟩ := lenV1 hl; exact rfl
  have Fneighbours_of := fun_mk (st := s_neighbours_of) lneighbours_of cneighbours_of kneighbours_of
  have bneighbours_of := Fneighbours_of.binds (ps := ["tracks"]) fun _ _ _ _ _ _ us hl => by obtain ⟨_, rfl⟩ := lenV1 hl; exact rfl
  have Fplaces_below_first := fun_mk (st := s_places_below_first) lplaces_below_first cplaces_below_first kplaces_below_first
  have bplaces_below_first := Fplaces_below_first.binds (ps := ["neighbours"]) fun _ _ _ _ _ _ us hl => by obtain ⟨_, rfl⟩ := lenV1 hl; exact rfl
  have Flaw_begin := fun_mk (st := s_law_begin) llaw_begin claw_begin klaw_begin
  have blaw_begin := Flaw_begin.binds (ps := ["script"]) fun _ _ _ _ _ _ us hl => by obtain ⟨_, rfl⟩ := lenV1 hl; exact rfl
  have Flaw_mixed := fun_mk (st := s_law_mixed) llaw_mixed claw_mixed klaw_mixed
  have blaw_mixed := Flaw_mixed.binds (ps := ["cell", "k"]) fun _ _ _ _ _ _ us hl => by obtain ⟨_, _, rfl⟩ := lenV2 hl; exact rfl
  have Flaw_next := fun_mk (st := s_law_next) llaw_next claw_next klaw_next
  have blaw_next := Flaw_next.binds (ps := ["draw", "bound"]) fun _ _ _ _ _ _ us hl => by obtain ⟨_, _, rfl⟩ := lenV2 hl; exact rfl
  have Flaw_tracks := fun_mk (st := s_law_tracks) llaw_tracks claw_tracks klaw_tracks
  have blaw_tracks := Flaw_tracks.binds (ps := ["draw", "most"]) fun _ _ _ _ _ _ us hl => by obtain ⟨_, _, rfl⟩ := lenV2 hl; exact rfl
  have Fcheck_length := fun_mk (st := s_check_length) lcheck_length ccheck_length kcheck_length
  have bcheck_length := Fcheck_length.binds (ps := ["length"]) fun _ _ _ _ _ _ us hl => by obtain ⟨_, rfl⟩ := lenV1 hl; exact rfl
  have Flayers := fun_mk (st := s_layers) llayers clayers klayers
  have blayers := Flayers.binds (ps := ["railway", "station", "barred"]) fun _ _ _ _ _ _ us hl => by obtain ⟨_, _, _, rfl⟩ := lenV3 hl; exact rfl
  have Fdepth_behind := fun_mk (st := s_depth_behind) ldepth_behind cdepth_behind kdepth_behind
  have bdepth_behind := Fdepth_behind.binds (ps := ["railway", "station", "seen_from"]) fun _ _ _ _ _ _ us hl => by obtain ⟨_, _, _, rfl⟩ := lenV3 hl; exact rfl
  have Fbranch_depths := fun_mk (st := s_branch_depths) lbranch_depths cbranch_depths kbranch_depths
  have bbranch_depths := Fbranch_depths.binds (ps := ["railway", "station"]) fun _ _ _ _ _ _ us hl => by obtain ⟨_, _, rfl⟩ := lenV2 hl; exact rfl
  have Flayers_behind := fun_mk (st := s_layers_behind) llayers_behind clayers_behind klayers_behind
  have blayers_behind := Flayers_behind.binds (ps := ["railway", "station", "seen_from"]) fun _ _ _ _ _ _ us hl => by obtain ⟨_, _, _, rfl⟩ := lenV3 hl; exact rfl
  have Flongest_path := fun_mk (st := s_longest_path) llongest_path clongest_path klongest_path
  have blongest_path := Flongest_path.binds (ps := ["railway"]) fun _ _ _ _ _ _ us hl => by obtain ⟨_, rfl⟩ := lenV1 hl; exact rfl
  have Fdiameter := fun_mk (st := s_diameter) ldiameter cdiameter kdiameter
  have bdiameter := Fdiameter.binds (ps := ["railway"]) fun _ _ _ _ _ _ us hl => by obtain ⟨_, rfl⟩ := lenV1 hl; exact rfl
  have Fdeep_branches := fun_mk (st := s_deep_branches) ldeep_branches cdeep_branches kdeep_branches
  have bdeep_branches := Fdeep_branches.binds (ps := ["railway", "station", "length"]) fun _ _ _ _ _ _ us hl => by obtain ⟨_, _, _, rfl⟩ := lenV3 hl; exact rfl
  have Ftrunk := fun_mk (st := s_trunk) ltrunk ctrunk ktrunk
  have btrunk := Ftrunk.binds (ps := ["railway", "length"]) fun _ _ _ _ _ _ us hl => by obtain ⟨_, _, rfl⟩ := lenV2 hl; exact rfl
  have Fpivots := fun_mk (st := s_pivots) lpivots cpivots kpivots
  have bpivots := Fpivots.binds (ps := ["railway", "length"]) fun _ _ _ _ _ _ us hl => by obtain ⟨_, _, rfl⟩ := lenV2 hl; exact rfl
  have Fstations_with_deep_branches := fun_mk (st := s_stations_with_deep_branches) lstations_with_deep_branches cstations_with_deep_branches kstations_with_deep_branches
  have bstations_with_deep_branches := Fstations_with_deep_branches.binds (ps := ["railway", "length", "least"]) fun _ _ _ _ _ _ us hl => by obtain ⟨_, _, _, rfl⟩ := lenV3 hl; exact rfl
  have Fdistances_and_depths := fun_mk (st := s_distances_and_depths) ldistances_and_depths cdistances_and_depths kdistances_and_depths
  have bdistances_and_depths := Fdistances_and_depths.binds (ps := ["railway"]) fun _ _ _ _ _ _ us hl => by obtain ⟨_, rfl⟩ := lenV1 hl; exact rfl
  have Fpockets_by_length := fun_mk (st := s_pockets_by_length) lpockets_by_length cpockets_by_length kpockets_by_length
  have bpockets_by_length := Fpockets_by_length.binds (ps := ["railway"]) fun _ _ _ _ _ _ us hl => by obtain ⟨_, rfl⟩ := lenV1 hl; exact rfl
  have Fpockets := fun_mk (st := s_pockets) lpockets cpockets kpockets
  have bpockets := Fpockets.binds (ps := ["railway", "length"]) fun _ _ _ _ _ _ us hl => by obtain ⟨_, _, rfl⟩ := lenV2 hl; exact rfl
  have Fpassing_length := fun_mk (st := s_passing_length) lpassing_length cpassing_length kpassing_length
  have bpassing_length := Fpassing_length.binds (ps := ["railway"]) fun _ _ _ _ _ _ us hl => by obtain ⟨_, rfl⟩ := lenV1 hl; exact rfl
  have Fturning_length := fun_mk (st := s_turning_length) lturning_length cturning_length kturning_length
  have bturning_length := Fturning_length.binds (ps := ["railway"]) fun _ _ _ _ _ _ us hl => by obtain ⟨_, rfl⟩ := lenV1 hl; exact rfl
  have Ffree_classes := fun_mk (st := s_free_classes) lfree_classes cfree_classes kfree_classes
  have bfree_classes := Ffree_classes.binds (ps := ["length", "passing", "turning"]) fun _ _ _ _ _ _ us hl => by obtain ⟨_, _, _, rfl⟩ := lenV3 hl; exact rfl
  have Fthird_depth := fun_mk (st := s_third_depth) lthird_depth cthird_depth kthird_depth
  have bthird_depth := Fthird_depth.binds (ps := ["railway", "station"]) fun _ _ _ _ _ _ us hl => by obtain ⟨_, _, rfl⟩ := lenV2 hl; exact rfl
  have Fcount_classes := fun_mk (st := s_count_classes) lcount_classes ccount_classes kcount_classes
  have bcount_classes := Fcount_classes.binds (ps := ["railway", "length"]) fun _ _ _ _ _ _ us hl => by obtain ⟨_, _, rfl⟩ := lenV2 hl; exact rfl
  have Fcount_free_classes := fun_mk (st := s_count_free_classes) lcount_free_classes ccount_free_classes kcount_free_classes
  have bcount_free_classes := Fcount_free_classes.binds (ps := ["railway", "length"]) fun _ _ _ _ _ _ us hl => by obtain ⟨_, _, rfl⟩ := lenV2 hl; exact rfl
  have Flaw_links := fun_mk (st := s_law_links) llaw_links claw_links klaw_links
  have blaw_links := Flaw_links.binds (ps := ["tracks"]) fun _ _ _ _ _ _ us hl => by obtain ⟨_, rfl⟩ := lenV1 hl; exact rfl
  have Flaw_gaps := fun_mk (st := s_law_gaps) llaw_gaps claw_gaps klaw_gaps
  have blaw_gaps := Flaw_gaps.binds (ps := ["links"]) fun _ _ _ _ _ _ us hl => by obtain ⟨_, rfl⟩ := lenV1 hl; exact rfl
  have Flaw_depth := fun_mk (st := s_law_depth) llaw_depth claw_depth klaw_depth
  have blaw_depth := Flaw_depth.binds (ps := ["gaps", "front", "back"]) fun _ _ _ _ _ _ us hl => by obtain ⟨_, _, _, rfl⟩ := lenV3 hl; exact rfl
  have Flaw_third := fun_mk (st := s_law_third) llaw_third claw_third klaw_third
  have blaw_third := Flaw_third.binds (ps := ["links", "gaps", "rank"]) fun _ _ _ _ _ _ us hl => by obtain ⟨_, _, _, rfl⟩ := lenV3 hl; exact rfl
  have Flaw := fun_mk (st := s_law) llaw claw klaw
  have blaw := Flaw.binds (ps := ["script"]) fun _ _ _ _ _ _ us hl => by obtain ⟨_, rfl⟩ := lenV1 hl; exact rfl
  have cl : Cls K C := ⟨pg, hd, po, sa⟩
  have cr : CRead K C (.type "type") := ⟨cR, cG⟩
  have TX : TxtR K mg C := ⟨cl, n0, n1, n2, n3, PySem.W.mg_of X G aC, .type "type", tM, cr, ⟨cM, ⟨tM, rfl⟩⟩⟩
  have JK : InsK K C := ⟨kca, sg, st, kob⟩
  have KC : KCls K := ⟨sg, st⟩
  have FMinit := fun_mk (st := s_Railway_init) lMinit cMinit kMinit
  have FMpath := fun_mk (st := s_Railway_path) lMpath cMpath kMpath
  have bMpath := FMpath.binds (ps := ["self", "one", "other"]) fun _ _ _ _ _ _ us hl => by obtain ⟨_, _, _, rfl⟩ := lenV3 hl; exact rfl
  have mMpath : Meth K C "path" fMpath := ⟨aMpath, iMpath, kMpath⟩
  have PMsize : PropOf K C "size" pMsize fMsize := ⟨aMsize, gMsize, tMsize, ⟨rMsize, rMsizeh⟩⟩
  have FMsize := fun_mk (st := s_Railway_size) lMsize cMsize kMsize
  have bMsize := FMsize.binds (ps := ["self"]) fun _ _ _ _ _ _ us hl => by obtain ⟨_, rfl⟩ := lenV1 hl; exact rfl
  have FMof := fun_mk (st := s_Railway_of) lMof cMof kMof
  have bMof := FMof.binds (ps := ["cls", "tracks"]) fun _ _ _ _ _ _ us hl => by obtain ⟨_, _, rfl⟩ := lenV2 hl; exact rfl
  have cmMof : CMet K C (.type "type") "of" pMof fMof := ⟨aMof, ⟨rMof, rMofh⟩, iMof⟩
  have FMneighbours := fun_mk (st := s_Railway_neighbours) lMneighbours cMneighbours kMneighbours
  have bMneighbours := FMneighbours.binds (ps := ["self", "station"]) fun _ _ _ _ _ _ us hl => by obtain ⟨_, _, rfl⟩ := lenV2 hl; exact rfl
  have mMneighbours : Meth K C "neighbours" fMneighbours := ⟨aMneighbours, iMneighbours, kMneighbours⟩
  refine ⟨PySem.W.fnOf "law" "law" (defArgs s_law) (defBody s_law) (defScope s_law) .none kVlaw dclaw pmlaw anlaw cdlaw ctlaw, fun s v => .of_eq rfl, fun base _ _ => ?_⟩
  have Uis_integer : Use P w K mg base CX0 1 _ _ _ _ _ := ⟨ok_isInt Fis_integer N, PySem.W.mg_of X G ais_integer, kis_integer, bis_integer⟩
  have Uis_number_from : Use P w K mg base CX0 2 _ _ _ _ _ := ⟨ok_num Fis_number_from Uis_integer, PySem.W.mg_of X G ais_number_from, kis_number_from, bis_number_from⟩
  have Uis_pair_of_stations : Use P w K mg base CX0 3 _ _ _ _ _ := ⟨ok_pair Fis_pair_of_stations N Uis_number_from, PySem.W.mg_of X G ais_pair_of_stations, kis_pair_of_stations, bis_pair_of_stations⟩
  have Z : SizeOf P w K mg base C pMsize fMsize _ := ⟨cl, PMsize, ok_size FMsize N TX, bMsize⟩
  have Uis_station : Use P w K mg base CX0 3 _ _ _ _ _ := ⟨ok_isst Fis_station Uis_number_from Z, PySem.W.mg_of X G ais_station, kis_station, bis_station⟩
  have Ucheck_station : Use P w K mg base CX0 4 _ _ _ _ _ := ⟨ok_chk Fcheck_station Uis_station, PySem.W.mg_of X G acheck_station, kcheck_station, bcheck_station⟩
  have GP := ok_path (P := P) (w := w) (base := base) FMpath N TX Ucheck_station
  have Ujoined : Use P w K mg base CX0 1 _ _ _ _ _ := ⟨ok_join Fjoined, PySem.W.mg_of X G ajoined, kjoined, bjoined⟩
  have Ufirst_wrong_track : Use P w K mg base CX0 4 _ _ _ _ _ := ⟨ok_first Ffirst_wrong_track N Uis_pair_of_stations Ujoined, PySem.W.mg_of X G afirst_wrong_track, kfirst_wrong_track, bfirst_wrong_track⟩
  have Uneighbours_of : Use P w K mg base CX0 1 _ _ _ _ _ := ⟨ok_nbs Fneighbours_of N, PySem.W.mg_of X G aneighbours_of, kneighbours_of, bneighbours_of⟩
  have Uplaces_below_first : Use P w K mg base CX0 1 _ _ _ _ _ := ⟨ok_places Fplaces_below_first N, PySem.W.mg_of X G aplaces_below_first, kplaces_below_first, bplaces_below_first⟩
  have GI := fn_init (P := P) (w := w) (base := base) FMinit N TX Ufirst_wrong_track Uneighbours_of Uplaces_below_first
  have M : Mk K C fMinit := ⟨mk, aMinit, iMinit, kc⟩
  have GO : FnR P w K mg base CX0 7 fMof (spRof C) := ((ok_rof FMof N M GI).raw bMof .nil).imp fun vs H Q E h => by rw [List.append_nil]; exact h
  have Ulaw_begin : Use P w K mg base CX0 1 _ _ _ _ _ := ⟨ok_begin Flaw_begin, PySem.W.mg_of X G alaw_begin, klaw_begin, blaw_begin⟩
  have Ulaw_next : Use P w K mg base CX0 2 _ _ _ _ _ := ⟨ok_next Flaw_next ⟨PySem.W.mg_none_of X G z_len, PySem.W.mg_of X G alaw_mixed⟩ Flaw_mixed blaw_mixed, PySem.W.mg_of X G alaw_next, klaw_next, blaw_next⟩
  have Ulaw_tracks : Use P w K mg base CX0 3 _ _ _ _ _ := ⟨ok_trk Flaw_tracks N Ulaw_next, PySem.W.mg_of X G alaw_tracks, klaw_tracks, blaw_tracks⟩
  have Mn : MU P w K mg base C 5 "neighbours" fMneighbours _ ["self", "station"] (spNbr C) := ⟨mMneighbours, ok_nbr FMneighbours TX Ucheck_station, bMneighbours⟩
  have Mp : MU P w K mg base C 5 "path" fMpath _ ["self", "one", "other"] (spPath C) := ⟨mMpath, GP, bMpath⟩
  have Ucheck_length : Use P w K mg base CX0 2 _ _ _ _ _ := ⟨ok_chklen Fcheck_length Uis_integer, PySem.W.mg_of X G acheck_length, kcheck_length, bcheck_length⟩
  have Ulayers : Use P w K mg base CX0 6 _ _ _ _ _ := ⟨ok_layers Flayers TX mMneighbours Mn.G bMneighbours, PySem.W.mg_of X G alayers, klayers, blayers⟩
  have Ulayers_behind : Use P w K mg base CX0 7 _ _ _ _ _ := ⟨ok_lbh Flayers_behind TX Ucheck_station Ulayers Mp, PySem.W.mg_of X G alayers_behind, klayers_behind, blayers_behind⟩
  have Udepth_behind : Use P w K mg base CX0 8 _ _ _ _ _ := ⟨ok_dbh Fdepth_behind N Ulayers_behind, PySem.W.mg_of X G adepth_behind, kdepth_behind, bdepth_behind⟩
  have Ubranch_depths : Use P w K mg base CX0 9 _ _ _ _ _ := ⟨ok_brd Fbranch_depths N TX Ucheck_station Udepth_behind Mn, PySem.W.mg_of X G abranch_depths, kbranch_depths, bbranch_depths⟩
  have Ulongest_path : Use P w K mg base CX0 7 _ _ _ _ _ := ⟨ok_lngP Flongest_path TX Ulayers Mp, PySem.W.mg_of X G alongest_path, klongest_path, blongest_path⟩
  have Udiameter : Use P w K mg base CX0 8 _ _ _ _ _ := ⟨ok_dia Fdiameter N Ulongest_path, PySem.W.mg_of X G adiameter, kdiameter, bdiameter⟩
  have Udeep_branches : Use P w K mg base CX0 10 _ _ _ _ _ := ⟨ok_dpb Fdeep_branches N Ucheck_station Ucheck_length Ubranch_depths, PySem.W.mg_of X G adeep_branches, kdeep_branches, bdeep_branches⟩
  have Ustations_with_deep_branches : Use P w K mg base CX0 11 _ _ _ _ _ := ⟨ok_swd Fstations_with_deep_branches N Ucheck_length Udeep_branches Z, PySem.W.mg_of X G astations_with_deep_branches, kstations_with_deep_branches, bstations_with_deep_branches⟩
  have Upivots : Use P w K mg base CX0 12 _ _ _ _ _ := ⟨ok_piv Fpivots Ustations_with_deep_branches, PySem.W.mg_of X G apivots, kpivots, bpivots⟩
  have Utrunk : Use P w K mg base CX0 12 _ _ _ _ _ := ⟨ok_trk2 Ftrunk Ustations_with_deep_branches, PySem.W.mg_of X G atrunk, ktrunk, btrunk⟩
  have Udistances_and_depths : Use P w K mg base CX0 10 _ _ _ _ _ := ⟨ok_dad Fdistances_and_depths N Ubranch_depths Ulayers Z, PySem.W.mg_of X G adistances_and_depths, kdistances_and_depths, bdistances_and_depths⟩
  have Upockets_by_length : Use P w K mg base CX0 11 _ _ _ _ _ := ⟨ok_pbl Fpockets_by_length N Udistances_and_depths, PySem.W.mg_of X G apockets_by_length, kpockets_by_length, bpockets_by_length⟩
  have Upockets : Use P w K mg base CX0 12 _ _ _ _ _ := ⟨ok_pks Fpockets N Ucheck_length Upockets_by_length, PySem.W.mg_of X G apockets, kpockets, bpockets⟩
  have Uthird_depth : Use P w K mg base CX0 10 _ _ _ _ _ := ⟨ok_thd Fthird_depth N Ubranch_depths, PySem.W.mg_of X G athird_depth, kthird_depth, bthird_depth⟩
  have UPs : UseK P w K mg base 9 "passing_length" fpassing_length _ ["railway"] ["railway"] id (spPsg C) := ⟨⟨ok_psg Fpassing_length Udiameter, PySem.W.mg_of X G apassing_length, kpassing_length, bpassing_length⟩, L2.TT.Fun.kb Fpassing_length (fun _ _ _ _ _ _ ws hl => by obtain ⟨_, rfl⟩ := lenV1 hl; exact rfl)⟩
  have UTu : UseK P w K mg base 11 "turning_length" fturning_length _ ["railway"] ["railway"] id (spTrn C) := ⟨⟨ok_trn Fturning_length N Uthird_depth Z, PySem.W.mg_of X G aturning_length, kturning_length, bturning_length⟩, L2.TT.Fun.kb Fturning_length (fun _ _ _ _ _ _ ws hl => by obtain ⟨_, rfl⟩ := lenV1 hl; exact rfl)⟩
  have Ufree_classes : Use P w K mg base CX0 1 _ _ _ _ _ := ⟨ok_fcl Ffree_classes, PySem.W.mg_of X G afree_classes, kfree_classes, bfree_classes⟩
  have Ucount_free_classes : Use P w K mg base CX0 12 _ _ _ _ _ := ⟨ok_cfc Fcount_free_classes Ufree_classes UPs.toUse UTu.toUse, PySem.W.mg_of X G acount_free_classes, kcount_free_classes, bcount_free_classes⟩
  have Ucount_classes : Use P w K mg base CX0 13 _ _ _ _ _ := ⟨ok_ccl Fcount_classes N Upockets Ucount_free_classes, PySem.W.mg_of X G acount_classes, kcount_classes, bcount_classes⟩
  have Ulaw_links : Use P w K mg base CX0 1 _ _ _ _ _ := ⟨ok_lku Flaw_links N, PySem.W.mg_of X G alaw_links, klaw_links, blaw_links⟩
  have Ulaw_gaps : Use P w K mg base CX0 1 _ _ _ _ _ := ⟨ok_gps Flaw_gaps N, PySem.W.mg_of X G alaw_gaps, klaw_gaps, blaw_gaps⟩
  have Ulaw_depth : Use P w K mg base CX0 1 _ _ _ _ _ := ⟨ok_ldp Flaw_depth N, PySem.W.mg_of X G alaw_depth, klaw_depth, blaw_depth⟩
  have Ulaw_third : Use P w K mg base CX0 2 _ _ _ _ _ := ⟨ok_lth Flaw_third N Ulaw_depth, PySem.W.mg_of X G alaw_third, klaw_third, blaw_third⟩
  exact ok_law Flaw N TX cr cmMof GO Ulaw_begin Ulaw_tracks Ulaw_links Ulaw_gaps Ulaw_third UPs UTu Utrunk Upivots Ucount_classes
end TR

open PySem PySem.W PyProof.Rows
set_option maxRecDepth 100000 in
set_option maxHeartbeats 0 in
theorem PySem.Challenge.cw_treetrain_k30_passing_and_turning_length_holds : PySem.Challenge.rw_treetrain_k30_passing_and_turning_length.Holds := by
  w_on; o_law; k_head; (case hw => w_witness2)
  k_fill
  refine L2.TT.walkG_of (l := PySem.Challenge.rw_treetrain_k30_passing_and_turning_length) (n := 63) (k := 14) (x := "script") (sp := fun w => TR.spLaw _) rfl (by decide) rfl ⟨rfl, by decide, by decide⟩ (fun w h Y => PySem.W.kIn_of Y) ?F (fun w H a ns hl _ hS => ⟨a, ns, rfl, hS, hl, fun _ => rfl⟩)
  case F =>
    intro w mg fa h KX G hmg
    refine' TR.all_mk KX G hmg ?ais_integer ?lis_integer ?cis_integer ?kis_integer ?ais_number_from ?lis_number_from ?cis_number_from ?kis_number_from ?ais_pair_of_stations ?lis_pair_of_stations ?cis_pair_of_stations ?kis_pair_of_stations ?ais_station ?lis_station ?cis_station ?kis_station ?acheck_station ?lcheck_station ?ccheck_station ?kcheck_station ?ajoined ?ljoined ?cjoined ?kjoined ?afirst_wrong_track ?lfirst_wrong_track ?cfirst_wrong_track ?kfirst_wrong_track ?aneighbours_of ?lneighbours_of ?cneighbours_of ?kneighbours_of ?aplaces_below_first ?lplaces_below_first ?cplaces_below_first ?kplaces_below_first ?alaw_begin ?llaw_begin ?claw_begin ?klaw_begin ?alaw_mixed ?llaw_mixed ?claw_mixed ?klaw_mixed ?alaw_next ?llaw_next ?claw_next ?klaw_next ?alaw_tracks ?llaw_tracks ?claw_tracks ?klaw_tracks ?acheck_length ?lcheck_length ?ccheck_length ?kcheck_length ?alayers ?llayers ?clayers ?klayers ?adepth_behind ?ldepth_behind ?cdepth_behind ?kdepth_behind ?abranch_depths ?lbranch_depths ?cbranch_depths ?kbranch_depths ?alayers_behind ?llayers_behind ?clayers_behind ?klayers_behind ?alongest_path ?llongest_path ?clongest_path ?klongest_path ?adiameter ?ldiameter ?cdiameter ?kdiameter ?adeep_branches ?ldeep_branches ?cdeep_branches ?kdeep_branches ?atrunk ?ltrunk ?ctrunk ?ktrunk ?apivots ?lpivots ?cpivots ?kpivots ?astations_with_deep_branches ?lstations_with_deep_branches ?cstations_with_deep_branches ?kstations_with_deep_branches ?adistances_and_depths ?ldistances_and_depths ?cdistances_and_depths ?kdistances_and_depths ?apockets_by_length ?lpockets_by_length ?cpockets_by_length ?kpockets_by_length ?apockets ?lpockets ?cpockets ?kpockets ?apassing_length ?lpassing_length ?cpassing_length ?kpassing_length ?aturning_length ?lturning_length ?cturning_length ?kturning_length ?afree_classes ?lfree_classes ?cfree_classes ?kfree_classes ?athird_depth ?lthird_depth ?cthird_depth ?kthird_depth ?acount_classes ?lcount_classes ?ccount_classes ?kcount_classes ?acount_free_classes ?lcount_free_classes ?ccount_free_classes ?kcount_free_classes ?alaw_links ?llaw_links ?claw_links ?klaw_links ?alaw_gaps ?llaw_gaps ?claw_gaps ?klaw_gaps ?alaw_depth ?llaw_depth ?claw_depth ?klaw_depth ?alaw_third ?llaw_third ?claw_third ?klaw_third ?alaw ?llaw ?claw ?klaw ?aC ?cR ?cG ?cM ?pg ?hd ?po ?sa ?mk ?kc ?n0 ?n1 ?n2 ?n3 ?kca ?kob ?sg ?st ?aMinit ?iMinit ?lMinit ?cMinit ?kMinit ?aMpath ?iMpath ?lMpath ?cMpath ?kMpath ?aMsize ?gMsize ?tMsize ?rMsizeh ?lMsize ?cMsize ?kMsize ?aMof ?rMofh ?iMof ?lMof ?cMof ?kMof ?aMneighbours ?iMneighbours ?lMneighbours ?cMneighbours ?kMneighbours ?z_len ?z_isinstance ?z_int ?z_bool ?z_tuple ?z_list ?z_sorted ?z_min ?z_max ?z_range ?z_enumerate ?z_repr ?z_set ?z_all ?z_any ?z_zip ?z_str
    (case ais_integer => first | k_is | kx_is)
    (case lis_integer => first | k_is | kx_is)
    (case cis_integer => first | k_is | kx_is)
    (case kis_integer => first | k_is | kx_is)
    (case ais_number_from => first | k_is | kx_is)
    (case lis_number_from => first | k_is | kx_is)
    (case cis_number_from => first | k_is | kx_is)
    (case kis_number_from => first | k_is | kx_is)
    (case ais_pair_of_stations => first | k_is | kx_is)
    (case lis_pair_of_stations => first | k_is | kx_is)
    (case cis_pair_of_stations => first | k_is | kx_is)
    (case kis_pair_of_stations => first | k_is | kx_is)
    (case ais_station => first | k_is | kx_is)
    (case lis_station => first | k_is | kx_is)
    (case cis_station => first | k_is | kx_is)
    (case kis_station => first | k_is | kx_is)
    (case acheck_station => first | k_is | kx_is)
    (case lcheck_station => first | k_is | kx_is)
    (case ccheck_station => first | k_is | kx_is)
    (case kcheck_station => first | k_is | kx_is)
    (case ajoined => first | k_is | kx_is)
    (case ljoined => first | k_is | kx_is)
    (case cjoined => first | k_is | kx_is)
    (case kjoined => first | k_is | kx_is)
    (case afirst_wrong_track => first | k_is | kx_is)
    (case lfirst_wrong_track => first | k_is | kx_is)
    (case cfirst_wrong_track => first | k_is | kx_is)
    (case kfirst_wrong_track => first | k_is | kx_is)
    (case aneighbours_of => first | k_is | kx_is)
    (case lneighbours_of => first | k_is | kx_is)
    (case cneighbours_of => first | k_is | kx_is)
    (case kneighbours_of => first | k_is | kx_is)
    (case aplaces_below_first => first | k_is | kx_is)
    (case lplaces_below_first => first | k_is | kx_is)
    (case cplaces_below_first => first | k_is | kx_is)
    (case kplaces_below_first => first | k_is | kx_is)
    (case alaw_begin => first | k_is | kx_is)
    (case llaw_begin => first | k_is | kx_is)
    (case claw_begin => first | k_is | kx_is)
    (case klaw_begin => first | k_is | kx_is)
    (case alaw_mixed => first | k_is | kx_is)
    (case llaw_mixed => first | k_is | kx_is)
    (case claw_mixed => first | k_is | kx_is)
    (case klaw_mixed => first | k_is | kx_is)
    (case alaw_next => first | k_is | kx_is)
    (case llaw_next => first | k_is | kx_is)
    (case claw_next => first | k_is | kx_is)
    (case klaw_next => first | k_is | kx_is)
    (case alaw_tracks => first | k_is | kx_is)
    (case llaw_tracks => first | k_is | kx_is)
    (case claw_tracks => first | k_is | kx_is)
    (case klaw_tracks => first | k_is | kx_is)
    (case acheck_length => first | k_is | kx_is)
    (case lcheck_length => first | k_is | kx_is)
    (case ccheck_length => first | k_is | kx_is)
    (case kcheck_length => first | k_is | kx_is)
    (case alayers => first | k_is | kx_is)
    (case llayers => first | k_is | kx_is)
    (case clayers => first | k_is | kx_is)
    (case klayers => first | k_is | kx_is)
    (case adepth_behind => first | k_is | kx_is)
    (case ldepth_behind => first | k_is | kx_is)
    (case cdepth_behind => first | k_is | kx_is)
    (case kdepth_behind => first | k_is | kx_is)
    (case abranch_depths => first | k_is | kx_is)
    (case lbranch_depths => first | k_is | kx_is)
    (case cbranch_depths => first | k_is | kx_is)
    (case kbranch_depths => first | k_is | kx_is)
    (case alayers_behind => first | k_is | kx_is)
    (case llayers_behind => first | k_is | kx_is)
    (case clayers_behind => first | k_is | kx_is)
    (case klayers_behind => first | k_is | kx_is)
    (case alongest_path => first | k_is | kx_is)
    (case llongest_path => first | k_is | kx_is)
    (case clongest_path => first | k_is | kx_is)
    (case klongest_path => first | k_is | kx_is)
    (case adiameter => first | k_is | kx_is)
    (case ldiameter => first | k_is | kx_is)
    (case cdiameter => first | k_is | kx_is)
    (case kdiameter => first | k_is | kx_is)
    (case adeep_branches => first | k_is | kx_is)
    (case ldeep_branches => first | k_is | kx_is)
    (case cdeep_branches => first | k_is | kx_is)
    (case kdeep_branches => first | k_is | kx_is)
    (case atrunk => first | k_is | kx_is)
    (case ltrunk => first | k_is | kx_is)
    (case ctrunk => first | k_is | kx_is)
    (case ktrunk => first | k_is | kx_is)
    (case apivots => first | k_is | kx_is)
    (case lpivots => first | k_is | kx_is)
    (case cpivots => first | k_is | kx_is)
    (case kpivots => first | k_is | kx_is)
    (case astations_with_deep_branches => first | k_is | kx_is)
    (case lstations_with_deep_branches => first | k_is | kx_is)
    (case cstations_with_deep_branches => first | k_is | kx_is)
    (case kstations_with_deep_branches => first | k_is | kx_is)
    (case adistances_and_depths => first | k_is | kx_is)
    (case ldistances_and_depths => first | k_is | kx_is)
    (case cdistances_and_depths => first | k_is | kx_is)
    (case kdistances_and_depths => first | k_is | kx_is)
    (case apockets_by_length => first | k_is | kx_is)
    (case lpockets_by_length => first | k_is | kx_is)
    (case cpockets_by_length => first | k_is | kx_is)
    (case kpockets_by_length => first | k_is | kx_is)
    (case apockets => first | k_is | kx_is)
    (case lpockets => first | k_is | kx_is)
    (case cpockets => first | k_is | kx_is)
    (case kpockets => first | k_is | kx_is)
    (case apassing_length => first | k_is | kx_is)
    (case lpassing_length => first | k_is | kx_is)
    (case cpassing_length => first | k_is | kx_is)
    (case kpassing_length => first | k_is | kx_is)
    (case aturning_length => first | k_is | kx_is)
    (case lturning_length => first | k_is | kx_is)
    (case cturning_length => first | k_is | kx_is)
    (case kturning_length => first | k_is | kx_is)
    (case afree_classes => first | k_is | kx_is)
    (case lfree_classes => first | k_is | kx_is)
    (case cfree_classes => first | k_is | kx_is)
    (case kfree_classes => first | k_is | kx_is)
    (case athird_depth => first | k_is | kx_is)
    (case lthird_depth => first | k_is | kx_is)
    (case cthird_depth => first | k_is | kx_is)
    (case kthird_depth => first | k_is | kx_is)
    (case acount_classes => first | k_is | kx_is)
    (case lcount_classes => first | k_is | kx_is)
    (case ccount_classes => first | k_is | kx_is)
    (case kcount_classes => first | k_is | kx_is)
    (case acount_free_classes => first | k_is | kx_is)
    (case lcount_free_classes => first | k_is | kx_is)
    (case ccount_free_classes => first | k_is | kx_is)
    (case kcount_free_classes => first | k_is | kx_is)
    (case alaw_links => first | k_is | kx_is)
    (case llaw_links => first | k_is | kx_is)
    (case claw_links => first | k_is | kx_is)
    (case klaw_links => first | k_is | kx_is)
    (case alaw_gaps => first | k_is | kx_is)
    (case llaw_gaps => first | k_is | kx_is)
    (case claw_gaps => first | k_is | kx_is)
    (case klaw_gaps => first | k_is | kx_is)
    (case alaw_depth => first | k_is | kx_is)
    (case llaw_depth => first | k_is | kx_is)
    (case claw_depth => first | k_is | kx_is)
    (case klaw_depth => first | k_is | kx_is)
    (case alaw_third => first | k_is | kx_is)
    (case llaw_third => first | k_is | kx_is)
    (case claw_third => first | k_is | kx_is)
    (case klaw_third => first | k_is | kx_is)
    (case alaw => first | k_is | kx_is)
    (case llaw => first | k_is | kx_is)
    (case claw => first | k_is | kx_is)
    (case klaw => first | k_is | kx_is)
    (case aC => first | k_is | kx_is)
    (case cR => first | k_is | kx_is)
    (case cG => first | k_is | kx_is)
    (case cM => first | k_is | kx_is)
    (case pg => first | k_is | kx_is)
    (case hd => first | k_is | kx_is)
    (case po => first | k_is | kx_is)
    (case sa => first | k_is | kx_is)
    (case mk => first | k_is | kx_is)
    (case kc => first | k_is | kx_is)
    (case n0 => first | k_is | kx_is)
    (case n1 => first | k_is | kx_is)
    (case n2 => first | k_is | kx_is)
    (case n3 => first | k_is | kx_is)
    (case kca => first | k_is | kx_is)
    (case kob => first | k_is | kx_is)
    (case sg => first | k_is | kx_is)
    (case st => first | k_is | kx_is)
    (case aMinit => first | k_is | kx_is)
    (case iMinit => first | k_is | kx_is)
    (case lMinit => first | k_is | kx_is)
    (case cMinit => first | k_is | kx_is)
    (case kMinit => first | k_is | kx_is)
    (case aMpath => first | k_is | kx_is)
    (case iMpath => first | k_is | kx_is)
    (case lMpath => first | k_is | kx_is)
    (case cMpath => first | k_is | kx_is)
    (case kMpath => first | k_is | kx_is)
    (case aMsize => first | k_is | kx_is)
    (case gMsize => first | k_is | kx_is)
    (case tMsize => first | k_is | kx_is)
    (case rMsizeh => first | k_is | kx_is)
    (case lMsize => first | k_is | kx_is)
    (case cMsize => first | k_is | kx_is)
    (case kMsize => first | k_is | kx_is)
    (case aMof => first | k_is | kx_is)
    (case rMofh => first | k_is | kx_is)
    (case iMof => first | k_is | kx_is)
    (case lMof => first | k_is | kx_is)
    (case cMof => first | k_is | kx_is)
    (case kMof => first | k_is | kx_is)
    (case aMneighbours => first | k_is | kx_is)
    (case iMneighbours => first | k_is | kx_is)
    (case lMneighbours => first | k_is | kx_is)
    (case cMneighbours => first | k_is | kx_is)
    (case kMneighbours => first | k_is | kx_is)
    (case z_len => first | k_is | kx_is)
    (case z_isinstance => first | k_is | kx_is)
    (case z_int => first | k_is | kx_is)
    (case z_bool => first | k_is | kx_is)
    (case z_tuple => first | k_is | kx_is)
    (case z_list => first | k_is | kx_is)
    (case z_sorted => first | k_is | kx_is)
    (case z_min => first | k_is | kx_is)
    (case z_max => first | k_is | kx_is)
    (case z_range => first | k_is | kx_is)
    (case z_enumerate => first | k_is | kx_is)
    (case z_repr => first | k_is | kx_is)
    (case z_set => first | k_is | kx_is)
    (case z_all => first | k_is | kx_is)
    (case z_any => first | k_is | kx_is)
    (case z_zip => first | k_is | kx_is)
    (case z_str => first | k_is | kx_is)
