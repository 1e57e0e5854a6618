import PyProof.Rows.All
import Wide.All
import OpenK.AllK
import Wide.FinOn
import PyProof.EqAt
import PyProof.EqKinds
import PyProof.TupleCall
import KE.KExcInit
import KE.KExcIs
import KE.KExcLine
import HandS.ForMost
import HandS.Exc
import HandS.ExcInit
import HandS.ExcValue
import HandS.Defaults
import HandS.IsInst
import KE.GoesEnum
import HandS.Iter
import HandS.Star
import HandS.ClsMeth
import HandS.CallLocal
import HandS.SetFor
import HandS.Property
import HandS.SortInts
import HandS.SortRule
import HandS.Comp
import HandS.Flow
import HandS.Conv
import HandS.Style
import KE.KTryMore
import HandS.WordsExc
import PyProof.ReprLen
import PyProof.ReprRoads
import PyProof.ReprNest
import PyProof.ReprHeadsEmpty
import HandS.TupAny
import KE.KRevSl
import HandS.Zip
import HandS.RaiseMore
import HandS.List
import HandS.Lambda
import HandS.ExcOwn
import HandS.EndTab
import KE.RegKTryMore
import PySem.Challenge.RW_treetrain_k14_depths_refused
set_option Elab.async false
set_option linter.all false
set_option maxRecDepth 100000
set_option maxHeartbeats 4000000
/-! Exceptions of the program as values: made by a call, a field read, isinstance. -/
namespace L2.TT
open PySem PySem.Spec PyProof.Rows PySem.W

/-- what the written part says of an exception class of the program -/
structure XC (K : Frag) (C : Addr) (bmB : List Value) (newId : String) : Prop where
  ini : excInitIn K C bmB newId = true
  ovr : excOver K C bmB = true
  sa : findIn K (.ref C) "__setattr__" = some (some (.builtin "object.__setattr__"))
  ga : findIn K (.ref C) "__getattribute__" = some (some (.builtin "BaseException.__getattribute__"))
  gg : findIn K (.ref C) "__getattr__" = some none
  sub : subIn K (.ref C) (.type "BaseException") = some true
  hd : hasDictIn K C = true
  kp : keepIn K (.ref C) = true
  ca : findIn K (.ref C) "__class__" = some (some (.builtin "object.__class__"))
  ob : mroIn K C (.type "object") = some true
/-- a built-in base of exceptions -/
structure XB (B newId initId : String) (bmB : List Value) : Prop where
  ex : ExcBaseFacts B newId initId bmB
  st : StoreFacts B bmB "object.__setattr__" "object"
abbrev bmV : List Value := [.type "ValueError", .type "Exception", .type "BaseException", .type "object"]
abbrev bmR : List Value := [.type "RuntimeError", .type "Exception", .type "BaseException", .type "object"]
abbrev bmL : List Value := [.type "LookupError", .type "Exception", .type "BaseException", .type "object"]
theorem xbV : XB "ValueError" "ValueError.__new__" "ValueError.__init__" bmV := ⟨F.excBase_ValueError, F.store_ValueError⟩
theorem xbR : XB "RuntimeError" "RuntimeError.__new__" "RuntimeError.__init__" bmR := ⟨F.excBase_RuntimeError, F.store_RuntimeError⟩
theorem xbL : XB "LookupError" "LookupError.__new__" "LookupError.__init__" bmL := ⟨F.excBase_LookupError, F.store_LookupError⟩

section
variable {prog : Program} {w : World} {A : Around} {E : Value → Shared → Prop} {R : Result → Shared → Prop} {hp : Heap} {g : Array GenState} {d : Drawn} {t : Nat} {os : OsState}
variable {K : Frag} {C x t0 : Addr} {name : Str} {tk : Tok} {v : Value} {B newId initId : String} {bmB : List Value}
/-- the heap after the exception's dict was laid, empty -/
def dictLaid (hp : Heap) (x : Addr) : Heap := (hp.push (dictOf [] 0)).update x fun o => { o with dict := some hp.objs.size }
theorem osa_first (Y : XB B newId initId bmB) (T : XC K C bmB newId) (X : K.In hp) (hx : hp.get? x = some (excObj C t0 none .none)) (ha : findIn K (.ref C) name = some none)
    (hq : ∀ h' tk', h'.Ns1 hp.objs.size (fun y => if y = name then some v else none) → Heap.SameBut hp.objs.size (dictLaid hp x) h' → R (.ok (.ret .none)) ⟨h', g, d, tk', os⟩) :
    codeAny (model prog w) A (.call (.builtin "object.__setattr__") ⟨[.ref x, .str name tk, v], []⟩) R ⟨hp, g, d, t, os⟩ := by
  have ht : takerIn K C name = some none := by unfold takerIn; rw [ha]; rfl
  refine osa_openX (s := ⟨hp, g, d, t, os⟩) (od := none) Y.st X ⟨hx, rfl, rfl, trivial⟩ T.ovr ht fun b => ?_
  obtain ⟨cd, hc, hd'⟩ := any_some T.hd
  have hxs : x ≠ hp.objs.size := Nat.ne_of_lt (Heap.lt_size hx)
  refine wpAny_bind (wpAny_pure (wpAny_bind (instanceDict_exc (s := ⟨hp, g, d, t, os⟩) hx (looks_clsIn X hc) hd' ?_)))
  refine HandSPX.store_in_new (hp := dictLaid hp x) ?_ fun h' tk' hn hs => hq h' tk' hn hs
  exact ⟨_, #[], _, (Heap.get?_update_ne _ _ _ _ hxs.symm).trans (Heap.get?_push_at rfl rfl), rfl, fun e he => absurd he (by simp), fun _ => rfl⟩
end
end L2.TT

namespace TR
open PySem PySem.Spec PyProof.Rows L2 L2.TT
def top (i : Nat) : Stmt := PySem.Challenge.pw_treetrain_k14_depths_refused.main.body.getD i (.Pass ⟨0, 0, 0, 0⟩)
abbrev s_wall : Stmt := top 0
abbrev s_InvalidTracks_init : Stmt := inClass (top 5) 0
abbrev s_InvalidStation_init : Stmt := inClass (top 6) 0
abbrev s_InvalidLength_init : Stmt := inClass (top 7) 0
abbrev s_InvalidStanding_init : Stmt := inClass (top 8) 0
abbrev s_InvalidPair_init : Stmt := inClass (top 9) 0
abbrev s_InvalidLine_init : Stmt := inClass (top 10) 0
abbrev s_InvalidCount_init : Stmt := inClass (top 11) 0
abbrev s_InvalidText_init : Stmt := inClass (top 12) 0
abbrev s_is_integer : Stmt := top 14
abbrev s_is_number_from : Stmt := top 15
abbrev s_is_pair_of_stations : Stmt := top 16
abbrev s_is_station : Stmt := top 17
abbrev s_check_station : Stmt := top 18
abbrev s_check_length : Stmt := top 19
abbrev s_layers : Stmt := top 21
abbrev s_behind : Stmt := top 23
abbrev s_depth_behind : Stmt := top 24
abbrev s_branch_depths : Stmt := top 25
abbrev s_deep_branches : Stmt := top 26
abbrev s_trunk : Stmt := top 27
abbrev s_pivots : Stmt := top 28
abbrev s_layers_behind : Stmt := top 29
abbrev s_stations_with_deep_branches : Stmt := top 30
abbrev s_lines_of : Stmt := top 33
abbrev s_is_numeral : Stmt := top 34
abbrev s_word_at : Stmt := top 35
abbrev s_check_word : Stmt := top 36
abbrev s_number_at : Stmt := top 37
abbrev s_check_line_ends : Stmt := top 38
abbrev s_check_text_ends : Stmt := top 39
abbrev s_joined : Stmt := top 41
abbrev s_first_wrong_track : Stmt := top 42
abbrev s_read_tracks : Stmt := top 43
abbrev s_track_at : Stmt := top 44
abbrev s_Railway_init : Stmt := inClass (top 46) 1
abbrev s_Railway_of : Stmt := inClass (top 46) 2
abbrev s_Railway_is_tracks : Stmt := inClass (top 46) 3
abbrev s_Railway_line : Stmt := inClass (top 46) 4
abbrev s_Railway_star : Stmt := inClass (top 46) 5
abbrev s_Railway_read : Stmt := inClass (top 46) 6
abbrev s_Railway_size : Stmt := inClass (top 46) 7
abbrev s_Railway_tracks : Stmt := inClass (top 46) 8
abbrev s_Railway_neighbours : Stmt := inClass (top 46) 9
abbrev s_Railway_distance : Stmt := inClass (top 46) 10
abbrev s_Railway_path : Stmt := inClass (top 46) 11
abbrev s_Railway_is_same : Stmt := inClass (top 46) 12
abbrev s_check_count : Stmt := top 47
abbrev s_neighbours_of : Stmt := top 48
abbrev s_places_below_first : Stmt := top 49
abbrev s_law_begin : Stmt := top 51
abbrev s_law_mixed : Stmt := top 52
abbrev s_law_next : Stmt := top 53
abbrev s_law_tracks : Stmt := top 54
abbrev s_law_said : Stmt := top 55
abbrev s_law_no_station : Stmt := top 56
abbrev s_law_no_length : Stmt := top 57
abbrev s_law_pairs_right : Stmt := top 58
abbrev s_law_lengths_right : Stmt := top 59
abbrev s_law : Stmt := top 60
end TR

namespace L2.TT
open PySem PySem.Spec PyProof.Rows
set_option maxHeartbeats 1000000 in
theorem meets_enum1 {v : Value} {o : Obj} {H : Heap → Prop} (B : Begins v o H) :
    Meets (Builtin.«enumerate.__new__» ⟨[.type "enumerate", v], []⟩) (fun _ R s => H s.heap ∧
      R (.ok (.ret (.ref (s.heap.push o).objs.size))) { s with heap := (s.heap.push o).push { cls := .type "enumerate", data := .fields #[.none, .bool false, .ref s.heap.objs.size, rawInt 0, .none, .none] } }) :=
  .of_wp fun prog w A R s h => by
    obtain ⟨hp, g, d, tk, os⟩ := s; obtain ⟨h1, h⟩ := h
    have hsub := sub_enumerate
    have q1 : ∀ {A' : Around} {E : Value → Shared → Prop} {Q : Value → Shared → Prop}, Q (.ref hp.objs.size) ⟨hp.push o, g, d, tk, os⟩ → wpAny (model prog w) A' (pyIter v) Q E ⟨hp, g, d, tk, os⟩ :=
      fun q => B.iter prog w _ _ ⟨hp, g, d, tk, os⟩ _ h1 q
    wp_walk using q1
    refine wpAny_stack_any fun st => wpAny_pure ?_
    split
    · rename_i c _ _ _ _ _
      cases (c == Value.type "enumerate")
      · wp_walk using q1
        exact ⟨_, rfl, h⟩
      · wp_walk using q1
        exact ⟨_, rfl, h⟩
    · wp_walk using q1
      exact ⟨_, rfl, h⟩
theorem enum_begins1 {prog : Program} {w : World} {A : Around} {E : Value → Shared → Prop} {s : Shared} {v : Value} {o : Obj} {H : Heap → Prop} {Q : Value → Shared → Prop} (B : Begins v o H) (h1 : H s.heap)
    (h : ∀ h', IsEnum h' (s.heap.objs.size + 1) s.heap.objs.size 0 .none → h'.get? s.heap.objs.size = some o → h'.objs.size = s.heap.objs.size + 2 →
      (∀ b o, s.heap.get? b = some o → h'.get? b = some o) → Q (.ref (s.heap.objs.size + 1)) { s with heap := h' }) :
    wpAny (model prog w) A (call (.type "enumerate") [v]) Q E s := by
  refine callType_new F.called_enumerate (by decide) (F.typeCall_enumerate_1 _) (F.newCall_enumerate_1 _) (fun obj => F.args_object_init_2 obj _) F.entry_enumerate_new
    (meets_enum1 B) ⟨h1, ?_⟩
  have hz : (s.heap.push o).objs.size = s.heap.objs.size + 1 := Heap.size_push ..
  show _ ∧ _
  rw [hz]
  have he : IsEnum ((s.heap.push o).push { cls := .type "enumerate", data := .fields #[.none, .bool false, .ref s.heap.objs.size, rawInt 0, .none, .none] }) (s.heap.objs.size + 1) s.heap.objs.size 0 .none := by
    have := Heap.get?_push_size (s.heap.push o) (o := { cls := .type "enumerate", data := .fields #[.none, .bool false, .ref s.heap.objs.size, rawInt 0, .none, .none] }) rfl
    rw [hz] at this; exact this
  refine ⟨⟨_, he, rfl⟩, h _ he (Heap.get?_push_of_some _ (Heap.get?_push_size _ B.free)) (by rw [Heap.size_push, hz]) fun b o x => Heap.get?_push_of_some _ (Heap.get?_push_of_some _ x)⟩
/-- enumerate over a tuple -/
def IteT (K : PySem.W.Frag) (a : Addr) : It :=
  ⟨fun i H => ∃ (xs : List V) (x : V), SqT K H a xs ∧ xs[i]? = some x, fun i H v H' => ∃ T x, v = .ref T ∧ H T = none ∧ H' = upd H T (.tup [.int (i : Nat), x]) ∧ ∀ xs, SqT K H a xs → xs[i]? = some x, fun i H => ∃ xs : List V, SqT K H a xs ∧ xs.length ≤ i⟩
theorem turn_enumT {P : Program} {w : World} {K : PySem.W.Frag} {elts : List Expr} {kk : Nat} {tpos : Pos} (a e it : Addr) (hai : a ≠ it) (hea : e ≠ a) :
    Turn P w K (.Tuple elts kk tpos) (IteT K a) [e, it] e (fun i h => (∃ old, IsEnum h e it ((i : Nat) : Int) old) ∧ h.IsTupleIter it a i ∧ e ≠ it) where
  mem := by simp
  obj := fun i h st b hb => by
    obtain ⟨⟨old, he⟩, ⟨o, ho, hc, hd⟩, _⟩ := st
    have e' : b = e ∨ b = it := by simpa using hb
    rcases e' with z | z
    · rw [z]; exact ⟨_, he, fun v q => nomatch q⟩
    · rw [z]; exact ⟨o, ho, fun v q => by rw [hd] at q; cases q⟩
  keep := fun i h h' st k => let ⟨⟨old, he⟩, hi, hne⟩ := st; ⟨⟨old, k e (by simp) _ he⟩, hi.at fun o q => k it (by simp) o q, hne⟩
  item := by
    intro X hP hw hK hc i pins s σ H E I hf st hg
    subst hP hw hK
    obtain ⟨⟨old, he⟩, hit, hne⟩ := st
    obtain ⟨xs, x, hq, hx⟩ := hg
    obtain ⟨its, rv, p, hz⟩ := I.tuple hq
    obtain ⟨u, hu, ru⟩ := rv.get hx
    have hel : e < s.heap.objs.size := Heap.lt_size he
    have hil : it < s.heap.objs.size := by obtain ⟨_, q, _⟩ := hit; exact Heap.lt_size q
    have D := Draws.tuple (prog := X.prog) (w := X.w) (A := X.A.in1) (I.ok.hd hc) it a hai its.toArray
    have hlt : i < its.toArray.size := by
      have h2 := (List.getElem?_eq_some_iff.mp hu).1
      simpa using h2
    refine wpAny_pyNext_enum_itemD D he ⟨hit, p⟩ hlt hne (by simp only [List.mem_cons, List.not_mem_nil, or_false, not_or]; exact ⟨hne, hea⟩) fun x' h' tk hx' ho hit' hT hsz hk => ?_
    have exu : x' = u := by
      have e1 : its.toArray[i]? = some x' := hx'
      have e2 : its.toArray[i]? = some u := by simpa using hu
      exact Option.some.inj (e1.symm.trans e2)
    subst exu
    refine ⟨_, rfl, wpAny_letOwnedTupleGo_enum (s := { s with heap := h', toks := tk + 1 }) ho fun h'' he' sb => ?_⟩
    have hT2 : h''.get? s.heap.objs.size = some { cls := .type "tuple", data := .seq #[.int i tk, x'] } := (sb.2 _ (Nat.ne_of_gt hel)).trans hT
    have new : ObjOk X.prog X.w (upd H s.heap.objs.size (.tup [.int (i : Nat), x])) h'' s.heap.objs.size (.tup [.int (i : Nat), x]) :=
      ⟨by show 2 ≤ sizeLine; decide, [.int i tk, x'], .cons ⟨_, rfl⟩ (.cons ru .nil), ⟨_, hT2, rfl, _, rfl⟩⟩
    have I1 : Inv X pins σ (upd H s.heap.objs.size (.tup [.int (i : Nat), x])) { s with heap := h'', toks := tk + 1 } :=
      I.turnedNew (ch := [e, it]) (fun b ob hb q => (sb.2 b (fun z => hb (by simp [z]))).trans (hk b ob (fun z => hb (by simp [z])) (fun z => hb (by simp [z])) q)) hf (Nat.le_refl _) new
    refine ⟨.ref s.heap.objs.size, _, I1, rfl, ⟨_, x, rfl, I.hok.fresh (Nat.le_refl _), rfl, fun ys hy => by rw [I.tuple_inj hy hq]; exact hx⟩, ⟨⟨x', ?_⟩, hit'.1.at fun o q => (sb.2 it (Ne.symm hne)).trans q, hne⟩, fun b hb => ?_⟩
    · have e1 : ((i + 1 : Nat) : Int) = (i : Int) + 1 := by omega
      rw [e1]; exact he'
    · have hb' : b < s.heap.objs.size := by
        have e' : b = e ∨ b = it := by simpa using hb
        rcases e' with z | z
        · rw [z]; exact hel
        · rw [z]; exact hil
      rw [upd_ne (Nat.ne_of_lt hb')]
      exact (hf b hb).1
  done := by
    intro X hP hw hK hc i pins s σ H E I hf st hg
    subst hP hw hK
    obtain ⟨⟨old, he⟩, hit, hne⟩ := st
    obtain ⟨xs, hq, hx⟩ := hg
    obtain ⟨its, rv, p, hz⟩ := I.tuple hq
    obtain ⟨f0, f1, f2, f3, f4, f5⟩ := hf it (by simp)
    have hl := rv.length
    have hi2 : its.toArray[i]? = none := by simp; omega
    have D := Draws.tuple (prog := X.prog) (w := X.w) (A := X.A.in1) (I.ok.hd hc) it a hai its.toArray
    have hT : s.TypeIs (.ref e) "enumerate" := ⟨_, he, rfl⟩
    unfold pyNext
    refine wpAny_bind (wpAny_attempt (wpAny_callSpecial?_slot (name := Str.ofString "__next__") hT F.slot_enumerate_next
      (wpAny_call_entry F.slot_enumerate_next hT F.entry_enumerate_next ?_ (F.args_enumerate_next_1 _))))
    show wpAny _ _ (field (.ref e) 2 >>= _) _ _ _
    refine wpAny_bind (wpAny_field he rfl (x := .ref it) rfl ?_)
    refine wpAny_bind (wpAny_nextOf_tuple_end (I.ok.hd hc) hit p hi2 fun h' x he' hx' => ?_)
    obtain ⟨o, ho, hc'⟩ := hx'
    refine wpAny_bind (wpAny_isInstance (T := "StopIteration") (b := true) ⟨o, ho, hc'⟩ isSubtype_stop ?_)
    exact wpAny_pure ⟨rfl, I.turned (t' := s.toks) (fun b o hb q => he' b o hb q) f0 f1 f3 f4 f5⟩
  self := fun A i s Q E st h => let ⟨⟨_, he⟩, _⟩ := st; wpAny_pyIter_enum he h
def iEnumT (K : PySem.W.Frag) (ta : TA) : TI := fun σ H R => ta σ H fun vs H1 => ∃ a xs, vs = [.ref a] ∧ SqT K H1 a xs ∧ R (IteT K a) H1
theorem pi_enumT {X : Cx} {e : Expr} {ta : TA} {p pos tpos : Pos} {elts : List Expr} {kk : Nat} (hg : Gl X "enumerate") (hm : X.mg "enumerate" = none) (ha : PA X [e] ta) (hs : starEach [e] X.env = [(false, eval e X.env)] := by rfl) :
    PI X (.Tuple elts kk tpos) (.Call (.Name "enumerate" p) [e] [] pos) (iEnumT X.K ta) := by
  refine ⟨fun pins s σ H R I h => ?_⟩
  refine Call_ (ld_blt I hg hm boot_enumerate (PyProof.Rows.callWith_type1 (thn (ha.run pos pins s σ H _ I h) fun us s1 ⟨vs, H1, I1, r1, q1⟩ => ?_) hs rfl))
  obtain ⟨a, xs, ex, hq, q⟩ := q1
  subst ex
  cases r1 with
  | cons r rr =>
    cases rr
    cases r
    obtain ⟨its, rv, p', hz⟩ := I1.tuple hq
    have hal : a < s1.heap.objs.size := by obtain ⟨_, z, _⟩ := (show s1.heap.IsTuple a its.toArray from p'); exact Heap.lt_size z
    refine enum_begins1 (begins_tuple a its.toArray) p' fun h' he hit hsz hk => wpAny_pyIter_enum he ?_
    have I2 : Inv X pins σ H1 { s1 with heap := h' } := I1.kept (t' := s1.toks) hk
    refine ⟨s1.heap.objs.size + 1, [s1.heap.objs.size + 1, s1.heap.objs.size], _, _, H1, rfl, I2, turn_enumT a (s1.heap.objs.size + 1) s1.heap.objs.size (Nat.ne_of_lt hal) (Nat.ne_of_gt (Nat.lt_succ_of_lt hal)), ⟨⟨.none, he⟩, ⟨_, hit, rfl, rfl⟩, Nat.succ_ne_self _⟩, fun b hb => ?_, q⟩
    have e' : b = s1.heap.objs.size + 1 ∨ b = s1.heap.objs.size := by simpa using hb
    have hle : s1.heap.objs.size ≤ b := by
      rcases e' with z | z
      · rw [z]; exact Nat.le_add_right _ _
      · rw [z]; exact Nat.le_refl _
    exact I1.fpOk hle (I1.hok.fresh hle)
/-- for i, x in enumerate(t), t a tuple standing still -/
theorem for_enumT {K : PySem.W.Frag} {a : Addr} {xs : List V} {g : TG} {tb : TS} {D : Ends} {σ : L2.St} {H : Hp} (Pv : Nat → L2.St → Hp → Prop) (h0 : Pv 0 σ H) (hl : ∀ i σ H, i ≤ xs.length → Pv i σ H → SqT K H a xs)
    (hs : ∀ i x T σ H, xs[i]? = some x → Pv i σ H → H T = none → g (.ref T) σ (upd H T (.tup [.int (i : Nat), x])) fun σ2 H2 => tb { D with nx := Pv (i + 1), ct := Pv (i + 1), bk := D.nx } σ2 H2) (hd : ∀ σ H, Pv xs.length σ H → D.nx σ H) :
    ∃ W : Nat → Nat → L2.St → Hp → Prop, (∃ m, W 0 m σ H) ∧ ∀ i m σ H, W i m σ H →
      ((IteT K a).stop i H ∧ D.nx σ H) ∨ ((IteT K a).go i H ∧ ∃ N : L2.St → Hp → Prop, (∀ σ' H', N σ' H' → ∃ m', m' < m ∧ W (i + 1) m' σ' H') ∧ ∀ x H', (IteT K a).yld i H x H' → g x σ H' fun σ2 H2 => tb { D with nx := N, ct := N, bk := D.nx } σ2 H2) := by
  refine ⟨fun i m σ H => m = xs.length - i ∧ i ≤ xs.length ∧ Pv i σ H, ⟨xs.length, by simp, Nat.zero_le _, h0⟩, ?_⟩
  rintro i m σ H ⟨rfl, hi, p⟩
  have q := hl i σ H hi p
  by_cases hlt : i < xs.length
  · refine .inr ⟨⟨xs, xs[i], q, by simp [hlt]⟩, Pv (i + 1), fun σ' H' p' => ⟨xs.length - (i + 1), by omega, rfl, hlt, p'⟩, fun x H' y => ?_⟩
    obtain ⟨T, z, rfl, hT, rfl, y⟩ := y
    exact hs i z T σ H (y xs q) p hT
  · have e : i = xs.length := by omega
    subst e
    exact .inl ⟨⟨xs, q, Nat.le_refl _⟩, hd σ H p⟩
end L2.TT

namespace L2.TT
open PySem PySem.Spec PyProof.Rows
section
variable {prog : Program} {w : World} {A : Around} {E : Value → Shared → Prop} {s : Shared} {l : Addr} {xs : Array (Int × Tok)}
theorem iter_intTup {Q : Value → Shared → Prop} (hl : s.heap.IsTuple l (intItems xs))
    (h : ∀ s₂ : Shared, s₂ = { s with heap := s.heap.push { cls := .type "tuple_iterator", data := .fields #[.ref l, .int 0 0] } } →
      (s₂.heap.IsTupleIter s.heap.objs.size l 0 ∧ s₂.heap.IsTuple l (intItems xs)) → (∀ b ∈ [s.heap.objs.size, l], b < s₂.heap.objs.size) → l ≠ s.heap.objs.size → Q (.ref s.heap.objs.size) s₂) :
    wpAny (model prog w) A (pyIter (.ref l)) Q E s := by
  have hlt : l < s.heap.objs.size := by obtain ⟨_, e, _⟩ := hl; exact Heap.lt_size e
  refine wpAny_pyIter_tuple hl (h _ rfl ⟨⟨_, Heap.get?_push_size _ rfl, rfl, rfl⟩, hl.at fun o e => Heap.get?_push_of_some _ e⟩ (fun b hb => ?_) (Nat.ne_of_lt hlt))
  show b < (s.heap.push _).objs.size
  rw [Heap.size_push]
  rcases List.mem_cons.mp hb with rfl | hb
  · exact Nat.lt_succ_self _
  · rcases List.mem_cons.mp hb with rfl | hb
    · exact Nat.lt_succ_of_lt hlt
    · cases hb
theorem old_kept2 {o : Obj} {h' : Heap} (hk : ∀ b u, b ∉ [s.heap.objs.size] → (s.heap.push o).get? b = some u → h'.get? b = some u) :
    ∀ b u, s.heap.get? b = some u → h'.get? b = some u := fun b u e => by
  refine hk b u (fun hm => ?_) (Heap.get?_push_of_some _ e)
  rcases List.mem_cons.mp hm with e1 | hm
  · exact absurd (e1 ▸ Heap.lt_size e) (Nat.lt_irrefl _)
  · cases hm
theorem max_intTup {Q : Value → Shared → Prop} (hh : A.handled = none) (hl : s.heap.IsTuple l (intItems xs)) (hne : 0 < xs.size)
    (h : ∀ v h' tk, (intItems xs)[argBest (fun i j => decide (numAt xs i > numAt xs j)) (xs.size - 1)]? = some v → (∀ b o, s.heap.get? b = some o → h'.get? b = some o) → Q v { s with heap := h', toks := tk }) :
    wpAny (model prog w) A (call (.builtin "max") [.ref l]) Q E s := by
  refine call_max_walk (iter_intTup hl fun s₂ e st hfp hlI => ?_)
  subst e
  refine ⟨_, _, _, _, _, _, _, rfl, Walks.tuple (A := A.in1) hh _ l hlI (intItems xs), st, hfp, by simpa [intItems] using hne, CmpOf.ints_gt (numAt xs) (fun _ _ => intItems_at), fun v h' tk hP hk => ?_⟩
  exact h v h' tk (by simpa [intItems] using hP) (old_kept2 hk)
theorem min_intTup {Q : Value → Shared → Prop} (hh : A.handled = none) (hl : s.heap.IsTuple l (intItems xs)) (hne : 0 < xs.size)
    (h : ∀ v h' tk, (intItems xs)[argBest (fun i j => decide (numAt xs i < numAt xs j)) (xs.size - 1)]? = some v → (∀ b o, s.heap.get? b = some o → h'.get? b = some o) → Q v { s with heap := h', toks := tk }) :
    wpAny (model prog w) A (call (.builtin "min") [.ref l]) Q E s := by
  refine call_min_walk (iter_intTup hl fun s₂ e st hfp hlI => ?_)
  subst e
  refine ⟨_, _, _, _, _, _, _, rfl, Walks.tuple (A := A.in1) hh _ l hlI (intItems xs), st, hfp, by simpa [intItems] using hne, CmpOf.ints_lt (numAt xs) (fun _ _ => intItems_at), fun v h' tk hP hk => ?_⟩
  exact h v h' tk (by simpa [intItems] using hP) (old_kept2 hk)
end
section
variable {X : Cx}
/-- max(t), min(t), t a pair of ints -/
def rMaxP (K : PySem.W.Frag) : List V → Hp → VK → Prop := fun vs H Q => ∃ (a : Addr) (i j : Int), vs = [V.ref a] ∧ SqT K H a [.int i, .int j] ∧ Q (.int (max i j)) H
def rMinP (K : PySem.W.Frag) : List V → Hp → VK → Prop := fun vs H Q => ∃ (a : Addr) (i j : Int), vs = [V.ref a] ∧ SqT K H a [.int i, .int j] ∧ Q (.int (min i j)) H
theorem cr_maxP (hc : X.calm = true) : CallR X (.builtin "max") (rMaxP X.K) := by
  intro pins s σ H vs us Q I r h
  obtain ⟨a, i, j, rfl, hs, q⟩ := h
  obtain ⟨its, rv, hl, _⟩ := I.tuple hs
  rw [Vals.ref1 r]
  cases rv with
  | cons r1 rr =>
    cases rr with
    | cons r2 rr =>
      cases rr
      obtain ⟨t1, rfl⟩ := r1
      obtain ⟨t2, rfl⟩ := r2
      have hl2 : s.heap.IsTuple a (intItems #[(i, t1), (j, t2)]) := by rw [show intItems #[(i, t1), (j, t2)] = #[Value.int i t1, Value.int j t2] by simp [intItems]]; exact hl
      refine max_intTup (I.ok.hd hc) hl2 (show 0 < 2 by decide) fun v h' tk hv hk => ?_
      have e0 : numAt #[(i, t1), (j, t2)] 0 = i := rfl
      have e1 : numAt #[(i, t1), (j, t2)] 1 = j := rfl
      have hv2 := hv
      obtain ⟨t, ev⟩ := intItems_at hv
      obtain ⟨h1, h2⟩ := argBest_gt (numAt #[(i, t1), (j, t2)]) 1
      have b0 := h2 0 (by omega)
      have b1 := h2 1 (by omega)
      subst ev
      refine ⟨.int _, H, I.kept hk, ⟨t, rfl⟩, ?_⟩
      have eb : argBest (fun i_1 j_1 => decide (numAt #[(i, t1), (j, t2)] i_1 > numAt #[(i, t1), (j, t2)] j_1)) (#[(i, t1), (j, t2)].size - 1) = 0 ∨ argBest (fun i_1 j_1 => decide (numAt #[(i, t1), (j, t2)] i_1 > numAt #[(i, t1), (j, t2)] j_1)) (#[(i, t1), (j, t2)].size - 1) = 1 := by
        show argBest _ 1 = 0 ∨ argBest _ 1 = 1
        omega
      rw [e0] at b0
      rw [e1] at b1
      have em : numAt #[(i, t1), (j, t2)] (argBest (fun i_1 j_1 => decide (numAt #[(i, t1), (j, t2)] i_1 > numAt #[(i, t1), (j, t2)] j_1)) (#[(i, t1), (j, t2)].size - 1)) = max i j := by
        have z : ∀ k, k = 0 ∨ k = 1 → numAt #[(i, t1), (j, t2)] k = i ∨ numAt #[(i, t1), (j, t2)] k = j := fun k hk => by
          rcases hk with rfl | rfl
          · exact .inl e0
          · exact .inr e1
        have z1 := z _ eb
        have b0' : i ≤ numAt #[(i, t1), (j, t2)] (argBest (fun i_1 j_1 => decide (numAt #[(i, t1), (j, t2)] i_1 > numAt #[(i, t1), (j, t2)] j_1)) (#[(i, t1), (j, t2)].size - 1)) := b0
        have b1' : j ≤ numAt #[(i, t1), (j, t2)] (argBest (fun i_1 j_1 => decide (numAt #[(i, t1), (j, t2)] i_1 > numAt #[(i, t1), (j, t2)] j_1)) (#[(i, t1), (j, t2)].size - 1)) := b1
        generalize numAt #[(i, t1), (j, t2)] (argBest (fun i_1 j_1 => decide (numAt #[(i, t1), (j, t2)] i_1 > numAt #[(i, t1), (j, t2)] j_1)) (#[(i, t1), (j, t2)].size - 1)) = m at z1 b0' b1'
        omega
      rw [em]
      exact q
theorem cr_minP (hc : X.calm = true) : CallR X (.builtin "min") (rMinP X.K) := by
  intro pins s σ H vs us Q I r h
  obtain ⟨a, i, j, rfl, hs, q⟩ := h
  obtain ⟨its, rv, hl, _⟩ := I.tuple hs
  rw [Vals.ref1 r]
  cases rv with
  | cons r1 rr =>
    cases rr with
    | cons r2 rr =>
      cases rr
      obtain ⟨t1, rfl⟩ := r1
      obtain ⟨t2, rfl⟩ := r2
      have hl2 : s.heap.IsTuple a (intItems #[(i, t1), (j, t2)]) := by rw [show intItems #[(i, t1), (j, t2)] = #[Value.int i t1, Value.int j t2] by simp [intItems]]; exact hl
      refine min_intTup (I.ok.hd hc) hl2 (show 0 < 2 by decide) fun v h' tk hv hk => ?_
      have e0 : numAt #[(i, t1), (j, t2)] 0 = i := rfl
      have e1 : numAt #[(i, t1), (j, t2)] 1 = j := rfl
      obtain ⟨t, ev⟩ := intItems_at hv
      obtain ⟨h1, h2⟩ := argBest_lt (numAt #[(i, t1), (j, t2)]) 1
      have b0 := h2 0 (by omega)
      have b1 := h2 1 (by omega)
      subst ev
      refine ⟨.int _, H, I.kept hk, ⟨t, rfl⟩, ?_⟩
      have eb : argBest (fun i_1 j_1 => decide (numAt #[(i, t1), (j, t2)] i_1 < numAt #[(i, t1), (j, t2)] j_1)) (#[(i, t1), (j, t2)].size - 1) = 0 ∨ argBest (fun i_1 j_1 => decide (numAt #[(i, t1), (j, t2)] i_1 < numAt #[(i, t1), (j, t2)] j_1)) (#[(i, t1), (j, t2)].size - 1) = 1 := by
        show argBest _ 1 = 0 ∨ argBest _ 1 = 1
        omega
      rw [e0] at b0
      rw [e1] at b1
      have em : numAt #[(i, t1), (j, t2)] (argBest (fun i_1 j_1 => decide (numAt #[(i, t1), (j, t2)] i_1 < numAt #[(i, t1), (j, t2)] j_1)) (#[(i, t1), (j, t2)].size - 1)) = min i j := by
        have z : ∀ k, k = 0 ∨ k = 1 → numAt #[(i, t1), (j, t2)] k = i ∨ numAt #[(i, t1), (j, t2)] k = j := fun k hk => by
          rcases hk with rfl | rfl
          · exact .inl e0
          · exact .inr e1
        have z1 := z _ eb
        have b0' : numAt #[(i, t1), (j, t2)] (argBest (fun i_1 j_1 => decide (numAt #[(i, t1), (j, t2)] i_1 < numAt #[(i, t1), (j, t2)] j_1)) (#[(i, t1), (j, t2)].size - 1)) ≤ i := b0
        have b1' : numAt #[(i, t1), (j, t2)] (argBest (fun i_1 j_1 => decide (numAt #[(i, t1), (j, t2)] i_1 < numAt #[(i, t1), (j, t2)] j_1)) (#[(i, t1), (j, t2)].size - 1)) ≤ j := b1
        generalize numAt #[(i, t1), (j, t2)] (argBest (fun i_1 j_1 => decide (numAt #[(i, t1), (j, t2)] i_1 < numAt #[(i, t1), (j, t2)] j_1)) (#[(i, t1), (j, t2)].size - 1)) = m at z1 b0' b1'
        omega
      rw [em]
      exact q
/-- a target o.f -/
def gFld (K : PySem.W.Frag) (ta : TE) (f : Str) : TG := fun y σ H Q => ta σ H fun x H2 => ∃ a C dx fs, x = .ref a ∧ H2 a = some (.ins C dx fs) ∧ Cls K C ∧ NoAttr K C f ∧ fs.length < 1000 ∧ Q σ (upd H2 a (.ins C dx (putF f y fs)))
theorem pg_fld {o : Expr} {f : Str} {pos : Pos} {ta : TE} (ho : PE X o ta) : PG X (.Attribute o f pos) (gFld X.K ta f) := by
  refine ⟨fun pins s σ H v u Q I r h => ?_⟩
  rw [arm_assign_Attribute]
  refine wpAny_bind (wpAny_holding (thn (ho.run pins s σ H _ I h) fun ov s1 ⟨x, H1, I1, r1, a, C, dx, fs, ex, ea, c, n, l, q⟩ => ?_))
  subst ex
  obtain rfl : ov = Value.ref a := r1
  refine wpAny_bind (wpAny_standAt (wpAny_bind (wpAny_holding (setattr_ok I1 ea c n l r fun s2 I2 => ?_))))
  exact wpAny_release ⟨σ, _, I2, q⟩
end
end L2.TT

namespace L2.TT
open PySem PySem.Spec PyProof.Rows L2 StX
/-- x(*y), x a local name that holds the class at C -/
def tMakeLS (i : Nat) (K : PySem.W.Frag) (C : Addr) (sp : Sp) (E : XK) (te : TE) : TE := fun σ H Q => σ[i]? = some (some (.ref C)) ∧ te σ H fun y H1 => ∃ a xs, y = V.ref a ∧ (SqT K H1 a xs ∨ SqL K H1 a xs) ∧
  ∀ o dx, H1 o = Option.none → H1 dx = Option.none → dx ≠ o → sp (V.ref o :: xs) (upd (upd H1 dx (.own o)) o (.ins C dx [])) (fun v H2 => v = .non ∧ Q (.ref o) H2) E
section
variable {X : Cx} {CX : CXT} {k i : Nat} {f C : Addr} {sp : Sp} {E : XK} {x : Str} {e : Expr} {te : TE} {p sp_ pos : Pos}
theorem pe_makeLS (M : Mk X.K C f) (F : FnR X.prog X.w X.K X.mg X.base CX k f sp) (hr : Room (k + 1) X.A) (hN : X.N[i]? = some x) (hv : Vis X.env.scope x) (hx : Passes CX X E) (he : PE X e te)
    (hdb : (x == ("__debug__" : Str)) = false := by decide) (hcd : (x == ("__classdict__" : Str)) = false := by decide)
    (hst : starEach [.Starred e sp_] X.env = [(true, eval e X.env)] := by rfl) : PE X (.Call (.Name x p) [.Starred e sp_] [] pos) (tMakeLS i X.K C sp E te) := by
  refine ⟨fun pins s σ H Q I h => ?_⟩
  obtain ⟨hs, ht⟩ := h
  refine wpAny_Call_Name_kw (thn ((pe_var (pos := p) hN hv hdb hcd).run pins s σ H (fun v H1 => v = .ref C ∧ H1 = H) I ⟨.ref C, hs, rfl, rfl⟩) fun u s1 ⟨v, H1, I1, r1, q1⟩ => ?_)
  obtain ⟨rfl, rfl⟩ := q1
  cases r1
  refine PySem.W.callWith_S (h₀ := X.base) I.ok.mod.kin M.kp (thn (he.run pins s1 σ _ _ I1 ht) fun v s2 ⟨y, H2, I2, ry, a, xs, ey, hxs, q⟩ => ?_) hst
  subst ey
  obtain rfl : v = Value.ref a := ry
  exact star_any I2 hxs fun us s3 I3 rv => ⟨I3.kIn, run_makeR M F hr hx I3 rv q⟩
end
end L2.TT

namespace L2.TT
open PySem PySem.Spec PyProof.Rows
section
variable {X : Cx} {pins : List (Addr × Obj)} {σ : St} {H : Hp} {s : Shared}
/-- xs + ys, two lists that may be known ones -/
def rCatL (K : PySem.W.Frag) : R2 := fun x y H Q => ∃ l b xs zs, x = .ref l ∧ y = .ref b ∧ SqL K H l xs ∧ SqL K H b zs ∧ xs.length + zs.length ≤ sizeLine ∧ ∀ p, H p = none → Q (.ref p) (upd H p (.lst (xs ++ zs)))
theorem op_catL : OpR X (binaryOp .Add) (rCatL X.K) := by
  intro pins s σ H x y v u Q I rx ry h
  obtain ⟨l, b, xs, zs, rfl, rfl, h1, h2, hz, q⟩ := h
  cases rx
  cases ry
  obtain ⟨its, r1, ⟨⟨c1, d1, e1, sl1⟩, n1, ho1, hc1, hd1, he1⟩, _⟩ := I.list h1
  obtain ⟨jts, r2, ⟨⟨c2, d2, e2, sl2⟩, n2, ho2, hc2, hd2, he2⟩, _⟩ := I.list h2
  simp only at hc1 he1 hc2 he2
  subst hc1 he1 hc2 he2
  have l1 := r1.length
  have l2 := r2.length
  refine concat_meets ⟨_, ho1, rfl⟩ ⟨_, ho2, rfl⟩ noFill_list_add seq_list_add PySem.F.slot_list_add PySem.F.entry_list_add (PySem.F.args_list_add_2 _ _) (list_addW l b its.toArray jts.toArray n1 n2 d1 d2 sl1 sl2 (by rw [List.size_toArray, List.size_toArray]; omega)) ⟨ho1, ho2, ?_⟩
  have ea : its.toArray ++ jts.toArray = (its ++ jts).toArray := by simp
  rw [ea]
  exact ⟨.ref _, _, I.lnew (t' := s.toks) (r1.append r2) (by rw [List.length_append]; omega), rfl, q _ I.fresh⟩
/-- the bools of a list counted -/
def eqb (k : Bool) : Value → Bool
  | .bool b => b == k
  | _ => false
theorem vals_bools : ∀ {us : List Value} {bs : List Bool}, Vals (bs.map V.bl) us → us = bs.map Value.bool
  | [], [], _ => rfl
  | _ :: _, [], h => by cases h
  | [], _ :: _, h => by cases h
  | u :: us, b :: bs, h => by
    cases h with
    | cons r t =>
      cases (show u = Value.bool b from r)
      rw [vals_bools t]
      rfl
theorem count_bools (k : Bool) : ∀ bs : List Bool, (bs.map Value.bool).countP (eqb k) = bs.count k
  | [] => rfl
  | b :: r => by
    rw [List.map_cons, List.countP_cons, List.count_cons, count_bools k r]
    rfl
def rCntB (K : PySem.W.Frag) : V → List V → Hp → VK → Prop := fun x xs H Q => ∃ (p : Addr) (bs : List Bool) (k : Bool), x = .ref p ∧ xs = [.bl k] ∧ SqL K H p (bs.map V.bl) ∧ Q (.int (bs.count k : Nat)) H
theorem mt_cntB : MtR X "list.count" (rCntB X.K) := by
  intro pins s σ H x xs v us Q I rx rxs h
  obtain ⟨p, bs, k, rfl, rfl, hs, q⟩ := h
  cases rx
  obtain ⟨u, rfl, ru⟩ := rxs.one
  cases (show u = Value.bool k from ru)
  obtain ⟨its, rv, ⟨⟨cls, dd, data, sl⟩, n, ho, hc, hdn, hd⟩, hlen⟩ := I.list hs
  simp only at hc hd
  subst hc hd
  have e := vals_bools rv
  subst e
  refine call_meets PySem.F.slot_list_count ⟨_, ho, rfl⟩ PySem.F.entry_list_count (PySem.F.args_list_count_2 _ _)
    (SeqAt.list_countAt p (bs.map Value.bool).toArray n dd sl (.bool k) (eqb k)) ⟨ho, fun y hy => ?_, ?_⟩
  · obtain ⟨b, _, rfl⟩ := List.mem_map.mp (List.mem_toArray.mp hy)
    exact SeqAt.EqAt.bool_bool b k
  · refine ⟨.int (bs.count k : Nat), H, I.tok _, ⟨s.toks, ?_⟩, q⟩
    show Value.int (((bs.map Value.bool).toArray.toList.countP (eqb k) : Nat) : Int) s.toks = Value.int ((bs.count k : Nat) : Int) s.toks
    rw [List.toList_toArray, count_bools]
end
/-- for i, x in enumerate(xs), xs standing still -/
theorem for_enumL {K : PySem.W.Frag} {a : Addr} {xs : List V} {g : TG} {tb : TS} {D : Ends} {σ : L2.St} {H : Hp} (Pv : Nat → L2.St → Hp → Prop) (h0 : Pv 0 σ H) (hl : ∀ i σ H, i ≤ xs.length → Pv i σ H → SqL K H a xs)
    (hs : ∀ i x T σ H, xs[i]? = some x → Pv i σ H → H T = none → g (.ref T) σ (upd H T (.tup [.int (i : Nat), x])) fun σ2 H2 => tb { D with nx := Pv (i + 1), ct := Pv (i + 1), bk := D.nx } σ2 H2) (hd : ∀ σ H, Pv xs.length σ H → D.nx σ H) :
    ∃ W : Nat → Nat → L2.St → Hp → Prop, (∃ m, W 0 m σ H) ∧ ∀ i m σ H, W i m σ H →
      ((Ite K a).stop i H ∧ D.nx σ H) ∨ ((Ite K a).go i H ∧ ∃ N : L2.St → Hp → Prop, (∀ σ' H', N σ' H' → ∃ m', m' < m ∧ W (i + 1) m' σ' H') ∧ ∀ x H', (Ite K a).yld i H x H' → g x σ H' fun σ2 H2 => tb { D with nx := N, ct := N, bk := D.nx } σ2 H2) := by
  refine ⟨fun i m σ H => m = xs.length - i ∧ i ≤ xs.length ∧ Pv i σ H, ⟨xs.length, by simp, Nat.zero_le _, h0⟩, ?_⟩
  rintro i m σ H ⟨rfl, hi, p⟩
  have q := hl i σ H hi p
  by_cases hlt : i < xs.length
  · refine .inr ⟨⟨xs, xs[i], q, by simp [hlt]⟩, Pv (i + 1), fun σ' H' p' => ⟨xs.length - (i + 1), by omega, rfl, hlt, p'⟩, fun x H' y => ?_⟩
    obtain ⟨T, z, rfl, hT, rfl, y⟩ := y
    exact hs i z T σ H (y xs q) p hT
  · have e : i = xs.length := by omega
    subst e
    exact .inl ⟨⟨xs, q, Nat.le_refl _⟩, hd σ H p⟩
end L2.TT

namespace TR
open PySem PySem.Spec PyProof.Rows L2 L2.TT
/-- a def of the module and its promise -/
structure Use (P : Program) (w : World) (K : PySem.W.Frag) (mg : Str → Option Value) (base : Heap) (CX : CXT) (k : Nat) (x : Str) (f : Addr) (fd : FuncData) (ps : List Str) (sp : Sp) : Prop where
  G : FnOk P w K mg base CX k f fd ps sp
  m : mg x = some (.ref f)
  kp : PySem.W.keepIn K (.ref f) = true
  b : Binds K fd ps []
section
variable {X : Cx} {k : Nat} {x : Str} {f : Addr} {fd : FuncData} {ps : List Str} {sp : Sp} {e : Expr} {es : List Expr} {t : TA} {p pos : Pos}
theorem pe_use (U : Use X.prog X.w X.K X.mg X.base CX0 k x f fd ps sp) (hr : Room k X.A) (hg : Gl X x) (ha : PA X (e :: es) t) (hd : (x == ("__debug__" : Str)) = false := by decide)
    (he : starEach (e :: es) X.env = (false, eval e X.env) :: starEach es X.env := by rfl) (hpl : (backTo pos (starEach es X.env)).any (·.1) = false := by rfl) :
    PE X (.Call (.Name x p) (e :: es) [] pos) (tCall sp [] (fun _ _ _ => False) t) :=
  pe_call (p := p) (pos := pos) U.G hr hg U.m U.kp U.b .nil pass0 ha hd he hpl
end
/-- what is never reached -/
theorem ps_never {X : Cx} {st : Stmt} : PS X st (fun _ _ _ => False) := ⟨fun _ _ _ _ _ _ h => h.elim⟩
theorem pss_never {X : Cx} {st : Stmt} : PSs X [st] (fun _ _ _ => False) := pss_one ps_never
/-- the built-in names -/
structure Nm (mg : Str → Option Value) : Prop where
  len : mg "len" = none
  isi : mg "isinstance" = none
  int : mg "int" = none
  bool : mg "bool" = none
  tuple : mg "tuple" = none
  list : mg "list" = none
  sorted : mg "sorted" = none
  min : mg "min" = none
  max : mg "max" = none
  range : mg "range" = none
  enum : mg "enumerate" = none
  repr : mg "repr" = none
/-- no int, and not a bool either -/
def NI (K : PySem.W.Frag) (H : Hp) (v : V) : Prop := (∃ b, v = .bl b) ∨ ∃ n : String, TyX K H v (.type n) ∧ kitB n "int" = some false
theorem NI.non {K : PySem.W.Frag} {H : Hp} : NI K H .non := .inr ⟨"NoneType", .base .non, by decide +kernel⟩
theorem NI.str {K : PySem.W.Frag} {H : Hp} {z : Str} : NI K H (.str z) := .inr ⟨"str", .base (.str z), by decide +kernel⟩
theorem NI.tup {K : PySem.W.Frag} {H : Hp} {a : Addr} {xs : List V} (h : H a = some (.tup xs)) : NI K H (.ref a) := .inr ⟨"tuple", .base (.tup h), by decide +kernel⟩
theorem NI.lst {K : PySem.W.Frag} {H : Hp} {a : Addr} {xs : List V} (h : H a = some (.lst xs)) : NI K H (.ref a) := .inr ⟨"list", .base (.lst h), by decide +kernel⟩
theorem NI.dK {K : PySem.W.Frag} {H : Hp} {a : Addr} {xs : List (Key × V)} (h : H a = some (.dK xs)) : NI K H (.ref a) := .inr ⟨"dict", .base (.dK h), by decide +kernel⟩
/-- one value, an int or none -/
def IV (K : PySem.W.Frag) (H : Hp) (v : V) : Prop := (∃ i, v = .int i) ∨ NI K H v
def asInt : V → Option Int
  | .int i => some i
  | _ => none
theorem NI.as {K : PySem.W.Frag} {H : Hp} {v : V} (h : NI K H v) : asInt v = none := by
  rcases h with ⟨b, rfl⟩ | ⟨n, t, kb⟩
  · rfl
  · cases v with
    | int i =>
      have e : (Value.type n) = .type "int" := by
        cases t with
        | base h => cases h; rfl
      cases e
      exact absurd kb (by decide +kernel)
    | _ => rfl
def spIsInt (K : PySem.W.Frag) : Sp := fun vs H Q _ => ∃ v, vs = [v] ∧ IV K H v ∧ Q (.bl (asInt v).isSome) H
def inR (v : V) (lo hi : Int) : Bool := match asInt v with
  | some i => decide (lo ≤ i) && decide (i ≤ hi)
  | none => false
def spNumFrom (K : PySem.W.Frag) : Sp := fun vs H Q _ => ∃ v lo hi, vs = [v, .int lo, .int hi] ∧ IV K H v ∧ Q (.bl (inR v lo hi)) H
theorem bit_int {K : PySem.W.Frag} : PySem.W.kitOne K (.type "bool") (.type "int") = some true := kit_ty (by decide +kernel)
theorem bit_bool {K : PySem.W.Frag} : PySem.W.kitOne K (.type "bool") (.type "bool") = some true := kit_ty (by decide +kernel)
theorem int_int {K : PySem.W.Frag} : PySem.W.kitOne K (.type "int") (.type "int") = some true := kit_ty (by decide +kernel)
theorem int_bool {K : PySem.W.Frag} : PySem.W.kitOne K (.type "int") (.type "bool") = some false := kit_ty (by decide +kernel)
section
variable {P : Program} {w : World} {K : PySem.W.Frag} {mg : Str → Option Value} {base : Heap}
theorem sc_isInt : FnScope ["value"] ["value"] (defScope s_is_integer) := ⟨rfl, rfl, rfl, by decide +kernel, rfl, by decide +kernel, by decide +kernel⟩
theorem ok_isInt {f : Addr} {fd : FuncData} (F : Fun K "is_integer" "is_integer" s_is_integer f fd) (N : Nm mg) : FnOk P w K mg base CX0 1 f fd ["value"] (spIsInt K) := by
  refine F.ok sc_isInt (fun vs H Q E h => ?_) (fun cdv A outer s H vs Q E hr h => ?_)
  · obtain ⟨v, rfl, _⟩ := h
    rfl
  · obtain ⟨v, rfl, hv, k⟩ := h
    refine ⟨_, pss_one (ps_ret (pe_and (pe_callB call_isi (by rfl) N.isi boot_isinstance (pa_cons (pv 0) (pa_cons (pe_bltn (v := .ty "int") (by rfl) N.int (by decide +kernel) rfl) pa_nil)))
      (pe_one (pe_not (pe_callB call_isi (by rfl) N.isi boot_isinstance (pa_cons (pv 0) (pa_cons (pe_bltn (v := .ty "bool") (by rfl) N.bool (by decide +kernel) rfl) pa_nil))))))), ?_⟩
    rcases hv with ⟨i, rfl⟩ | hv
    · refine ⟨_, rfl, _, _, _, _, true, rfl, .ty _, .base (.int i), int_int, true, rfl, ?_⟩
      refine iteT ?_
      exact ⟨_, rfl, _, _, _, _, false, rfl, .ty _, .base (.int i), int_bool, false, rfl, k⟩
    · have ka : (asInt v).isSome = false := by rw [hv.as]; rfl
      rw [ka] at k
      rcases hv with ⟨b, rfl⟩ | ⟨n, t, kb⟩
      · refine ⟨_, rfl, _, _, _, _, true, rfl, .ty _, .base (.bl b), bit_int, true, rfl, ?_⟩
        refine iteT ?_
        exact ⟨_, rfl, _, _, _, _, true, rfl, .ty _, .base (.bl b), bit_bool, true, rfl, k⟩
      · refine ⟨_, rfl, _, _, _, _, false, rfl, .ty _, t, kit_ty kb, false, rfl, ?_⟩
        exact iteF k
theorem sc_num : FnScope ["value", "least", "greatest"] ["value", "least", "greatest"] (defScope s_is_number_from) := ⟨rfl, rfl, rfl, by decide +kernel, rfl, by decide +kernel, by decide +kernel⟩
theorem ok_num {f fI : Addr} {fd fdI : FuncData} (F : Fun K "is_number_from" "is_number_from" s_is_number_from f fd) (U : Use P w K mg base CX0 1 "is_integer" fI fdI ["value"] (spIsInt K)) : FnOk P w K mg base CX0 2 f fd ["value", "least", "greatest"] (spNumFrom K) := by
  refine F.ok sc_num (fun vs H Q E h => ?_) (fun cdv A outer s H vs Q E hr h => ?_)
  · obtain ⟨v, lo, hi, rfl, _⟩ := h
    rfl
  · obtain ⟨v, lo, hi, rfl, hv, k⟩ := h
    refine ⟨_, pss_one (ps_ret (pe_and (pe_use U hr rfl (pa_cons (pv 0) pa_nil)) (pe_one (pe_chain op_le op_le (pv 1) (pv 0) (pv 2))))), ?_⟩
    refine ⟨_, rfl, v, rfl, hv, _, rfl, ?_⟩
    rcases hv with ⟨i, rfl⟩ | hv
    · refine iteT ?_
      refine ⟨_, rfl, _, rfl, _, _, rfl, rfl, _, rfl, ?_⟩
      have e : inR (.int i) lo hi = (decide (lo ≤ i) && decide (i ≤ hi)) := rfl
      rw [e] at k
      refine ite2 (fun h => ?_) (fun h => ?_)
      · rw [h, Bool.true_and] at k
        exact ⟨_, rfl, _, _, rfl, rfl, k⟩
      · rw [Bool.eq_false_iff.mpr h, Bool.false_and] at k
        exact k
    · have e : inR v lo hi = false := by
        show (match asInt v with
          | some i => decide (lo ≤ i) && decide (i ≤ hi)
          | none => false) = false
        rw [hv.as]
      rw [e] at k
      rw [hv.as]
      exact iteF k
end
end TR

namespace TR
open PySem PySem.Spec PyProof.Rows L2 L2.TT
/-- any value as a pair: the items where it is a tuple of two -/
inductive PV (K : PySem.W.Frag) (H : Hp) : V → Option (V × V) → Prop where
  | two {a : Addr} {x y : V} (h : H a = some (.tup [x, y])) (hx : IV K H x) (hy : IV K H y) : PV K H (.ref a) (some (x, y))
  | tup {a : Addr} {xs : List V} (h : H a = some (.tup xs)) (hn : xs.length ≠ 2) : PV K H (.ref a) none
  | no {v : V} {n : String} (t : TyX K H v (.type n)) (kb : kitB n "tuple" = some false) : PV K H v none
def isPr (o : Option (V × V)) (n : Int) : Bool := match o with
  | some (x, y) => inR x 0 (n - 1) && inR y 0 (n - 1) && decide (asInt x ≠ asInt y)
  | none => false
def spPair (K : PySem.W.Frag) : Sp := fun vs H Q _ => ∃ v n o, vs = [v, .int n] ∧ PV K H v o ∧ Q (.bl (isPr o n)) H
theorem tup_tup {K : PySem.W.Frag} : PySem.W.kitOne K (.type "tuple") (.type "tuple") = some true := kit_ty (by decide +kernel)
theorem inR_int {v : V} {lo hi : Int} (h : inR v lo hi = true) : ∃ i, v = .int i ∧ lo ≤ i ∧ i ≤ hi := by
  unfold inR at h
  cases v with
  | int i =>
    have h2 : (decide (lo ≤ i) && decide (i ≤ hi)) = true := h
    rw [Bool.and_eq_true] at h2
    exact ⟨i, rfl, of_decide_eq_true h2.1, of_decide_eq_true h2.2⟩
  | _ => cases h
section
variable {P : Program} {w : World} {K : PySem.W.Frag} {mg : Str → Option Value} {base : Heap}
theorem sc_pair : FnScope ["value", "size", "one", "other"] ["value", "size"] (defScope s_is_pair_of_stations) := ⟨rfl, rfl, rfl, by decide +kernel, rfl, by decide +kernel, by decide +kernel⟩
theorem ok_pair {f fI : Addr} {fd fdI : FuncData} (F : Fun K "is_pair_of_stations" "is_pair_of_stations" s_is_pair_of_stations f fd) (N : Nm mg) (U : Use P w K mg base CX0 2 "is_number_from" fI fdI ["value", "least", "greatest"] (spNumFrom K)) : FnOk P w K mg base CX0 3 f fd ["value", "size"] (spPair K) := by
  refine F.ok sc_pair (fun vs H Q E h => ?_) (fun cdv A outer s H vs Q E hr h => ?_)
  · obtain ⟨v, n, o, rfl, _⟩ := h
    rfl
  · obtain ⟨v, n, o, rfl, hv, k⟩ := h
    refine ⟨_, pss_cons (ps_if (PW.pt (pw_or (pt_not (pt_val (pe_callB call_isi (by rfl) N.isi boot_isinstance (pa_cons (pv 0) (pa_cons (pe_bltn (v := .ty "tuple") (by rfl) N.tuple (by decide +kernel) rfl) pa_nil)))))
        (pw_or1 (pt_cmpR op_ne (pe_callB call_len_seq (by rfl) N.len PySem.boot_len (pa_cons (pv 0) pa_nil)) pe_int (nomark _))))) (pss_one (ps_ret pe_bl)) pss_nil)
      (pss_cons (ps_asg (pv 0) (pg_tup rfl (pgs_cons (pg_name (i := 2) sc_pair.nd rfl (.inl rfl)) (pgs_cons (pg_name (i := 3) sc_pair.nd rfl (.inl rfl)) pgs_nil))))
      (pss_cons (ps_if (PW.pt (pw_or (pt_not (pt_val (pe_use U hr rfl (pa_cons (pv 2) (pa_cons pe_int (pa_cons (pe_op op_sub (pv 1) pe_int) pa_nil))))))
        (pw_or1 (pt_not (pt_val (pe_use U hr rfl (pa_cons (pv 3) (pa_cons pe_int (pa_cons (pe_op op_sub (pv 1) pe_int) pa_nil))))))))) (pss_one (ps_ret pe_bl)) pss_nil)
      (pss_one (ps_ret (pe_cmpR op_ne (pv 2) (pv 3) (nomark _)))))), ?_⟩
    have hle : (2 : Nat) ≤ sizeLine := by rw [sizeLine_eq]; decide
    cases hv with
    | no t kb =>
      refine ⟨_, rfl, _, _, _, _, false, rfl, .ty _, t, kit_ty kb, false, rfl, ?_⟩
      refine iteT ?_
      refine iteT ?_
      exact k
    | @tup a xs h hn =>
      refine ⟨_, rfl, _, _, _, _, true, rfl, .ty _, .base (.tup h), tup_tup, true, rfl, ?_⟩
      refine iteF ?_
      refine ⟨_, rfl, _, _, rfl, .inr (SqT.of h), rfl, _, rfl, ?_⟩
      refine ite2 (fun _ => ?_) (fun z => ?_)
      · exact k
      · exfalso
        apply z
        show (!decide (V.int (xs.length : Nat) = V.int 2)) = true
        simp only [Bool.not_eq_true', decide_eq_false_iff_not, V.int.injEq]
        omega
    | two h hx hy =>
      refine ⟨_, rfl, _, _, _, _, true, rfl, .ty _, .base (.tup h), tup_tup, true, rfl, ?_⟩
      refine iteF ?_
      refine ⟨_, rfl, _, _, rfl, .inr (SqT.of h), rfl, _, rfl, ?_⟩
      refine iteF ?_
      refine ⟨_, rfl, _, _, rfl, SqT.of h, rfl, ?_⟩
      refine ⟨_, _, rfl, _, _, rfl, rfl, ?_⟩
      refine ⟨_, rfl, _, rfl, _, _, rfl, rfl, _, _, _, rfl, hx, _, rfl, ?_⟩
      rename_i a x y
      cases e1 : inR x 0 (n - 1) with
      | false =>
        have e : isPr (some (x, y)) n = false := by show (inR x 0 (n - 1) && inR y 0 (n - 1) && decide (asInt x ≠ asInt y)) = false; rw [e1]; rfl
        rw [e] at k
        refine iteT ?_
        refine iteT ?_
        exact k
      | true =>
        refine iteF ?_
        refine ⟨_, rfl, _, rfl, _, _, rfl, rfl, _, _, _, rfl, hy, _, rfl, ?_⟩
        cases e2 : inR y 0 (n - 1) with
        | false =>
          have e : isPr (some (x, y)) n = false := by show (inR x 0 (n - 1) && inR y 0 (n - 1) && decide (asInt x ≠ asInt y)) = false; rw [e1, e2]; rfl
          rw [e] at k
          refine iteT ?_
          exact k
        | true =>
          refine iteF ?_
          obtain ⟨i, rfl, _⟩ := inR_int e1
          obtain ⟨j, rfl, _⟩ := inR_int e2
          have e : isPr (some (.int i, .int j)) n = decide (¬ (V.int i = V.int j)) := by
            show (inR (.int i) 0 (n - 1) && inR (.int j) 0 (n - 1) && decide (asInt (.int i) ≠ asInt (.int j))) = _
            rw [e1, e2]
            simp [asInt]
          rw [e] at k
          refine ⟨_, rfl, _, rfl, rfl, ?_⟩
          have e3 : decide (¬ (V.int i = V.int j)) = !decide (V.int i = V.int j) := by simp
          rw [e3] at k
          exact k
end
end TR

/-! Trees given by a list of pairs: each track's greater end is one of 1 .. n, each once. -/
namespace TR
abbrev E2 := Nat × Nat
def mx (e : E2) : Nat := max e.1 e.2
def mn (e : E2) : Nat := min e.1 e.2
structure TreeL (tr : List E2) : Prop where
  ne : ∀ e ∈ tr, e.1 ≠ e.2
  pm : (tr.map mx).Perm (List.range' 1 tr.length)
def par (tr : List E2) (y : Nat) : Nat := match tr.find? (fun e => mx e == y) with
  | some e => mn e
  | none => y - 1
theorem mn_lt {e : E2} (h : e.1 ≠ e.2) : mn e < mx e := by
  unfold mn mx
  omega
theorem ends (e : E2) : (e.1 = mx e ∧ e.2 = mn e) ∨ (e.1 = mn e ∧ e.2 = mx e) := by
  unfold mn mx
  omega
theorem find_of {α β : Type} [BEq β] [LawfulBEq β] (f : α → β) : ∀ {l : List α} {e : α}, (l.map f).Nodup → e ∈ l → l.find? (fun x => f x == f e) = some e
  | [], e, _, h => by cases h
  | a :: l, e, hn, h => by
    rw [List.map_cons, List.nodup_cons] at hn
    rw [List.find?_cons]
    rcases List.mem_cons.mp h with rfl | h
    · simp
    · have hne : (f a == f e) = false := by
        rw [beq_eq_false_iff_ne]
        intro z
        exact hn.1 (z ▸ List.mem_map_of_mem h)
      rw [hne]
      exact find_of f hn.2 h
namespace TreeL
variable {tr : List E2} (T : TreeL tr)
theorem nd (T : TreeL tr) : (tr.map mx).Nodup := T.pm.nodup_iff.mpr (List.nodup_range' (step := 1) (h := by decide))
theorem par_lt (T : TreeL tr) {y : Nat} (h : 0 < y) : par tr y < y := by
  unfold par
  cases e : tr.find? (fun e => mx e == y) with
  | none => exact Nat.sub_lt h (by decide)
  | some x =>
    have h1 := List.find?_some e
    have h2 : mx x = y := by simpa using h1
    have h3 := mn_lt (T.ne x (List.mem_of_find?_eq_some e))
    show mn x < y
    omega
theorem par_mx (T : TreeL tr) {e : E2} (h : e ∈ tr) : par tr (mx e) = mn e := by
  unfold par
  rw [find_of mx T.nd h]
theorem mx_bd (T : TreeL tr) {e : E2} (h : e ∈ tr) : 1 ≤ mx e ∧ mx e ≤ tr.length := by
  have := T.pm.mem_iff.mp (List.mem_map_of_mem (f := mx) h)
  rw [List.mem_range'] at this
  obtain ⟨i, h1, h2⟩ := this
  omega
theorem ex (T : TreeL tr) {y : Nat} (h1 : 1 ≤ y) (h2 : y ≤ tr.length) : ∃ e ∈ tr, mx e = y := by
  have : y ∈ tr.map mx := T.pm.mem_iff.mpr (by rw [List.mem_range']; exact ⟨y - 1, by omega, by omega⟩)
  obtain ⟨e, he, q⟩ := List.mem_map.mp this
  exact ⟨e, he, q⟩
theorem lt1 (T : TreeL tr) {e : E2} (h : e ∈ tr) : e.1 < tr.length + 1 ∧ e.2 < tr.length + 1 := by
  have := (T.mx_bd h).2
  unfold mx at this
  omega
end TreeL
/-- a lies behind y, or is it -/
inductive Desc (p : Nat → Nat) (y : Nat) : Nat → Prop
  | self : Desc p y y
  | up {a : Nat} (h : 0 < a) (d : Desc p y (p a)) : Desc p y a
theorem Desc.ge {p : Nat → Nat} {y : Nat} (hp : ∀ a, 0 < a → p a < a) {a : Nat} (d : Desc p y a) : y ≤ a := by
  induction d with
  | self => exact Nat.le_refl _
  | up h _ ih => exact Nat.le_trans ih (Nat.le_of_lt (hp _ h))
theorem Desc.step {p : Nat → Nat} {y a : Nat} (h : 0 < a) (ne : a ≠ y) : Desc p y a ↔ Desc p y (p a) := by
  constructor
  · intro d
    cases d with
    | self => exact absurd rfl ne
    | up _ d => exact d
  · exact fun d => .up h d
/-- what the groups of stations say when the first i tracks are joined -/
def GI (tr : List E2) (i : Nat) (gs : List Nat) : Prop :=
  gs.length = tr.length + 1 ∧ ∀ j e, i ≤ j → tr[j]? = some e → ∀ a b x : Nat, gs[a]? = some x → gs[b]? = some x → (Desc (par tr) (mx e) a ↔ Desc (par tr) (mx e) b)
theorem GI.start (tr : List E2) : GI tr 0 (List.range (tr.length + 1)) := by
  refine ⟨by simp, fun j e _ _ a b x ha hb => ?_⟩
  have h1 : a = x := by
    have := List.getElem?_eq_some_iff.mp ha
    obtain ⟨_, q⟩ := this
    simpa using q
  have h2 : b = x := by
    have := List.getElem?_eq_some_iff.mp hb
    obtain ⟨_, q⟩ := this
    simpa using q
  rw [h1, h2]
theorem GI.ne {tr : List E2} (T : TreeL tr) {i : Nat} {gs : List Nat} (g : GI tr i gs) {e : E2} (he : tr[i]? = some e) {x y : Nat} (h1 : gs[e.1]? = some x) (h2 : gs[e.2]? = some y) : x ≠ y := by
  rintro rfl
  have hm := List.mem_of_getElem? he
  have q := g.2 i e (Nat.le_refl _) he e.1 e.2 x h1 h2
  have n1 := mn_lt (T.ne e hm)
  have no : ¬ Desc (par tr) (mx e) (mn e) := fun d => by
    have := d.ge fun a h => T.par_lt h
    omega
  rcases ends e with ⟨e1, e2⟩ | ⟨e1, e2⟩
  · rw [e2] at q
    rw [e1] at q
    exact no (q.mp .self)
  · rw [e1, e2] at q
    exact no (q.mpr .self)
def join (gs : List Nat) (x y : Nat) : List Nat := gs.map fun g => if g = y then x else g
theorem GI.next {tr : List E2} (T : TreeL tr) {i : Nat} {gs : List Nat} (g : GI tr i gs) {e : E2} (he : tr[i]? = some e) {x y : Nat} (h1 : gs[e.1]? = some x) (h2 : gs[e.2]? = some y) : GI tr (i + 1) (join gs x y) := by
  refine ⟨by rw [join, List.length_map]; exact g.1, fun j e' hj he' a b z ha hb => ?_⟩
  have hm := List.mem_of_getElem? he
  have old := g.2 j e' (by omega) he'
  have hb1 := T.mx_bd hm
  have ne : mx e ≠ mx e' := by
    intro q
    have nd := T.nd
    have i1 : i < (tr.map mx).length := by
      rw [List.length_map]
      exact (List.getElem?_eq_some_iff.mp he).1
    have i2 : (tr.map mx)[i]? = (tr.map mx)[j]? := by
      rw [List.getElem?_map, List.getElem?_map, he, he']
      show some (mx e) = some (mx e')
      rw [q]
    have := (List.getElem?_inj i1 nd).mp i2
    omega
  have link : Desc (par tr) (mx e') e.1 ↔ Desc (par tr) (mx e') e.2 := by
    have s := Desc.step (p := par tr) (y := mx e') (a := mx e) (by omega) ne
    rw [T.par_mx hm] at s
    rcases ends e with ⟨e1, e2⟩ | ⟨e1, e2⟩
    · rw [e1, e2]
      exact s
    · rw [e1, e2]
      exact s.symm
  have get : ∀ {c : Nat}, (join gs x y)[c]? = some z → ∃ u, gs[c]? = some u ∧ (if u = y then x else u) = z := fun {c} h => by
    rw [join, List.getElem?_map] at h
    cases e0 : gs[c]? with
    | none =>
      rw [e0] at h
      cases h
    | some u =>
      rw [e0] at h
      exact ⟨u, rfl, Option.some.inj h⟩
  obtain ⟨u, gu, eu⟩ := get ha
  obtain ⟨v, gv, ev⟩ := get hb
  by_cases c1 : u = y
  · by_cases c2 : v = y
    · exact old a b y (c1 ▸ gu) (c2 ▸ gv)
    · rw [if_pos c1] at eu
      rw [if_neg c2] at ev
      have w1 := old a e.2 y (c1 ▸ gu) h2
      have w2 := old b e.1 x (by rw [gv, ev, eu]) h1
      exact w1.trans (link.symm.trans w2.symm)
  · by_cases c2 : v = y
    · rw [if_neg c1] at eu
      rw [if_pos c2] at ev
      have w1 := old b e.2 y (c2 ▸ gv) h2
      have w2 := old a e.1 x (by rw [gu, eu, ev]) h1
      exact w2.trans (link.trans w1.symm)
    · rw [if_neg c1] at eu
      rw [if_neg c2] at ev
      exact old a b z (by rw [gu, eu]) (by rw [gv, ev])
end TR

namespace TR
open PySem PySem.Spec PyProof.Rows L2 L2.TT
abbrev iv (n : Nat) : V := .int (n : Int)
theorem iv_inj {a b : Nat} : (iv a = iv b) ↔ a = b := by
  show (V.int (a : Int) = V.int (b : Int)) ↔ a = b
  rw [V.int.injEq]
  omega
theorem map_get {α β : Type} {f : α → β} {l : List α} {i : Nat} {x : α} (h : l[i]? = some x) : (l.map f)[i]? = some (f x) := by rw [List.getElem?_map, h]; rfl
theorem map_got {α β : Type} {f : α → β} {l : List α} {i : Nat} {y : β} (h : (l.map f)[i]? = some y) : ∃ x, l[i]? = some x ∧ f x = y := by
  rw [List.getElem?_map] at h
  cases e : l[i]? with
  | none => rw [e] at h; cases h
  | some x => rw [e] at h; exact ⟨x, rfl, Option.some.inj h⟩
theorem atN {xs : List V} {n : Nat} {v : V} (h : xs[n]? = some v) : atI xs (n : Int) = some v := atI_nat h
theorem take_snoc {α : Type} {l : List α} {i : Nat} {x : α} (h : l[i]? = some x) : l.take (i + 1) = l.take i ++ [x] := by
  rw [List.take_succ, h]
  rfl
/-- the tracks stand in the heap as tuples -/
def Prs (H : Hp) (ps : List Addr) (tr : List E2) : Prop := ps.length = tr.length ∧ ∀ (i : Nat) (p : Addr) (e : E2), ps[i]? = some p → tr[i]? = some e → H p = some (.tup [iv e.1, iv e.2])
theorem Prs.same {H H' : Hp} {ps : List Addr} {tr : List E2} (h : Prs H ps tr) (s : Same H H') : Prs H' ps tr := ⟨h.1, fun i p e a b => s _ _ (h.2 i p e a b)⟩
theorem Prs.get {H : Hp} {ps : List Addr} {tr : List E2} (h : Prs H ps tr) {i : Nat} {v : V} (e : (ps.map V.ref)[i]? = some v) : ∃ p e, v = .ref p ∧ ps[i]? = some p ∧ tr[i]? = some e ∧ H p = some (.tup [iv e.1, iv e.2]) := by
  obtain ⟨p, hp, rfl⟩ := map_got e
  have hl := (List.getElem?_eq_some_iff.mp hp).1
  rw [h.1] at hl
  exact ⟨p, tr[i], rfl, hp, List.getElem?_eq_getElem hl, h.2 i p _ hp (List.getElem?_eq_getElem hl)⟩
theorem _root_.L2.Same.tp {K : PySem.W.Frag} {H H' : Hp} {a : Addr} {xs : List V} (e : Same H H') (h : SqT K H a xs) : SqT K H' a xs := by
  rcases h with (h | ⟨o, h⟩) | h
  · exact .inl (.inl (e _ _ h))
  · exact .inl (.inr ⟨o, e _ _ h⟩)
  · exact .inr h
theorem rgV_iv (n : Nat) : rgV 0 ((n : Int) + 1) = (List.range (n + 1)).map iv := by
  unfold rgV
  have e : ((n : Int) + 1 - 0).toNat = n + 1 := by omega
  rw [e]
  refine List.map_congr_left fun i _ => ?_
  show V.int (0 + (i : Int)) = V.int (i : Int)
  rw [Int.zero_add]
theorem same_upd {H : Hp} {p : Addr} (h : H p = none) (o : HO) : Same H (upd H p o) := fun b u e => by rw [upd_ne (ne_of_none e h)]; exact e
theorem isPr_ok {x y n : Nat} (hx : x < n) (hy : y < n) (ne : x ≠ y) : isPr (some (iv x, iv y)) (n : Int) = true := by
  show (inR (iv x) 0 ((n : Int) - 1) && inR (iv y) 0 ((n : Int) - 1) && decide (asInt (iv x) ≠ asInt (iv y))) = true
  have h1 : inR (iv x) 0 ((n : Int) - 1) = true := by
    show (decide ((0 : Int) ≤ (x : Int)) && decide ((x : Int) ≤ (n : Int) - 1)) = true
    rw [Bool.and_eq_true]
    exact ⟨decide_eq_true (by omega), decide_eq_true (by omega)⟩
  have h2 : inR (iv y) 0 ((n : Int) - 1) = true := by
    show (decide ((0 : Int) ≤ (y : Int)) && decide ((y : Int) ≤ (n : Int) - 1)) = true
    rw [Bool.and_eq_true]
    exact ⟨decide_eq_true (by omega), decide_eq_true (by omega)⟩
  rw [h1, h2]
  have h3 : asInt (iv x) ≠ asInt (iv y) := fun z => ne (by
    have z2 : some (x : Int) = some (y : Int) := z
    have := Option.some.inj z2
    omega)
  simp [h3]
def spJoin (K : PySem.W.Frag) : Sp := fun vs H Q _ => ∃ (a : Addr) (gs : List Nat) (o t x y : Nat), vs = [.ref a, iv o, iv t] ∧ SqL K H a (gs.map iv) ∧ gs.length ≤ 1000 ∧ gs[o]? = some x ∧ gs[t]? = some y ∧ ∀ p, H p = none → Q (.ref p) (upd H p (.lst ((join gs x y).map iv)))
theorem iteT' {c : Bool} {A B : Prop} (hc : c = true) (h : A) : if c = true then A else B := by
  rw [if_pos hc]
  exact h
theorem iteF' {c : Bool} {A B : Prop} (hc : c = false) (h : B) : if c = true then A else B := by
  rw [hc]
  exact iteF h
theorem ix_K {X : Cx} {K : PySem.W.Frag} (h : X.K = K) : IxR X (rIxL K) := by
  subst h
  exact ix_list
section
variable {P : Program} {w : World} {K : PySem.W.Frag} {mg : Str → Option Value} {base : Heap}
theorem sc_join : FnScope ["groups", "one", "other", "group"] ["groups", "one", "other"] (defScope s_joined) := ⟨rfl, rfl, rfl, by decide +kernel, rfl, by decide +kernel, by decide +kernel⟩
theorem ok_join {f : Addr} {fd : FuncData} (F : Fun K "joined" "joined" s_joined f fd) : FnOk P w K mg base CX0 1 f fd ["groups", "one", "other"] (spJoin K) := by
  refine F.ok sc_join (fun vs H Q E h => ?_) (fun cdv A outer s H vs Q E hr h => ?_)
  · obtain ⟨a, gs, o, t, x, y, rfl, _⟩ := h
    rfl
  · obtain ⟨a, gs, o, t, x, y, rfl, hS, hl, ho, ht, k⟩ := h
    refine ⟨_, pss_one (ps_ret (pe_lc (own := [("group", 3)]) (g := gName 3) (tt := tYes) rfl sc_join.nd (pi_list (pv 0)) (blkOk_by (N := ["groups", "one", "other", "group"]) (sc := defScope s_joined) (by decide +kernel))
      (fun _ _ _ _ _ => pg_name (i := 3) sc_join.nd rfl (Or.inl rfl)) (fun _ _ _ _ _ => pts_nil)
      (fun _ _ _ _ _ => pe_ifExp (pt_cmpR op_eq (pv 3) (pe_ix (ix_K (K := K) rfl) (pv 0) (pv 2) (fun _ _ => rfl)) (nomark _)) (pe_ix (ix_K (K := K) rfl) (pv 0) (pv 1) (fun _ _ => rfl)) (pv 3)))), ?_⟩
    refine ⟨_, rfl, a, rfl, ⟨_, hS⟩, fun D nD => ?_⟩
    have sD : ∀ o, Same H (upd H D o) := fun o b u e => by rw [upd_ne (ne_of_none e nD)]; exact e
    refine lc_list (K := K) (a := a) (xs := gs.map iv) (fun i H' => H' = upd H D (.lst (((join gs x y).take i).map iv))) (by simp) (fun i H' _ e => by rw [e]; exact (sD _).seq hS) (fun i v H' hv e => ?_) fun H' e => ?_
    · obtain ⟨g, hg, rfl⟩ := map_got hv
      subst e
      have hS1 := (sD (.lst (((join gs x y).take i).map iv))).seq hS
      have hD := upd_same (H := H) (a := D) (o := .lst (((join gs x y).take i).map iv))
      have hj : (join gs x y)[i]? = some (if g = y then x else g) := map_get hg
      have hlen : (((join gs x y).take i).map iv).length < sizeLine := by
        rw [List.length_map, List.length_take, sizeLine_eq, join, List.length_map]
        omega
      refine ⟨rfl, ?_⟩
      refine ⟨_, rfl, _, rfl, _, rfl, a, _, _, _, rfl, rfl, hS1, atN (map_get ht), rfl, _, rfl, ?_⟩
      by_cases c : g = y
      · rw [if_pos c] at hj
        subst c
        refine iteT' (decide_eq_true rfl) ?_
        refine ⟨_, rfl, _, rfl, a, _, _, _, rfl, rfl, hS1, atN (map_get ho), _, hD, hlen, ?_⟩
        rw [upd_upd, take_snoc hj, List.map_append]
        rfl
      · rw [if_neg c] at hj
        refine iteF' (decide_eq_false fun z => c (iv_inj.mp z)) ?_
        refine ⟨_, rfl, _, hD, hlen, ?_⟩
        rw [upd_upd, take_snoc hj, List.map_append]
        rfl
    · subst e
      have e : (join gs x y).take (gs.map iv).length = join gs x y := List.take_of_length_le (by rw [join]; simp)
      rw [e]
      exact k D nD
def spFirst (K : PySem.W.Frag) : Sp := fun vs H Q _ => ∃ (a : Addr) (ps : List Addr) (tr : List E2), vs = [.ref a] ∧ SqT K H a (ps.map V.ref) ∧ Prs H ps tr ∧ TreeL tr ∧ tr.length ≤ 999 ∧ ∀ H', Same H H' → Q .non H'
theorem sc_first : FnScope ["tracks", "size", "groups", "index", "track", "one", "other"] ["tracks"] (defScope s_first_wrong_track) := ⟨rfl, rfl, rfl, by decide +kernel, rfl, by decide +kernel, by decide +kernel⟩
theorem ok_first {f fP fJ : Addr} {fd fdP fdJ : FuncData} (F : Fun K "first_wrong_track" "first_wrong_track" s_first_wrong_track f fd) (N : Nm mg)
    (UP : Use P w K mg base CX0 3 "is_pair_of_stations" fP fdP ["value", "size"] (spPair K)) (UJ : Use P w K mg base CX0 1 "joined" fJ fdJ ["groups", "one", "other"] (spJoin K)) : FnOk P w K mg base CX0 4 f fd ["tracks"] (spFirst K) := by
  refine F.ok sc_first (fun vs H Q E h => ?_) (fun cdv A outer s H vs Q E hr h => ?_)
  · obtain ⟨a, ps, tr, rfl, _⟩ := h
    rfl
  · obtain ⟨a, ps, tr, rfl, hS, hP, T, hl, k⟩ := h
    refine ⟨_, pss_cons (ps_set (i := 1) sc_first.nd rfl (.inl rfl) (pe_op op_add (pe_callB call_len_seq (by rfl) N.len PySem.boot_len (pa_cons (pv 0) pa_nil)) pe_int))
      (pss_cons (ps_set (i := 2) sc_first.nd rfl (.inl rfl) (pe_listRg rfl (by rfl) N.list (prg_1 (by rfl) N.range (pv 1))))
      (pss_cons (ps_for PassesOwn.never rfl (pi_enumT (by rfl) N.enum (pa_cons (pv 0) pa_nil)) (pg_tup rfl (pgs_cons (pg_name (i := 3) sc_first.nd rfl (.inl rfl)) (pgs_cons (pg_name (i := 4) sc_first.nd rfl (.inl rfl)) pgs_nil)))
        (pss_cons (ps_if (pt_not (pt_val (pe_use UP hr rfl (pa_cons (pv 4) (pa_cons (pv 1) pa_nil))))) (pss_one (ps_ret (pv 3))) pss_nil)
        (pss_cons (ps_asg (pv 4) (pg_tup rfl (pgs_cons (pg_name (i := 5) sc_first.nd rfl (.inl rfl)) (pgs_cons (pg_name (i := 6) sc_first.nd rfl (.inl rfl)) pgs_nil))))
        (pss_cons (ps_if (pt_cmpR op_eq (pe_ix ix_list (pv 2) (pv 5) (fun _ _ => rfl)) (pe_ix ix_list (pv 2) (pv 6) (fun _ _ => rfl)) (nomark _)) (pss_one (ps_ret (pv 3))) pss_nil)
        (pss_one (ps_set (i := 2) sc_first.nd rfl (.inl rfl) (pe_use UJ (hr.mono (by decide)) rfl (pa_cons (pv 2) (pa_cons (pv 5) (pa_cons (pv 6) pa_nil))))))))))
      (pss_one (ps_ret pe_non)))), ?_⟩
    have lp : (ps.map V.ref).length = tr.length := by rw [List.length_map, hP.1]
    refine ⟨_, rfl, a, _, rfl, .inr hS, _, _, rfl, rfl, ?_⟩
    refine ⟨_, rfl, _, rfl, ?_⟩
    refine ⟨RgOk.of_le (by decide) (by rw [lp]; omega) (by decide) (by omega), fun g0 ng => ?_⟩
    have s0 := same_upd ng (.lst (rgV 0 (((ps.map V.ref).length : Int) + 1)))
    have e0 : rgV 0 (((ps.map V.ref).length : Int) + 1) = (List.range (tr.length + 1)).map iv := by rw [lp, rgV_iv]
    have hg0 : upd H g0 (.lst (rgV 0 (((ps.map V.ref).length : Int) + 1))) g0 = some (.lst ((List.range (tr.length + 1)).map iv)) := by rw [← e0]; exact upd_same
    refine ⟨_, rfl, a, _, rfl, s0.tp hS, for_enumT (K := K) (a := a) (xs := ps.map V.ref) (fun i σ H' => ∃ (gs : List Nat) (g : Addr) (x3 x4 x5 x6 : Option V), σ = [some (.ref a), some (.int (((ps.map V.ref).length : Int) + 1)), some (.ref g), x3, x4, x5, x6] ∧ Same H H' ∧ H' g = some (.lst (gs.map iv)) ∧ GI tr i gs)
      ⟨List.range (tr.length + 1), g0, none, none, none, none, rfl, s0, hg0, GI.start tr⟩ (fun i σ H' _ ⟨_, _, _, _, _, _, _, s1, _⟩ => s1.tp hS) ?_ ?_⟩
    · rintro i v T0 σ H' hv ⟨gs, g, x3, x4, x5, x6, rfl, s1, hg, G⟩ nT
      obtain ⟨p, e, rfl, hp, he, hH⟩ := hP.get hv
      have hm := List.mem_of_getElem? he
      have sT := same_upd nT (.tup [V.int (i : Nat), V.ref p])
      have hT := upd_same (H := H') (a := T0) (o := .tup [V.int (i : Nat), V.ref p])
      have s2 := s1.trans sT
      have hg2 := sT _ _ hg
      have hH2 := s2 _ _ hH
      generalize upd H' T0 (.tup [V.int (i : Nat), V.ref p]) = H2 at sT hT s2 hg2 hH2
      have b1 := T.lt1 hm
      obtain ⟨x, hx⟩ : ∃ x, gs[e.1]? = some x := ⟨_, List.getElem?_eq_getElem (by rw [G.1]; exact b1.1)⟩
      obtain ⟨y, hy⟩ : ∃ y, gs[e.2]? = some y := ⟨_, List.getElem?_eq_getElem (by rw [G.1]; exact b1.2)⟩
      have nxy := G.ne T he hx hy
      refine ⟨T0, _, rfl, SqT.of hT, rfl, ?_⟩
      refine ⟨_, _, rfl, _, _, rfl, rfl, ?_⟩
      -- if not is_pair_of_stations(track, size)
      refine ⟨_, rfl, _, rfl, _, _, _, rfl, .two hH2 (.inl ⟨_, rfl⟩) (.inl ⟨_, rfl⟩), _, rfl, ?_⟩
      rw [lp]
      rw [show isPr (some (iv e.1, iv e.2)) ((tr.length : Int) + 1) = true from isPr_ok (n := tr.length + 1) b1.1 b1.2 (T.ne e hm)]
      refine iteF ?_
      -- one, other = track
      refine ⟨_, rfl, p, _, rfl, SqT.of hH2, rfl, ?_⟩
      refine ⟨_, _, rfl, _, _, rfl, rfl, ?_⟩
      -- if groups[one] == groups[other]
      refine ⟨_, rfl, _, rfl, g, _, _, _, rfl, rfl, SqL.of hg2, atN (map_get hx), _, rfl, _, rfl, g, _, _, _, rfl, rfl, SqL.of hg2, atN (map_get hy), rfl, _, rfl, ?_⟩
      refine iteF' (decide_eq_false fun z => nxy (iv_inj.mp z)) ?_
      -- groups = joined(groups, one, other)
      refine ⟨_, rfl, _, rfl, _, rfl, g, gs, e.1, e.2, x, y, rfl, SqL.of hg2, by rw [G.1]; omega, hx, hy, fun q nq => ?_⟩
      exact ⟨join gs x y, q, _, _, _, _, rfl, s2.trans (same_upd nq _), upd_same, G.next T he hx hy⟩
    · rintro σ H' ⟨gs, g, x3, x4, x5, x6, rfl, s1, hg, G⟩
      exact k H' s1
end
end TR

namespace TR
def bit (v : Nat) (e : E2) : List Nat := if e.1 = v then [e.2] else if e.2 = v then [e.1] else []
def rowOf (tr : List E2) (v : Nat) : List Nat := tr.flatMap (bit v)
def srt (l : List Nat) : List Nat := l.mergeSort (fun a b => decide (a ≤ b))
def nb (tr : List E2) (v : Nat) : List Nat := srt (rowOf tr v)
theorem srt_perm (l : List Nat) : (srt l).Perm l := List.mergeSort_perm l _
theorem srt_le (l : List Nat) : (srt l).Pairwise (· ≤ ·) := by
  have h := List.pairwise_mergeSort (le := fun a b : Nat => decide (a ≤ b)) (by intro a b c; simp only [decide_eq_true_eq]; omega) (by intro a b; simp only [Bool.or_eq_true, decide_eq_true_eq]; omega) l
  exact h.imp fun {a b} h => of_decide_eq_true h
theorem srt_of {l : List Nat} {ns : List Int} (hp : ns.Perm (l.map Int.ofNat)) (hs : ns.Pairwise (· ≤ ·)) : ns = (srt l).map Int.ofNat := by
  refine List.Perm.eq_of_pairwise (le := (· ≤ ·)) (fun a b _ _ h1 h2 => Int.le_antisymm h1 h2) hs ?_ (hp.trans ((srt_perm l).map _).symm)
  exact List.Pairwise.map _ (fun a b h => Int.ofNat_le.mpr h) (srt_le l)
theorem rowOf_snoc (tr : List E2) (e : E2) (v : Nat) : rowOf (tr ++ [e]) v = rowOf tr v ++ bit v e := by
  unfold rowOf
  rw [List.flatMap_append]
  simp
theorem rowOf_len (tr : List E2) (v : Nat) : (rowOf tr v).length ≤ tr.length := by
  induction tr with
  | nil => exact Nat.le_refl _
  | cons e r ih =>
    have : (rowOf (e :: r) v) = bit v e ++ rowOf r v := rfl
    rw [this, List.length_append, List.length_cons]
    have h1 : (bit v e).length ≤ 1 := by
      unfold bit
      split
      · exact Nat.le_refl _
      · split <;> simp
    omega
def Adj (tr : List E2) (a b : Nat) : Prop := (a, b) ∈ tr ∨ (b, a) ∈ tr
theorem mem_row {tr : List E2} (ne : ∀ e ∈ tr, e.1 ≠ e.2) {v w : Nat} : w ∈ rowOf tr v ↔ Adj tr v w := by
  unfold rowOf
  rw [List.mem_flatMap]
  constructor
  · rintro ⟨e, he, h⟩
    unfold bit at h
    split at h
    · next h1 =>
      rw [List.mem_singleton] at h
      exact .inl (by rw [← h1, h]; exact he)
    · split at h
      · next h2 =>
        rw [List.mem_singleton] at h
        exact .inr (by rw [← h2, h]; exact he)
      · cases h
  · rintro (h | h)
    · refine ⟨_, h, ?_⟩
      simp [bit]
    · refine ⟨_, h, ?_⟩
      have := ne _ h
      have h2 : ¬ w = v := this
      simp [bit, h2]
theorem mem_nb {tr : List E2} (ne : ∀ e ∈ tr, e.1 ≠ e.2) {v w : Nat} : w ∈ nb tr v ↔ Adj tr v w := by
  unfold nb
  rw [(srt_perm _).mem_iff]
  exact mem_row ne
theorem nb_len (tr : List E2) (v : Nat) : (nb tr v).length ≤ tr.length := by
  unfold nb
  rw [(srt_perm _).length_eq]
  exact rowOf_len tr v
end TR

namespace TR
open PySem PySem.Spec PyProof.Rows L2 L2.TT
/-- a list of lists (or tuples) in the heap: rows as f tells, all apart, none before in H -/
structure Rws (H H' : Hp) (r : Addr) (n : Nat) (o : List V → HO) (as : List Addr) (f : Nat → List Nat) : Prop where
  own : H' r = some (.lst (as.map V.ref))
  new : H r = none
  len : as.length = n
  at_ : ∀ (v : Nat) (a : Addr), as[v]? = some a → H' a = some (o ((f v).map iv)) ∧ H a = none ∧ a ≠ r
  nd : as.Nodup
theorem ints_map (l : List Nat) : (l.map Int.ofNat).map V.int = l.map iv := by rw [List.map_map]; rfl
theorem nodup_snoc {α : Type} {l : List α} {a : α} (h : l.Nodup) (ha : a ∉ l) : (l ++ [a]).Nodup := by
  rw [List.nodup_append]
  refine ⟨h, by simp, fun x hx y hy => ?_⟩
  rw [List.mem_singleton] at hy
  rintro rfl
  exact ha (hy ▸ hx)
theorem get_snoc {α : Type} {l : List α} {a x : α} {i : Nat} (h : (l ++ [a])[i]? = some x) : l[i]? = some x ∨ (i = l.length ∧ x = a) := by
  by_cases c : i < l.length
  · rw [List.getElem?_append_left c] at h
    exact .inl h
  · rw [List.getElem?_append_right (by omega)] at h
    by_cases c2 : i - l.length = 0
    · rw [c2] at h
      exact .inr ⟨by omega, (Option.some.inj h).symm⟩
    · exfalso
      obtain ⟨k, hk⟩ := Nat.exists_eq_succ_of_ne_zero c2
      rw [hk] at h
      cases h
/-- [[] for station in range(n)] -/
theorem rws_start {H : Hp} {r : Addr} (o : List V → HO) (f : Nat → List Nat) (nr : H r = none) : Rws H (upd H r (.lst [])) r 0 o [] f := ⟨upd_same, nr, rfl, fun v a h => (by cases h), List.nodup_nil⟩
theorem Rws.grow {H H' : Hp} {r : Addr} {n : Nat} {o : List V → HO} {as : List Addr} {f : Nat → List Nat} (R : Rws H H' r n o as f) (s : Same H H') {p : Addr} {H2 : Hp} (np : H' p = none) (s2 : ∀ b, b ≠ p → H' b ≠ none → H2 b = H' b) (hp : H2 p = some (o ((f n).map iv))) :
    Rws H (upd H2 r (.lst (as.map V.ref ++ [.ref p]))) r (n + 1) o (as ++ [p]) f := by
  have npr : p ≠ r := fun z => by rw [z, R.own] at np; cases np
  refine ⟨by rw [upd_same, List.map_append]; rfl, R.new, by rw [List.length_append, R.len]; rfl, fun v a h => ?_, ?_⟩
  · rcases get_snoc h with h | ⟨e, rfl⟩
    · obtain ⟨h1, h2, h3⟩ := R.at_ v a h
      have nap : a ≠ p := fun z => by rw [z, np] at h1; cases h1
      exact ⟨by rw [upd_ne h3, s2 a nap (by rw [h1]; simp)]; exact h1, h2, h3⟩
    · rw [R.len] at e
      subst e
      exact ⟨by rw [upd_ne npr]; exact hp, s.free np, npr⟩
  · refine nodup_snoc R.nd fun hm => ?_
    obtain ⟨i, hi⟩ := List.mem_iff_getElem?.mp hm
    have := (R.at_ i p hi).1
    rw [np] at this
    cases this
theorem Rws.same {H H' : Hp} {r : Addr} {n : Nat} {o : List V → HO} {as : List Addr} {f : Nat → List Nat} (R : Rws H H' r n o as f) {H2 : Hp} (s : Same H' H2) : Rws H H2 r n o as f :=
  ⟨s _ _ R.own, R.new, R.len, fun v a h => ⟨s _ _ (R.at_ v a h).1, (R.at_ v a h).2⟩, R.nd⟩
/-- one row is grown -/
theorem Rws.put {H H' : Hp} {r : Addr} {n : Nat} {o : List V → HO} {as : List Addr} {f g : Nat → List Nat} (R : Rws H H' r n o as f) {v : Nat} {a : Addr} (ha : as[v]? = some a) (hg : ∀ u, u ≠ v → g u = f u) :
    Rws H (upd H' a (o ((g v).map iv))) r n o as g := by
  obtain ⟨h1, h2, h3⟩ := R.at_ v a ha
  refine ⟨by rw [upd_ne h3.symm]; exact R.own, R.new, R.len, fun u b hb => ?_, R.nd⟩
  obtain ⟨k1, k2, k3⟩ := R.at_ u b hb
  refine ⟨?_, k2, k3⟩
  by_cases c : u = v
  · subst c
    rw [ha] at hb
    cases hb
    exact upd_same
  · have ne : b ≠ a := by
      rintro rfl
      have hl := (List.getElem?_eq_some_iff.mp hb).1
      exact c ((List.getElem?_inj hl R.nd).mp (hb.trans ha.symm))
    rw [upd_ne ne, hg u c]
    exact k1
theorem same_old {H H' : Hp} {a : Addr} (s : Same H H') (na : H a = none) (o : HO) : Same H (upd H' a o) := fun b u e => by rw [upd_ne (ne_of_none e na)]; exact s b u e
theorem Rws.base {H0 H H' : Hp} {r : Addr} {n : Nat} {o : List V → HO} {as : List Addr} {f : Nat → List Nat} (R : Rws H H' r n o as f) (s : Same H0 H) : Rws H0 H' r n o as f :=
  ⟨R.own, s.free R.new, R.len, fun v a h => ⟨(R.at_ v a h).1, s.free (R.at_ v a h).2.1, (R.at_ v a h).2.2⟩, R.nd⟩
theorem Rws.get {H H' : Hp} {r : Addr} {n : Nat} {o : List V → HO} {as : List Addr} {f : Nat → List Nat} (R : Rws H H' r n o as f) {v : Nat} (h : v < n) : ∃ a, as[v]? = some a ∧ H' a = some (o ((f v).map iv)) ∧ H a = none ∧ a ≠ r := by
  have hl : v < as.length := by rw [R.len]; exact h
  exact ⟨as[v], List.getElem?_eq_getElem hl, R.at_ v _ (List.getElem?_eq_getElem hl)⟩
theorem Rws.cong {H H' : Hp} {r : Addr} {n : Nat} {o : List V → HO} {as : List Addr} {f g : Nat → List Nat} (R : Rws H H' r n o as f) (e : ∀ v, v < n → f v = g v) : Rws H H' r n o as g :=
  ⟨R.own, R.new, R.len, fun v a h => by
    have hl := (List.getElem?_eq_some_iff.mp h).1
    rw [R.len] at hl
    rw [← e v hl]
    exact R.at_ v a h, R.nd⟩
end TR

namespace TR
open PySem PySem.Spec PyProof.Rows L2 L2.TT
theorem ixN_lt {n v : Nat} (h : v < n) : ixN n (v : Int) = some v := by
  unfold ixN
  rw [if_pos (by omega), if_pos (by omega)]
  simp
theorem cs_K {X : Cx} {K : PySem.W.Frag} (h : X.K = K) : CallR X (.builtin "sorted") (rSortedI K) := by
  subst h
  exact cr_sortedI
def rTupOf (K : PySem.W.Frag) : List V → Hp → VK → Prop := fun xs H Q => ∃ p ys, xs = [.ref p] ∧ ((SqL K H p ys ∧ ∀ l, H l = none → Q (.ref l) (upd H l (.tup ys))) ∨ (SqT K H p ys ∧ Q (.ref p) H))
theorem ct_K {X : Cx} {K : PySem.W.Frag} (h : X.K = K) : CallR X (.type "tuple") (rTupOf K) := by
  subst h
  exact call_tuple_of
def spNbs (K : PySem.W.Frag) : Sp := fun vs H Q _ => ∃ (a : Addr) (ps : List Addr) (tr : List E2), vs = [.ref a] ∧ SqT K H a (ps.map V.ref) ∧ Prs H ps tr ∧ (∀ e ∈ tr, e.1 ≠ e.2 ∧ e.1 < tr.length + 1 ∧ e.2 < tr.length + 1) ∧ tr.length ≤ 999 ∧
  ∀ (D : Addr) (ts : List Addr) (H' : Hp), Same H H' → Rws H H' D (tr.length + 1) HO.tup ts (nb tr) → Q (.ref D) H'
section
variable {P : Program} {w : World} {K : PySem.W.Frag} {mg : Str → Option Value} {base : Heap}
theorem sc_nbs : FnScope ["tracks", "rows", "one", "other", "station", "row"] ["tracks"] (defScope s_neighbours_of) := ⟨rfl, rfl, rfl, by decide +kernel, rfl, by decide +kernel, by decide +kernel⟩
theorem ok_nbs {f : Addr} {fd : FuncData} (F : Fun K "_neighbours_of" "_neighbours_of" s_neighbours_of f fd) (N : Nm mg) : FnOk P w K mg base CX0 1 f fd ["tracks"] (spNbs K) := by
  refine F.ok sc_nbs (fun vs H Q E h => ?_) (fun cdv A outer s H vs Q E hr h => ?_)
  · obtain ⟨a, ps, tr, rfl, _⟩ := h
    rfl
  · obtain ⟨a, ps, tr, rfl, hS, hP, T, hl, k⟩ := h
    refine ⟨_, pss_cons (ps_setLc (i := 1) (own := [("station", 4)]) (g := gName 4) (tt := tYes) (by rfl) sc_nbs.nd rfl rfl (sw_true rfl rfl rfl (by decide +kernel))
        (pi_range1 (by rfl) N.range (pa_cons (pe_op op_add (pe_callB call_len_seq (by rfl) N.len PySem.boot_len (pa_cons (pv 0) pa_nil)) pe_int) pa_nil))
        (blkOk_by (N := ["tracks", "rows", "one", "other", "station", "row"]) (sc := defScope s_neighbours_of) (by decide +kernel))
        (fun _ _ _ _ _ => pg_name (i := 4) sc_nbs.nd rfl (Or.inl rfl)) (fun _ _ _ _ _ => pts_nil) (fun _ _ _ _ _ => pe_lst pa_nil))
      (pss_cons (ps_for PassesOwn.never rfl (pi_tup (pv 0)) (pg_tup rfl (pgs_cons (pg_name (i := 2) sc_nbs.nd rfl (.inl rfl)) (pgs_cons (pg_name (i := 3) sc_nbs.nd rfl (.inl rfl)) pgs_nil)))
        (pss_cons (ps_expr (pe_bm PySem.F.plainAttrs_list PySem.F.slot_list_append PySem.F.type_list_append mt_append (pe_ix ix_list (pv 1) (pv 2) (fun _ _ => rfl)) (pa_cons (pv 3) pa_nil)))
        (pss_one (ps_expr (pe_bm PySem.F.plainAttrs_list PySem.F.slot_list_append PySem.F.type_list_append mt_append (pe_ix ix_list (pv 1) (pv 3) (fun _ _ => rfl)) (pa_cons (pv 2) pa_nil))))))
      (pss_one (ps_ret (pe_lc (own := [("row", 5)]) (g := gName 5) (tt := tYes) rfl sc_nbs.nd (pi_list (pv 1)) (blkOk_by (N := ["tracks", "rows", "one", "other", "station", "row"]) (sc := defScope s_neighbours_of) (by decide +kernel))
        (fun _ _ _ _ _ => pg_name (i := 5) sc_nbs.nd rfl (Or.inl rfl)) (fun _ _ _ _ _ => pts_nil)
        (fun _ _ _ _ _ => pe_callTy (ct_K (K := K) rfl) (by rfl) N.tuple boot_tuple (pa_cons (pe_callB (cs_K (K := K) rfl) (by rfl) N.sorted boot_sorted (pa_cons (pv 5) pa_nil)) pa_nil)))))), ?_⟩
    have lp : (ps.map V.ref).length = tr.length := by rw [List.length_map, hP.1]
    have e62 : (2 : Int) ^ 62 = 4611686018427387904 := by decide
    refine ⟨_, rfl, a, _, rfl, .inr hS, _, _, rfl, rfl, _, rfl, by omega, by rw [lp, e62]; omega, fun r nr => ?_⟩
    refine lc_range (lo := 0) (fun i H' => ∃ as, Rws H H' r i HO.lst as (fun _ => []) ∧ Same H H') ⟨[], rws_start _ _ nr, same_upd nr _⟩ ?_ ?_
    · rintro i H' hi ⟨as, R, s1⟩
      refine ⟨rfl, by show 0 ≤ sizeLine; exact Nat.zero_le _, fun p np => ⟨as.map V.ref, ?_, ?_, as ++ [p], ?_, ?_⟩⟩
      · have npr : r ≠ p := fun z => by rw [← z, R.own] at np; cases np
        rw [upd_ne npr]
        exact R.own
      · rw [List.length_map, R.len, sizeLine_eq]
        rw [lp] at hi
        omega
      · exact R.grow s1 np (fun b hb _ => upd_ne hb) upd_same
      · exact same_old (s1.trans (same_upd np _)) nr _
    rintro H1 ⟨as, R, s1⟩
    have en : (((ps.map V.ref).length : Int) + 1).toNat = tr.length + 1 := by rw [lp]; omega
    have R1 : Rws H H1 r (tr.length + 1) HO.lst as (fun _ => []) := en ▸ R
    clear R
    -- for one, other in tracks
    refine ⟨_, rfl, a, rfl, ⟨_, s1.tp hS⟩, for_tup (K := K) (a := a) (xs := ps.map V.ref) (fun i σ H' => ∃ (as : List Addr) (x2 x3 x4 x5 : Option V), σ = [some (.ref a), some (.ref r), x2, x3, x4, x5] ∧ Same H H' ∧ Rws H H' r (tr.length + 1) HO.lst as (rowOf (tr.take i)))
      ⟨as, none, none, none, none, rfl, s1, R1⟩ (fun i σ H' _ ⟨_, _, _, _, _, _, s2, _⟩ => s2.tp hS) ?_ ?_⟩
    · rintro i v σ H' hv ⟨as, x2, x3, x4, x5, rfl, s2, R⟩
      obtain ⟨p, e, rfl, hp, he, hH⟩ := hP.get hv
      have hm := List.mem_of_getElem? he
      obtain ⟨ne, b1, b2⟩ := T e hm
      have hH2 := s2 _ _ hH
      refine ⟨p, _, rfl, SqT.of hH2, rfl, ?_⟩
      refine ⟨_, _, rfl, _, _, rfl, rfl, ?_⟩
      obtain ⟨r1, g1, h1, n1, d1⟩ := R.get b1
      have hlen : ∀ u, ((rowOf (tr.take i) u).map iv).length ≤ 999 := fun u => by
        rw [List.length_map]
        have := rowOf_len (tr.take i) u
        rw [List.length_take] at this
        omega
      refine ⟨_, rfl, _, rfl, r, _, _, _, rfl, rfl, SqL.of R.own, atN (map_get g1), .inl ⟨rfl, _, SqL.of h1⟩, _, rfl, _, _, _, rfl, rfl, h1, by rw [sizeLine_eq]; have := hlen e.1; omega, ?_⟩
      have e1 : (rowOf (tr.take i) e.1).map iv ++ [iv e.2] = ((fun u => if u = e.1 then rowOf (tr.take i) u ++ [e.2] else rowOf (tr.take i) u) e.1).map iv := by simp
      have R2 := R.put (g := fun u => if u = e.1 then rowOf (tr.take i) u ++ [e.2] else rowOf (tr.take i) u) g1 (fun u hu => by simp [hu])
      rw [← e1] at R2
      have s3 := same_old s2 n1 (.lst ((rowOf (tr.take i) e.1).map iv ++ [iv e.2]))
      generalize upd H' r1 (.lst ((rowOf (tr.take i) e.1).map iv ++ [iv e.2])) = H2 at R2 s3
      obtain ⟨r2, g2, h2, n2, d2⟩ := R2.get b2
      rw [if_neg fun z => ne z.symm] at h2
      refine ⟨_, rfl, _, rfl, r, _, _, _, rfl, rfl, SqL.of R2.own, atN (map_get g2), .inl ⟨rfl, _, SqL.of h2⟩, _, rfl, _, _, _, rfl, rfl, h2, by rw [sizeLine_eq]; have := hlen e.2; omega, ?_⟩
      have et : tr.take (i + 1) = tr.take i ++ [e] := take_snoc he
      have e2 : (rowOf (tr.take i) e.2).map iv ++ [iv e.1] = (rowOf (tr.take (i + 1)) e.2).map iv := by
        rw [et, rowOf_snoc, List.map_append]
        have : bit e.2 e = [e.1] := by unfold bit; rw [if_neg ne, if_pos rfl]
        rw [this]
        rfl
      refine ⟨as, _, _, _, _, rfl, same_old s3 n2 _, ?_⟩
      rw [e2]
      refine R2.put g2 fun u hu => ?_
      rw [et, rowOf_snoc]
      show rowOf (tr.take i) u ++ bit u e = if u = e.1 then rowOf (tr.take i) u ++ [e.2] else rowOf (tr.take i) u
      by_cases c : u = e.1
      · rw [if_pos c]
        unfold bit
        rw [if_pos c.symm]
      · rw [if_neg c]
        unfold bit
        rw [if_neg fun z => c z.symm, if_neg fun z => hu z.symm, List.append_nil]
    · rintro σ H' ⟨as, x2, x3, x4, x5, rfl, s2, R⟩
      have ea : tr.take (ps.map V.ref).length = tr := by rw [lp]; exact List.take_length
      rw [ea] at R
      refine ⟨_, rfl, r, rfl, ⟨_, SqL.of R.own⟩, fun D nD => ?_⟩
      refine lc_list (K := K) (a := r) (xs := as.map V.ref) (fun i H2 => ∃ ts, Rws H' H2 D i HO.tup ts (nb tr) ∧ Same H' H2) ⟨[], rws_start _ _ nD, same_upd nD _⟩ (fun i H2 _ ⟨_, _, s3⟩ => s3.seq (SqL.of R.own)) ?_ ?_
      · rintro i v H2 hv ⟨ts, R2, s3⟩
        obtain ⟨b, hb, rfl⟩ := map_got hv
        obtain ⟨h1, _, _⟩ := R.at_ i b hb
        refine ⟨rfl, ?_⟩
        refine ⟨_, rfl, b, (rowOf tr i).map Int.ofNat, rfl, by rw [ints_map]; exact s3.seq (SqL.of h1), fun ns' p hp hs np => ?_⟩
        have en' : ns'.map V.int = (nb tr i).map iv := by
          rw [srt_of hp hs, ints_map]
          rfl
        rw [en']
        refine ⟨p, _, rfl, .inl ⟨SqL.of upd_same, fun l nl => ⟨ts.map V.ref, ?_, ?_, ts ++ [l], ?_, ?_⟩⟩⟩
        · have n1 : D ≠ l := fun z => by
            rw [← z, same_upd np _ _ _ R2.own] at nl
            cases nl
          rw [upd_ne n1]
          exact same_upd np _ _ _ R2.own
        · rw [List.length_map, R2.len, sizeLine_eq]
          have := (List.getElem?_eq_some_iff.mp hb).1
          rw [R.len] at this
          omega
        · refine (R2.same (same_upd np _)).grow (s3.trans (same_upd np _)) nl (fun b hb _ => upd_ne hb) upd_same
        · exact same_old ((s3.trans (same_upd np _)).trans (same_upd nl _)) nD _
      · rintro H2 ⟨ts, R2, s3⟩
        refine k D ts H2 (s2.trans s3) ?_
        have el : (as.map V.ref).length = tr.length + 1 := by rw [List.length_map, R.len]
        rw [← el]
        exact R2.base s2
end
end TR

namespace TR
def depF (p : Nat → Nat) : Nat → Nat → Nat
  | 0, _ => 0
  | k + 1, y => if y = 0 then 0 else depF p k (p y) + 1
def dep (tr : List E2) (y : Nat) : Nat := depF (par tr) y y
def p0 (tr : List E2) (v : Nat) : Nat := if v = 0 then 0 else par tr v
def kids (tr : List E2) (v : Nat) : List Nat := (nb tr v).filter fun w => decide (w ≠ p0 tr v)
def lay (tr : List E2) : Nat → List Nat
  | 0 => [0]
  | k + 1 => (lay tr k).flatMap (kids tr)
section
variable {tr : List E2}
theorem depF_more {p : Nat → Nat} (hp : ∀ a, 0 < a → p a < a) : ∀ (k y : Nat), y ≤ k → depF p k y = depF p y y
  | 0, y, h => by
    have : y = 0 := by omega
    subst this
    rfl
  | k + 1, y, h => by
    by_cases c : y = 0
    · subst c
      rfl
    · obtain ⟨j, rfl⟩ := Nat.exists_eq_succ_of_ne_zero c
      have hlt := hp (j + 1) (by omega)
      show (if j + 1 = 0 then 0 else depF p k (p (j + 1)) + 1) = (if j + 1 = 0 then 0 else depF p j (p (j + 1)) + 1)
      rw [if_neg c, if_neg c, depF_more hp k _ (by omega), depF_more hp j _ (by omega)]
theorem dep_zero : dep tr 0 = 0 := rfl
theorem dep_succ (T : TreeL tr) {y : Nat} (h : 0 < y) : dep tr y = dep tr (par tr y) + 1 := by
  unfold dep
  obtain ⟨j, rfl⟩ := Nat.exists_eq_succ_of_ne_zero (Nat.pos_iff_ne_zero.mp h)
  have hlt := T.par_lt (y := j + 1) h
  show (if j + 1 = 0 then 0 else depF (par tr) j (par tr (j + 1)) + 1) = _
  rw [if_neg (by omega), depF_more (fun a h => T.par_lt h) j _ (by omega)]
theorem dep_le (T : TreeL tr) : ∀ (k y : Nat), y ≤ k → dep tr y ≤ y
  | 0, y, h => by
    have : y = 0 := by omega
    subst this
    exact Nat.le_refl _
  | k + 1, y, h => by
    by_cases c : y = 0
    · subst c
      exact Nat.le_refl _
    · have hlt := T.par_lt (y := y) (by omega)
      have := dep_le T k (par tr y) (by omega)
      rw [dep_succ T (by omega)]
      omega
theorem adj_par (T : TreeL tr) {v w : Nat} (h : Adj tr v w) : (0 < v ∧ w = par tr v ∧ v ≤ tr.length) ∨ (0 < w ∧ v = par tr w ∧ w ≤ tr.length) := by
  have key : ∀ e : E2, e ∈ tr → (0 < e.1 ∧ e.2 = par tr e.1 ∧ e.1 ≤ tr.length) ∨ (0 < e.2 ∧ e.1 = par tr e.2 ∧ e.2 ≤ tr.length) := fun e he => by
    have hb := T.mx_bd he
    have hp := T.par_mx he
    rcases ends e with ⟨e1, e2⟩ | ⟨e1, e2⟩
    · exact .inl ⟨by omega, by rw [e1, hp, e2], by omega⟩
    · exact .inr ⟨by omega, by rw [e2, hp, e1], by omega⟩
  rcases h with h | h
  · exact key _ h
  · exact (key _ h).symm
theorem par_adj (T : TreeL tr) {y : Nat} (h : 0 < y) (hl : y ≤ tr.length) : Adj tr y (par tr y) := by
  obtain ⟨e, he, rfl⟩ := T.ex h hl
  rw [T.par_mx he]
  rcases ends e with ⟨e1, e2⟩ | ⟨e1, e2⟩
  · exact .inl (by rw [← e1, ← e2]; exact he)
  · exact .inr (by rw [← e1, ← e2]; exact he)
theorem mem_kids (T : TreeL tr) {v w : Nat} : w ∈ kids tr v ↔ 0 < w ∧ par tr w = v ∧ w ≤ tr.length := by
  unfold kids
  rw [List.mem_filter, mem_nb T.ne]
  constructor
  · rintro ⟨h, hne⟩
    have hne := of_decide_eq_true hne
    rcases adj_par T h with ⟨h1, h2, h3⟩ | ⟨h1, h2, h3⟩
    · exfalso
      apply hne
      unfold p0
      rw [if_neg (by omega)]
      exact h2
    · exact ⟨h1, h2.symm, h3⟩
  · rintro ⟨h1, h2, h3⟩
    have ha := par_adj T h1 h3
    rw [h2] at ha
    refine ⟨ha.symm, decide_eq_true ?_⟩
    intro z
    have hlt := T.par_lt h1
    rw [h2] at hlt
    unfold p0 at z
    by_cases c : v = 0
    · rw [if_pos c] at z
      omega
    · rw [if_neg c] at z
      have := T.par_lt (y := v) (by omega)
      omega
theorem mem_lay (T : TreeL tr) : ∀ {k v : Nat}, v ∈ lay tr k ↔ v ≤ tr.length ∧ dep tr v = k
  | 0, v => by
    show v ∈ [0] ↔ _
    rw [List.mem_singleton]
    constructor
    · rintro rfl
      exact ⟨Nat.zero_le _, rfl⟩
    · rintro ⟨_, h⟩
      by_cases c : v = 0
      · exact c
      · rw [dep_succ T (by omega)] at h
        cases h
  | k + 1, v => by
    show v ∈ (lay tr k).flatMap (kids tr) ↔ _
    rw [List.mem_flatMap]
    constructor
    · rintro ⟨u, hu, hv⟩
      obtain ⟨h1, h2, h3⟩ := (mem_kids T).mp hv
      obtain ⟨_, h5⟩ := (mem_lay T).mp hu
      exact ⟨h3, by rw [dep_succ T h1, h2, h5]⟩
    · rintro ⟨h1, h2⟩
      have hv : 0 < v := by
        by_cases c : v = 0
        · subst c
          cases h2
        · omega
      rw [dep_succ T hv] at h2
      have hlt := T.par_lt hv
      exact ⟨par tr v, (mem_lay T).mpr ⟨by omega, by omega⟩, (mem_kids T).mpr ⟨hv, rfl, h1⟩⟩
theorem row_nd : ∀ {tr : List E2}, (tr.map mx).Nodup → (∀ e ∈ tr, e.1 ≠ e.2) → ∀ v, (rowOf tr v).Nodup
  | [], _, _, v => List.nodup_nil
  | e :: r, hn, ne, v => by
    rw [List.map_cons, List.nodup_cons] at hn
    show (bit v e ++ rowOf r v).Nodup
    have ne' : ∀ x ∈ r, x.1 ≠ x.2 := fun x hx => ne x (List.mem_cons_of_mem _ hx)
    rw [List.nodup_append]
    refine ⟨?_, row_nd hn.2 ne' v, ?_⟩
    · unfold bit
      split
      · simp
      · split <;> simp
    · rintro x hx y hy rfl
      apply hn.1
      have hy2 := (mem_row ne').mp hy
      have em : mx e = mx (v, x) := by
        unfold bit at hx
        split at hx
        · next h1 =>
          rw [List.mem_singleton] at hx
          unfold mx
          rw [← h1, hx]
        · split at hx
          · next h2 =>
            rw [List.mem_singleton] at hx
            unfold mx
            rw [← h2, hx]
            exact Nat.max_comm _ _
          · cases hx
      rw [em]
      rcases hy2 with h | h
      · exact List.mem_map_of_mem h
      · have := List.mem_map_of_mem (f := mx) h
        have e2 : mx (x, v) = mx (v, x) := Nat.max_comm _ _
        rw [e2] at this
        exact this
theorem nb_nd (T : TreeL tr) (v : Nat) : (nb tr v).Nodup := (srt_perm _).nodup_iff.mpr (row_nd T.nd T.ne v)
theorem flat_nd (T : TreeL tr) : ∀ {l : List Nat}, l.Nodup → (l.flatMap (kids tr)).Nodup
  | [], _ => List.nodup_nil
  | a :: l, h => by
    rw [List.nodup_cons] at h
    show (kids tr a ++ l.flatMap (kids tr)).Nodup
    rw [List.nodup_append]
    refine ⟨(nb_nd T a).filter _, flat_nd T h.2, ?_⟩
    rintro x hx y hy rfl
    obtain ⟨u, hu, hy⟩ := List.mem_flatMap.mp hy
    have h1 := ((mem_kids T).mp hx).2.1
    have h2 := ((mem_kids T).mp hy).2.1
    exact h.1 (by rw [← h1, h2]; exact hu)
theorem lay_nd (T : TreeL tr) : ∀ k, (lay tr k).Nodup
  | 0 => by
    show [0].Nodup
    simp
  | k + 1 => flat_nd T (lay_nd T k)
/-- a list without repetition of numbers up to n has at most n + 1 items -/
theorem nd_len {n : Nat} {l : List Nat} (h : l.Nodup) (hb : ∀ x ∈ l, x ≤ n) : l.length ≤ n + 1 := by
  have hs : l ⊆ List.range (n + 1) := fun x hx => List.mem_range.mpr (by have := hb x hx; omega)
  have := h.length_le_of_subset hs
  simpa using this
theorem lay_len (T : TreeL tr) (k : Nat) : (lay tr k).length ≤ tr.length + 1 := nd_len (lay_nd T k) fun x hx => ((mem_lay T).mp hx).1
/-- a layer without stations: none deeper either -/
theorem lay_none (T : TreeL tr) {k : Nat} (h : lay tr k = []) : ∀ (m v : Nat), v ≤ m → v ≤ tr.length → dep tr v < k
  | 0, v, hm, hv => by
    have e : v = 0 := by omega
    subst e
    rw [dep_zero]
    by_cases c : k = 0
    · exfalso
      subst c
      cases h
    · omega
  | m + 1, v, hm, hv => by
    by_cases c : v = 0
    · exact lay_none T h m v (by omega) hv
    · have hlt := T.par_lt (y := v) (by omega)
      have ih := lay_none T h m (par tr v) (by omega) (by omega)
      rw [dep_succ T (by omega)]
      by_cases c2 : dep tr (par tr v) + 1 = k
      · exfalso
        have : v ∈ lay tr k := (mem_lay T).mpr ⟨hv, by rw [dep_succ T (by omega), c2]⟩
        rw [h] at this
        cases this
      · omega
theorem lay_lt (T : TreeL tr) {k : Nat} (h : lay tr k ≠ []) : k ≤ tr.length := by
  obtain ⟨v, hv⟩ := List.exists_mem_of_ne_nil _ h
  obtain ⟨h1, h2⟩ := (mem_lay T).mp hv
  have := dep_le T v v (Nat.le_refl _)
  omega
end
end TR

namespace TR
open PySem PySem.Spec PyProof.Rows L2 L2.TT
def vec (n : Nat) (f : Nat → Nat) : List V := (List.range n).map fun v => iv (f v)
theorem vec_len (n : Nat) (f : Nat → Nat) : (vec n f).length = n := by simp [vec]
theorem vec_get {n v : Nat} {f : Nat → Nat} (h : v < n) : (vec n f)[v]? = some (iv (f v)) := by
  unfold vec
  rw [List.getElem?_map, List.getElem?_range h]
  rfl
theorem vec_snoc (n : Nat) (f : Nat → Nat) : vec (n + 1) f = vec n f ++ [iv (f n)] := by
  unfold vec
  rw [List.range_succ, List.map_append]
  rfl
theorem vec_set {n j x : Nat} {f : Nat → Nat} : (vec n f).set j (iv x) = vec n (fun v => if v = j then x else f v) := by
  apply List.ext_getElem?
  intro i
  rw [List.getElem?_set]
  by_cases hi : i < n
  · rw [vec_get hi, vec_get hi, vec_len]
    by_cases c : j = i
    · subst c
      rw [if_pos rfl, if_pos hi, if_pos rfl]
    · rw [if_neg c, if_neg fun z => c z.symm]
  · have e1 : (vec n f)[i]? = none := by rw [List.getElem?_eq_none_iff, vec_len]; omega
    have e2 : (vec n (fun v => if v = j then x else f v))[i]? = none := by rw [List.getElem?_eq_none_iff, vec_len]; omega
    rw [e1, e2, vec_len]
    by_cases c : j = i
    · subst c
      rw [if_pos rfl, if_neg hi]
    · rw [if_neg c]
theorem vec_cong {n : Nat} {f g : Nat → Nat} (h : ∀ v, v < n → f v = g v) : vec n f = vec n g := by
  unfold vec
  refine List.map_congr_left fun v hv => ?_
  rw [h v (List.mem_range.mp hv)]
def fA (tr : List E2) (k v : Nat) : Nat := if dep tr v ≤ k then p0 tr v else 0
def gA (tr : List E2) (k v : Nat) : Nat := if dep tr v ≤ k then dep tr v else 0
def fB (tr : List E2) (k : Nat) (bl : List Nat) (v : Nat) : Nat := if v ∈ bl then par tr v else fA tr k v
def gB (tr : List E2) (k : Nat) (bl : List Nat) (v : Nat) : Nat := if v ∈ bl then dep tr v else gA tr k v
/-- the two lists under way -/
structure Two (H H' : Hp) (A L : Addr) (n : Nat) (f g : Nat → Nat) : Prop where
  same : Same H H'
  nA : H A = none
  nL : H L = none
  ne : A ≠ L
  hA : H' A = some (.lst (vec n f))
  hL : H' L = some (.lst (vec n g))
theorem Two.ext {H H' H2 : Hp} {A L : Addr} {n : Nat} {f g : Nat → Nat} (t : Two H H' A L n f g) (s : Same H' H2) : Two H H2 A L n f g := ⟨t.same.trans s, t.nA, t.nL, t.ne, s _ _ t.hA, s _ _ t.hL⟩
theorem Two.cong {H H' : Hp} {A L : Addr} {n : Nat} {f g f' g' : Nat → Nat} (t : Two H H' A L n f g) (e : ∀ v, v < n → f v = f' v) (e' : ∀ v, v < n → g v = g' v) : Two H H' A L n f' g' := ⟨t.same, t.nA, t.nL, t.ne, by rw [← vec_cong e]; exact t.hA, by rw [← vec_cong e']; exact t.hL⟩
def spPlaces (K : PySem.W.Frag) : Sp := fun vs H Q _ => ∃ (a : Addr) (ts : List Addr) (tr : List E2), vs = [.ref a] ∧ SqL K H a (ts.map V.ref) ∧ ts.length = tr.length + 1 ∧ (∀ (v : Nat) (t : Addr), ts[v]? = some t → H t = some (.tup ((nb tr v).map iv))) ∧ TreeL tr ∧ tr.length ≤ 999 ∧
  ∀ (t A L : Addr) (H' : Hp), Two H H' A L (tr.length + 1) (p0 tr) (dep tr) → H' t = some (.tup [.ref A, .ref L]) → Q (.ref t) H'
/-- the state of a layer's walk -/
structure St3 (H H' : Hp) (A L lr b : Addr) (tr : List E2) (k : Nat) (bl : List Nat) : Prop where
  two : Two H H' A L (tr.length + 1) (fB tr k bl) (gB tr k bl)
  hlr : H' lr = some (.lst ((lay tr k).map iv))
  hb : H' b = some (.lst (bl.map iv))
theorem flat_take (tr : List E2) (k i : Nat) : (((lay tr k).take i).flatMap (kids tr)).length ≤ (lay tr (k + 1)).length := by
  show _ ≤ ((lay tr k).flatMap (kids tr)).length
  rw [show (lay tr k).flatMap (kids tr) = ((lay tr k).take i).flatMap (kids tr) ++ ((lay tr k).drop i).flatMap (kids tr) by rw [← List.flatMap_append, List.take_append_drop], List.length_append]
  omega
theorem vec_zero (n : Nat) (f : Nat → Nat) : vec 0 f = [] := rfl
section
variable {P : Program} {w : World} {K : PySem.W.Frag} {mg : Str → Option Value} {base : Heap}
abbrev NPl : List Str := ["neighbours", "station", "above", "levels", "layer", "below", "near"]
theorem sc_pl : FnScope NPl ["neighbours"] (defScope s_places_below_first) := ⟨rfl, rfl, rfl, by decide +kernel, rfl, by decide +kernel, by decide +kernel⟩
theorem ok_places {f : Addr} {fd : FuncData} (F : Fun K "_places_below_first" "_places_below_first" s_places_below_first f fd) (N : Nm mg) : FnOk P w K mg base CX0 1 f fd ["neighbours"] (spPlaces K) := by
  refine F.ok sc_pl (fun vs H Q E h => ?_) (fun cdv A outer s H vs Q E hr h => ?_)
  · obtain ⟨a, ts, tr, rfl, _⟩ := h
    rfl
  · obtain ⟨a, ts, tr, rfl, hS, hts, hT, T, hl, k⟩ := h
    refine ⟨_, pss_cons (ps_setLc (i := 2) (own := [("station", 1)]) (g := gName 1) (tt := tYes) (by rfl) sc_pl.nd rfl rfl (sw_true rfl rfl rfl (by decide +kernel))
        (pi_list (pv 0)) (blkOk_by (N := NPl) (sc := defScope s_places_below_first) (by decide +kernel))
        (fun _ _ _ _ _ => pg_name (i := 1) sc_pl.nd rfl (Or.inl rfl)) (fun _ _ _ _ _ => pts_nil) (fun _ _ _ _ _ => pe_int))
      (pss_cons (ps_setLc (i := 3) (own := [("station", 1)]) (g := gName 1) (tt := tYes) (by rfl) sc_pl.nd rfl rfl (sw_true rfl rfl rfl (by decide +kernel))
        (pi_list (pv 0)) (blkOk_by (N := NPl) (sc := defScope s_places_below_first) (by decide +kernel))
        (fun _ _ _ _ _ => pg_name (i := 1) sc_pl.nd rfl (Or.inl rfl)) (fun _ _ _ _ _ => pts_nil) (fun _ _ _ _ _ => pe_int))
      (pss_cons (ps_set (i := 4) sc_pl.nd rfl (.inl rfl) (pe_lst (pa_cons pe_int pa_nil)))
      (pss_cons (ps_while PassesOwn.never (pt_truth (pv 4) (by intro _; rfl))
        (pss_cons (ps_set (i := 5) sc_pl.nd rfl (.inl rfl) (pe_lst pa_nil))
        (pss_cons (ps_for PassesOwn.never rfl (pi_list (pv 4)) (pg_name (i := 1) sc_pl.nd rfl (.inl rfl))
          (pss_one (ps_for PassesOwn.never rfl (pi_tup (pe_ix ix_list (pv 0) (pv 1) (fun _ _ => rfl))) (pg_name (i := 6) sc_pl.nd rfl (.inl rfl))
            (pss_one (ps_if (pt_cmpR op_ne (pv 6) (pe_ix ix_list (pv 2) (pv 1) (fun _ _ => rfl)) (nomark _))
              (pss_cons (ps_asg (pv 1) (pg_sub (pv 2) (pv 6) set_list))
              (pss_cons (ps_asg (pe_op op_add (pe_ix ix_list (pv 3) (pv 1) (fun _ _ => rfl)) pe_int) (pg_sub (pv 3) (pv 6) set_list))
              (pss_one (ps_expr (pe_bm PySem.F.plainAttrs_list PySem.F.slot_list_append PySem.F.type_list_append mt_append (pv 5) (pa_cons (pv 6) pa_nil)))))) pss_nil)))))
        (pss_one (ps_set (i := 4) sc_pl.nd rfl (.inl rfl) (pv 5))))))
      (pss_one (ps_ret (pe_tup (pa_cons (pv 2) (pa_cons (pv 3) pa_nil)))))))), ?_⟩
    have lts : (ts.map V.ref).length = tr.length + 1 := by rw [List.length_map, hts]
    refine ⟨_, rfl, a, rfl, ⟨_, hS⟩, fun Aa nA => ?_⟩
    refine lc_list (K := K) (a := a) (xs := ts.map V.ref) (fun i H' => H' = upd H Aa (.lst (vec i fun _ => 0))) rfl (fun i H' _ e => by rw [e]; exact (same_upd nA _).seq hS) (fun i v H' hv e => ?_) fun H1 e => ?_
    · subst e
      have hi := (List.getElem?_eq_some_iff.mp hv).1
      exact ⟨rfl, _, upd_same, by rw [vec_len, sizeLine_eq]; omega, by rw [upd_upd, vec_snoc]; rfl⟩
    have s1 : Same H H1 := e ▸ same_upd nA _
    have hA1 : H1 Aa = some (.lst (vec (tr.length + 1) fun _ => 0)) := by rw [e, lts]; exact upd_same
    clear e
    refine ⟨_, rfl, a, rfl, ⟨_, s1.seq hS⟩, fun L nL1 => ?_⟩
    refine lc_list (K := K) (a := a) (xs := ts.map V.ref) (fun i H' => H' = upd H1 L (.lst (vec i fun _ => 0))) rfl (fun i H' _ e => by rw [e]; exact (same_upd nL1 _).seq (s1.seq hS)) (fun i v H' hv e => ?_) fun H2 e => ?_
    · subst e
      have hi := (List.getElem?_eq_some_iff.mp hv).1
      exact ⟨rfl, _, upd_same, by rw [vec_len, sizeLine_eq]; omega, by rw [upd_upd, vec_snoc]; rfl⟩
    have s2 : Same H1 H2 := e ▸ same_upd nL1 _
    have hL2 : H2 L = some (.lst (vec (tr.length + 1) fun _ => 0)) := by rw [e, lts]; exact upd_same
    clear e
    have nAL : Aa ≠ L := fun z => by rw [← z, hA1] at nL1; cases nL1
    have tw0 : Two H H2 Aa L (tr.length + 1) (fun _ => 0) (fun _ => 0) := ⟨s1.trans s2, nA, s1.free nL1, nAL, s2 _ _ hA1, hL2⟩
    clear s1 s2 hA1 hL2 nL1
    refine ⟨by show 1 ≤ sizeLine; rw [sizeLine_eq]; decide, fun lr nlr => ?_⟩
    have l0A : lr ≠ Aa := fun z => by rw [z, tw0.hA] at nlr; cases nlr
    have l0L : lr ≠ L := fun z => by rw [z, tw0.hL] at nlr; cases nlr
    have tw1 := tw0.ext (same_upd nlr (.lst [V.int 0]))
    have hlr1 := upd_same (H := H2) (a := lr) (o := .lst [V.int 0])
    have nlrH := tw0.same.free nlr
    generalize upd H2 lr (.lst [V.int 0]) = H3 at tw1 hlr1
    clear tw0 nlr H1 H2
    have tw2 : Two H H3 Aa L (tr.length + 1) (fA tr 0) (gA tr 0) := tw1.cong (fun v hv => by
        show 0 = if dep tr v ≤ 0 then p0 tr v else 0
        by_cases c : v = 0
        · subst c
          rfl
        · rw [if_neg (by rw [dep_succ T (by omega)]; omega)]) (fun v hv => by
        show 0 = if dep tr v ≤ 0 then dep tr v else 0
        split <;> omega)
    refine ⟨fun m σ H' => ∃ (k : Nat) (lr : Addr) (x1 x5 x6 : Option V), m = tr.length + 1 - k ∧ k ≤ tr.length + 1 ∧ σ = [some (.ref a), x1, some (.ref Aa), some (.ref L), some (.ref lr), x5, x6] ∧ Two H H' Aa L (tr.length + 1) (fA tr k) (gA tr k) ∧ H' lr = some (.lst ((lay tr k).map iv)) ∧ lr ≠ Aa ∧ lr ≠ L ∧ H lr = none,
      ⟨tr.length + 1, 0, lr, none, none, none, rfl, Nat.zero_le _, rfl, tw2, hlr1, l0A, l0L, nlrH⟩, ?_⟩
    clear tw1 tw2 hlr1 l0A l0L nlrH lr H3
    rintro m σ H1 ⟨kk, lr, x1, x5, x6, rfl, hk, rfl, tw, hlr, lA, lL, nlr⟩
    refine ⟨_, rfl, _, .inl ⟨_, SqL.of hlr, rfl⟩, ?_⟩
    refine ite2 (fun hc => ?_) (fun hc => ?_)
    · have hne : lay tr kk ≠ [] := fun z => by rw [z] at hc; cases hc
      have hkl := lay_lt T hne
      refine ⟨fun σ' H' => ∃ (lr : Addr) (x1 x5 x6 : Option V), σ' = [some (.ref a), x1, some (.ref Aa), some (.ref L), some (.ref lr), x5, x6] ∧ Two H H' Aa L (tr.length + 1) (fA tr (kk + 1)) (gA tr (kk + 1)) ∧ H' lr = some (.lst ((lay tr (kk + 1)).map iv)) ∧ lr ≠ Aa ∧ lr ≠ L ∧ H lr = none,
        fun σ' H' ⟨lr, x1, x5, x6, e, t, h1, h2, h3, h4⟩ => ⟨tr.length + 1 - (kk + 1), by omega, kk + 1, lr, x1, x5, x6, rfl, by omega, e, t, h1, h2, h3, h4⟩, ?_⟩
      refine ⟨by show 0 ≤ sizeLine; exact Nat.zero_le _, fun b nb1 => ?_⟩
      have bA : b ≠ Aa := fun z => by rw [z, tw.hA] at nb1; cases nb1
      have bL : b ≠ L := fun z => by rw [z, tw.hL] at nb1; cases nb1
      have bl : b ≠ lr := fun z => by rw [z, hlr] at nb1; cases nb1
      have nbH := tw.same.free nb1
      have tw1 := tw.ext (same_upd nb1 (.lst []))
      have hb1 := upd_same (H := H1) (a := b) (o := .lst [])
      have hlr1 := same_upd nb1 (.lst []) _ _ hlr
      generalize upd H1 b (.lst []) = H2 at tw1 hb1 hlr1
      clear tw hlr nb1 H1
      have S0 : St3 H H2 Aa L lr b tr kk [] := ⟨tw1.cong (fun v _ => by simp [fB]) (fun v _ => by simp [gB]), hlr1, hb1⟩
      clear tw1 hb1 hlr1
      refine ⟨_, rfl, lr, rfl, ⟨_, SqL.of S0.hlr⟩, for_list (K := K) (a := lr) (xs := (lay tr kk).map iv) (fun i σ H' => ∃ (x1 x6 : Option V), σ = [some (.ref a), x1, some (.ref Aa), some (.ref L), some (.ref lr), some (.ref b), x6] ∧ St3 H H' Aa L lr b tr kk (((lay tr kk).take i).flatMap (kids tr)))
        ⟨_, _, rfl, S0⟩ (fun i σ H' _ ⟨_, _, _, S⟩ => SqL.of S.hlr) ?_ ?_⟩
      · rintro i v σ H' hv ⟨x1, x6, rfl, S⟩
        obtain ⟨st, hst, rfl⟩ := map_got hv
        obtain ⟨hst1, hst2⟩ := (mem_lay T).mp (List.mem_of_getElem? hst)
        obtain ⟨t, ht⟩ : ∃ t, ts[st]? = some t := ⟨_, List.getElem?_eq_getElem (by omega)⟩
        have hHt := hT st t ht
        have blk : ∀ w ∈ ((lay tr kk).take i).flatMap (kids tr), dep tr w = kk + 1 := fun w hw => by
          obtain ⟨u, hu, hw⟩ := List.mem_flatMap.mp hw
          obtain ⟨w1, w2, w3⟩ := (mem_kids T).mp hw
          rw [dep_succ T w1, w2, ((mem_lay T).mp (List.mem_of_mem_take hu)).2]
        have bll := flat_take tr kk i
        have bl2 := lay_len T (kk + 1)
        generalize hbl : ((lay tr kk).take i).flatMap (kids tr) = B at S blk bll
        refine ⟨_, rfl, _, rfl, a, _, _, _, rfl, rfl, S.two.same.seq hS, atN (map_get ht), t, rfl, ⟨_, SqT.of (S.two.same _ _ hHt)⟩, for_tup (K := K) (a := t) (xs := (nb tr st).map iv) (fun j σ H' => ∃ (x6 : Option V), σ = [some (.ref a), some (iv st), some (.ref Aa), some (.ref L), some (.ref lr), some (.ref b), x6] ∧ St3 H H' Aa L lr b tr kk (B ++ ((nb tr st).take j).filter fun w => decide (w ≠ p0 tr st)))
          ⟨_, rfl, by simpa using S⟩ (fun j σ H' _ ⟨_, _, S⟩ => SqT.of (S.two.same _ _ hHt)) ?_ ?_⟩
        · rintro j v σ H' hv ⟨x6, rfl, S⟩
          obtain ⟨nw, hw, rfl⟩ := map_got hv
          have hnb : ((nb tr st).take (j + 1)).filter (fun w => decide (w ≠ p0 tr st)) = ((nb tr st).take j).filter (fun w => decide (w ≠ p0 tr st)) ++ [nw].filter (fun w => decide (w ≠ p0 tr st)) := by
            rw [take_snoc hw, List.filter_append]
          have blk2 : ∀ w ∈ B ++ ((nb tr st).take j).filter (fun w => decide (w ≠ p0 tr st)), dep tr w = kk + 1 := fun w hw => by
            rcases List.mem_append.mp hw with hw | hw
            · exact blk w hw
            · have hw2 : w ∈ kids tr st := by
                have := List.mem_filter.mp hw
                exact List.mem_filter.mpr ⟨List.mem_of_mem_take this.1, this.2⟩
              obtain ⟨w1, w2, w3⟩ := (mem_kids T).mp hw2
              rw [dep_succ T w1, w2, hst2]
          have len2 : ((B ++ ((nb tr st).take j).filter (fun w => decide (w ≠ p0 tr st))).map iv).length < sizeLine := by
            rw [List.length_map, List.length_append, sizeLine_eq]
            have h1 := List.length_filter_le (fun w => decide (w ≠ p0 tr st)) ((nb tr st).take j)
            rw [List.length_take] at h1
            have h2 := nb_len tr st
            omega
          generalize hB2 : B ++ ((nb tr st).take j).filter (fun w => decide (w ≠ p0 tr st)) = B2 at S blk2 len2
          have stB : st ∉ B2 := fun z => by have := blk2 st z; omega
          have fst : fB tr kk B2 st = p0 tr st := by
            unfold fB fA
            rw [if_neg stB, if_pos (by omega)]
          have gst : gB tr kk B2 st = kk := by
            unfold gB gA
            rw [if_neg stB, if_pos (by omega), hst2]
          have hA := S.two.hA
          refine ⟨_, rfl, _, rfl, _, rfl, Aa, _, _, _, rfl, rfl, SqL.of hA, atN (vec_get (by omega)), rfl, _, rfl, ?_⟩
          rw [fst]
          refine ite2 (fun hd => ?_) (fun hd => ?_)
          · have hne : nw ≠ p0 tr st := fun z => by rw [z] at hd; simp at hd
            have hkid : nw ∈ kids tr st := List.mem_filter.mpr ⟨List.mem_of_getElem? hw, decide_eq_true hne⟩
            obtain ⟨w1, w2, w3⟩ := (mem_kids T).mp hkid
            have dw : dep tr nw = kk + 1 := by rw [dep_succ T w1, w2, hst2]
            refine ⟨_, rfl, _, rfl, _, rfl, Aa, _, _, nw, rfl, rfl, hA, by rw [vec_len]; exact ixN_lt (by omega), ?_⟩
            rw [vec_set]
            have hL := S.two.hL
            have hb := S.hb
            have hlr := S.hlr
            have sm := same_old S.two.same S.two.nA (.lst (vec (tr.length + 1) fun v => if v = nw then st else fB tr kk B2 v))
            have hL' : upd H' Aa (.lst (vec (tr.length + 1) fun v => if v = nw then st else fB tr kk B2 v)) L = some (.lst (vec (tr.length + 1) (gB tr kk B2))) := by rw [upd_ne nAL.symm]; exact hL
            have hb' : upd H' Aa (.lst (vec (tr.length + 1) fun v => if v = nw then st else fB tr kk B2 v)) b = some (.lst (B2.map iv)) := by rw [upd_ne bA]; exact hb
            have hlr' : upd H' Aa (.lst (vec (tr.length + 1) fun v => if v = nw then st else fB tr kk B2 v)) lr = some (.lst ((lay tr kk).map iv)) := by rw [upd_ne lA]; exact hlr
            have hA' := upd_same (H := H') (a := Aa) (o := .lst (vec (tr.length + 1) fun v => if v = nw then st else fB tr kk B2 v))
            generalize upd H' Aa (.lst (vec (tr.length + 1) fun v => if v = nw then st else fB tr kk B2 v)) = H4 at sm hL' hb' hlr' hA'
            refine ⟨_, rfl, _, rfl, L, _, _, _, rfl, rfl, SqL.of hL', atN (vec_get (by omega)), _, _, rfl, rfl, _, rfl, _, rfl, L, _, _, nw, rfl, rfl, hL', by rw [vec_len]; exact ixN_lt (by omega), ?_⟩
            have ev : V.int (((gB tr kk B2 st : Nat) : Int) + 1) = iv (dep tr nw) := by
              rw [gst, dw]
              rfl
            generalize hz : (fun i j : Int => V.int (i + j)) ((gB tr kk B2 st : Nat) : Int) 1 = z
            have hz2 : z = iv (dep tr nw) := by rw [← hz]; exact ev
            subst hz2
            rw [vec_set]
            have sm2 := same_old sm S.two.nL (.lst (vec (tr.length + 1) fun v => if v = nw then dep tr nw else gB tr kk B2 v))
            have hA2 : upd H4 L (.lst (vec (tr.length + 1) fun v => if v = nw then dep tr nw else gB tr kk B2 v)) Aa = some (.lst (vec (tr.length + 1) fun v => if v = nw then st else fB tr kk B2 v)) := by rw [upd_ne nAL]; exact hA'
            have hb2 : upd H4 L (.lst (vec (tr.length + 1) fun v => if v = nw then dep tr nw else gB tr kk B2 v)) b = some (.lst (B2.map iv)) := by rw [upd_ne bL]; exact hb'
            have hlr2 : upd H4 L (.lst (vec (tr.length + 1) fun v => if v = nw then dep tr nw else gB tr kk B2 v)) lr = some (.lst ((lay tr kk).map iv)) := by rw [upd_ne lL]; exact hlr'
            have hL2 := upd_same (H := H4) (a := L) (o := .lst (vec (tr.length + 1) fun v => if v = nw then dep tr nw else gB tr kk B2 v))
            generalize upd H4 L (.lst (vec (tr.length + 1) fun v => if v = nw then dep tr nw else gB tr kk B2 v)) = H5 at sm2 hA2 hb2 hlr2 hL2
            refine ⟨_, rfl, .inl ⟨rfl, _, SqL.of hb2⟩, _, rfl, _, _, _, rfl, rfl, hb2, len2, ?_⟩
            have eB : B ++ ((nb tr st).take (j + 1)).filter (fun w => decide (w ≠ p0 tr st)) = B2 ++ [nw] := by
              rw [hnb, ← List.append_assoc, hB2]
              simp [hne]
            refine ⟨_, rfl, ?_⟩
            rw [eB]
            have cf : ∀ v, v < tr.length + 1 → (if v = nw then st else fB tr kk B2 v) = fB tr kk (B2 ++ [nw]) v := fun v _ => by
              unfold fB
              by_cases c : v = nw
              · subst c
                rw [if_pos rfl, if_pos (by simp), w2]
              · rw [if_neg c]
                by_cases c2 : v ∈ B2
                · rw [if_pos c2, if_pos (by simp [c2])]
                · rw [if_neg c2, if_neg (by simp [c, c2])]
            have cg : ∀ v, v < tr.length + 1 → (if v = nw then dep tr nw else gB tr kk B2 v) = gB tr kk (B2 ++ [nw]) v := fun v _ => by
              unfold gB
              by_cases c : v = nw
              · subst c
                rw [if_pos rfl, if_pos (by simp)]
              · rw [if_neg c]
                by_cases c2 : v ∈ B2
                · rw [if_pos c2, if_pos (by simp [c2])]
                · rw [if_neg c2, if_neg (by simp [c, c2])]
            refine ⟨⟨same_old sm2 nbH _, nA, S.two.nL, nAL, by rw [upd_ne bA.symm, ← vec_cong cf]; exact hA2, by rw [upd_ne bL.symm, ← vec_cong cg]; exact hL2⟩, by rw [upd_ne bl.symm]; exact hlr2, by rw [upd_same, List.map_append]; rfl⟩
          · have he : nw = p0 tr st := by
              by_cases c : nw = p0 tr st
              · exact c
              · exfalso
                apply hd
                have : ¬ (iv nw = iv (p0 tr st)) := fun z => c (iv_inj.mp z)
                simp [this]
            have eB : B ++ ((nb tr st).take (j + 1)).filter (fun w => decide (w ≠ p0 tr st)) = B2 := by
              rw [hnb, ← List.append_assoc, hB2]
              simp [he]
            refine ⟨_, rfl, ?_⟩
            rw [eB]
            exact S
        · rintro σ H' ⟨x6, rfl, S⟩
          refine ⟨_, _, rfl, ?_⟩
          rw [take_snoc hst, List.flatMap_append, hbl]
          have e1 : (nb tr st).take ((nb tr st).map iv).length = nb tr st := List.take_of_length_le (by rw [List.length_map]; exact Nat.le_refl _)
          rw [e1] at S
          have e2 : [st].flatMap (kids tr) = kids tr st := by simp
          rw [e2]
          exact S
      · rintro σ H' ⟨x1, x6, rfl, S⟩
        have e1 : (lay tr kk).take ((lay tr kk).map iv).length = lay tr kk := List.take_of_length_le (by rw [List.length_map]; exact Nat.le_refl _)
        rw [e1] at S
        have S : St3 H H' Aa L lr b tr kk (lay tr (kk + 1)) := S
        refine ⟨_, rfl, b, _, _, _, rfl, S.two.cong (fun v hv => ?_) (fun v hv => ?_), S.hb, bA, bL, nbH⟩
        · unfold fB fA
          by_cases c : v ∈ lay tr (kk + 1)
          · obtain ⟨c1, c2⟩ := (mem_lay T).mp c
            rw [if_pos c, if_pos (by omega)]
            unfold p0
            rw [if_neg]
            rintro rfl
            rw [dep_zero] at c2
            cases c2
          · rw [if_neg c]
            have c2 : dep tr v ≠ kk + 1 := fun z => c ((mem_lay T).mpr ⟨by omega, z⟩)
            by_cases c3 : dep tr v ≤ kk
            · rw [if_pos c3, if_pos (by omega)]
            · rw [if_neg c3, if_neg (by omega)]
        · unfold gB gA
          by_cases c : v ∈ lay tr (kk + 1)
          · obtain ⟨c1, c2⟩ := (mem_lay T).mp c
            rw [if_pos c, if_pos (by omega)]
          · rw [if_neg c]
            have c2 : dep tr v ≠ kk + 1 := fun z => c ((mem_lay T).mpr ⟨by omega, z⟩)
            by_cases c3 : dep tr v ≤ kk
            · rw [if_pos c3, if_pos (by omega)]
            · rw [if_neg c3, if_neg (by omega)]
    · have he : lay tr kk = [] := by
        cases e : lay tr kk with
        | nil => rfl
        | cons x r =>
          exfalso
          apply hc
          rw [e]
          rfl
      have hd := fun v (hv : v < tr.length + 1) => lay_none T he v v (Nat.le_refl _) (by omega)
      refine ⟨_, rfl, _, rfl, by show 2 ≤ sizeLine; rw [sizeLine_eq]; decide, fun t nt => ?_⟩
      refine k t Aa L _ ((tw.ext (same_upd nt _)).cong (fun v hv => ?_) (fun v hv => ?_)) upd_same
      · have := hd v hv
        unfold fA
        rw [if_pos (by omega)]
      · have := hd v hv
        unfold gA
        rw [if_pos (by omega)]
end
end TR

namespace TR
/-- tr2: the same tracks, each with the smaller end first, in some order -/
structure Norm (tr tr2 : List E2) : Prop where
  pm : tr2.Perm (tr.map fun e => (mn e, mx e))
theorem mx_norm (e : E2) : mx (mn e, mx e) = mx e := by
  unfold mx mn
  simp only
  omega
namespace Norm
variable {tr tr2 : List E2}
theorem len (n : Norm tr tr2) : tr2.length = tr.length := by rw [n.pm.length_eq, List.length_map]
theorem adj (n : Norm tr tr2) {a b : Nat} : Adj tr2 a b ↔ Adj tr a b := by
  have key : ∀ {x y : Nat}, (x, y) ∈ tr2 → Adj tr x y := fun {x y} h => by
    have h2 := n.pm.mem_iff.mp h
    obtain ⟨e, he, q⟩ := List.mem_map.mp h2
    have q1 : mn e = x := congrArg Prod.fst q
    have q2 : mx e = y := congrArg Prod.snd q
    rcases ends e with ⟨e1, e2⟩ | ⟨e1, e2⟩
    · exact .inr (by rw [← q1, ← q2, ← e1, ← e2]; exact he)
    · exact .inl (by rw [← q1, ← q2, ← e1, ← e2]; exact he)
  have back : ∀ {x y : Nat}, (x, y) ∈ tr → Adj tr2 x y := fun {x y} h => by
    have h2 : (mn (x, y), mx (x, y)) ∈ tr2 := n.pm.mem_iff.mpr (List.mem_map.mpr ⟨_, h, rfl⟩)
    rcases ends (x, y) with ⟨e1, e2⟩ | ⟨e1, e2⟩
    · have e1 : x = mx (x, y) := e1
      have e2 : y = mn (x, y) := e2
      exact .inr (by rw [← e1, ← e2] at h2; exact h2)
    · have e1 : x = mn (x, y) := e1
      have e2 : y = mx (x, y) := e2
      exact .inl (by rw [← e1, ← e2] at h2; exact h2)
  constructor
  · rintro (h | h)
    · exact key h
    · exact (key h).symm
  · rintro (h | h)
    · exact back h
    · exact (back h).symm
theorem tree (n : Norm tr tr2) (T : TreeL tr) : TreeL tr2 := by
  refine ⟨fun e he => ?_, ?_⟩
  · obtain ⟨d, hd, q⟩ := List.mem_map.mp (n.pm.mem_iff.mp he)
    rw [← q]
    have := mn_lt (T.ne d hd)
    show mn d ≠ mx d
    omega
  · rw [n.len]
    refine (n.pm.map mx).trans ?_
    rw [List.map_map]
    have : tr.map (mx ∘ fun e => (mn e, mx e)) = tr.map mx := List.map_congr_left fun e _ => mx_norm e
    rw [this]
    exact T.pm
end Norm
theorem idxOf_get {l : List Nat} (nd : l.Nodup) {i p : Nat} (h : l[i]? = some p) : l.idxOf p = i := by
  have hm := List.mem_of_getElem? h
  have hl := List.idxOf_lt_length_of_mem hm
  have h2 : l[l.idxOf p]? = some p := by
    rw [List.getElem?_eq_getElem hl]
    exact congrArg some (List.getElem_idxOf hl)
  exact (List.getElem?_inj hl nd).mp (h2.trans h.symm)
end TR

namespace TR
open PySem PySem.Spec PyProof.Rows L2 L2.TT StX ClX
theorem f01 : ¬ (("_tracks" : Str) = "_neighbours") := by decide +kernel
theorem f02 : ¬ (("_tracks" : Str) = "_above") := by decide +kernel
theorem f03 : ¬ (("_tracks" : Str) = "_levels") := by decide +kernel
theorem f12 : ¬ (("_neighbours" : Str) = "_above") := by decide +kernel
theorem f13 : ¬ (("_neighbours" : Str) = "_levels") := by decide +kernel
theorem f23 : ¬ (("_above" : Str) = "_levels") := by decide +kernel
def flR (tt na A L : Addr) : List (Str × V) := putF "_levels" (.ref L) (putF "_above" (.ref A) (putF "_neighbours" (.ref na) (putF "_tracks" (.ref tt) [])))
theorem flR_t {tt na A L : Addr} : (flR tt na A L).lookup ("_tracks" : Str) = some (.ref tt) := by
  unfold flR
  rw [lookup_putF, if_neg f03, lookup_putF, if_neg f02, lookup_putF, if_neg f01, lookup_putF, if_pos rfl]
theorem flR_n {tt na A L : Addr} : (flR tt na A L).lookup ("_neighbours" : Str) = some (.ref na) := by
  unfold flR
  rw [lookup_putF, if_neg f13, lookup_putF, if_neg f12, lookup_putF, if_pos rfl]
theorem flR_a {tt na A L : Addr} : (flR tt na A L).lookup ("_above" : Str) = some (.ref A) := by
  unfold flR
  rw [lookup_putF, if_neg f23, lookup_putF, if_pos rfl]
theorem flR_l {tt na A L : Addr} : (flR tt na A L).lookup ("_levels" : Str) = some (.ref L) := by
  unfold flR
  rw [lookup_putF, if_pos rfl]
theorem flR_no {tt na A L : Addr} {m : Str} (h0 : ¬ m = "_tracks") (h1 : ¬ m = "_neighbours") (h2 : ¬ m = "_above") (h3 : ¬ m = "_levels") : (flR tt na A L).lookup m = none := by
  unfold flR
  rw [lookup_putF, if_neg h3, lookup_putF, if_neg h2, lookup_putF, if_neg h1, lookup_putF, if_neg h0]
  rfl
/-- at r: a railway with the tracks tr (normed) -/
structure RailAt (C : Addr) (H : Hp) (r : Addr) (tr : List E2) : Prop where
  T : TreeL tr
  few : tr.length ≤ 99
  ex : ∃ (dx tt na A L : Addr) (ps ts : List Addr), H r = some (.ins C dx (flR tt na A L)) ∧ H tt = some (.tup (ps.map V.ref)) ∧ Prs H ps tr ∧ H na = some (.lst (ts.map V.ref)) ∧ ts.length = tr.length + 1 ∧
    (∀ (v : Nat) (t : Addr), ts[v]? = some t → H t = some (.tup ((nb tr v).map iv))) ∧ H A = some (.lst (vec (tr.length + 1) (p0 tr))) ∧ H L = some (.lst (vec (tr.length + 1) (dep tr)))
theorem RailAt.same {C : Addr} {H H' : Hp} {r : Addr} {tr : List E2} (R : RailAt C H r tr) (s : Same H H') : RailAt C H' r tr := by
  obtain ⟨T, few, dx, tt, na, A, L, ps, ts, h1, h2, h3, h4, h5, h6, h7, h8⟩ := R
  exact ⟨T, few, dx, tt, na, A, L, ps, ts, s _ _ h1, s _ _ h2, h3.same s, s _ _ h4, h5, fun v t h => s _ _ (h6 v t h), s _ _ h7, s _ _ h8⟩
/-- what the top has made of the class -/
structure TxtR (K : PySem.W.Frag) (mg : Str → Option Value) (C : Addr) : Prop where
  cl : Cls K C
  nT : NoAttr K C "_tracks"
  nN : NoAttr K C "_neighbours"
  nA : NoAttr K C "_above"
  nL : NoAttr K C "_levels"
  mgC : mg "Railway" = some (.ref C)
  cr : ∃ mc t, CRead K C mc ∧ CVal K C mc "MOST_STATIONS" (.int 100) (.int 100 t)
theorem maxK {X : Cx} {K : PySem.W.Frag} (h : X.K = K) (hc : X.calm = true) : CallR X (.builtin "max") (rMaxP K) := by
  subst h
  exact cr_maxP hc
theorem minK {X : Cx} {K : PySem.W.Frag} (h : X.K = K) (hc : X.calm = true) : CallR X (.builtin "min") (rMinP K) := by
  subst h
  exact cr_minP hc
theorem Prs.snoc {H : Hp} {qs : List Addr} {l : List E2} {q : Addr} {e : E2} (h : Prs H qs l) (hq : H q = some (.tup [iv e.1, iv e.2])) : Prs H (qs ++ [q]) (l ++ [e]) := by
  refine ⟨by rw [List.length_append, List.length_append, h.1]; rfl, fun i p d hp hd => ?_⟩
  rcases get_snoc hp with hp | ⟨e1, e2⟩
  · rcases get_snoc hd with hd | ⟨e3, e4⟩
    · exact h.2 i p d hp hd
    · exfalso
      have := (List.getElem?_eq_some_iff.mp hp).1
      rw [h.1] at this
      omega
  · rcases get_snoc hd with hd | ⟨e3, e4⟩
    · exfalso
      have := (List.getElem?_eq_some_iff.mp hd).1
      rw [h.1] at e1
      omega
    · rw [e2, e4]
      exact hq
def nrm (e : E2) : E2 := (mn e, mx e)
def unref : V → Addr
  | .ref p => p
  | _ => 0
theorem refs_perm {ys : List V} {qs : List Addr} (h : ys.Perm (qs.map V.ref)) : ∃ ps : List Addr, ys = ps.map V.ref ∧ ps.Perm qs := by
  refine ⟨ys.map unref, ?_, ?_⟩
  · rw [List.map_map]
    symm
    calc ys.map (V.ref ∘ unref) = ys.map id := List.map_congr_left fun y hy => by
          obtain ⟨q, _, rfl⟩ := List.mem_map.mp (h.mem_iff.mp hy)
          rfl
      _ = ys := List.map_id _
  · have := h.map unref
    rw [List.map_map] at this
    have e : qs.map (unref ∘ V.ref) = qs := by
      calc qs.map (unref ∘ V.ref) = qs.map id := List.map_congr_left fun _ _ => rfl
        _ = qs := List.map_id _
    rw [e] at this
    exact this
def edOf (qs : List Addr) (l : List E2) (p : Addr) : E2 := l.getD (qs.idxOf p) (0, 0)
theorem ed_get {H : Hp} {qs : List Addr} {l : List E2} (h : Prs H qs l) (nd : qs.Nodup) {i : Nat} {p : Addr} (hp : qs[i]? = some p) : l[i]? = some (edOf qs l p) := by
  have hl := (List.getElem?_eq_some_iff.mp hp).1
  rw [h.1] at hl
  unfold edOf
  rw [idxOf_get nd hp, List.getD_eq_getElem?_getD, List.getElem?_eq_getElem hl]
  rfl
theorem ed_heap {H : Hp} {qs : List Addr} {l : List E2} (h : Prs H qs l) (nd : qs.Nodup) {p : Addr} (hp : p ∈ qs) : H p = some (.tup [iv (edOf qs l p).1, iv (edOf qs l p).2]) := by
  obtain ⟨i, hi⟩ := List.mem_iff_getElem?.mp hp
  exact h.2 i p _ hi (ed_get h nd hi)
theorem ed_map {H : Hp} {qs : List Addr} {l : List E2} (h : Prs H qs l) (nd : qs.Nodup) : qs.map (edOf qs l) = l := by
  apply List.ext_getElem?
  intro i
  cases e : qs[i]? with
  | none =>
    rw [List.getElem?_map, e]
    have hl := List.getElem?_eq_none_iff.mp e
    rw [h.1] at hl
    exact (List.getElem?_eq_none_iff.mpr hl).symm
  | some p => rw [List.getElem?_map, e, ed_get h nd e]; rfl
def kfOf (qs : List Addr) (l : List E2) : V → Int × Int
  | .ref p => (((edOf qs l p).1 : Nat), ((edOf qs l p).2 : Nat))
  | _ => (0, 0)
def spRI (C : Addr) (K : PySem.W.Frag) : Sp := fun vs H Q _ => ∃ (r dx a : Addr) (ps : List Addr) (tr : List E2), vs = [.ref r, .ref a] ∧ H r = some (.ins C dx []) ∧ SqT K H a (ps.map V.ref) ∧ Prs H ps tr ∧ TreeL tr ∧ tr.length ≤ 99 ∧
  ∀ (tr2 : List E2) (H' : Hp), (∀ b o, H b = some o → b ≠ r → H' b = some o) → Norm tr tr2 → RailAt C H' r tr2 → Q .non H'
section
variable {P : Program} {w : World} {K : PySem.W.Frag} {mg : Str → Option Value} {base : Heap}
abbrev NRi : List Str := ["self", "tracks", "wrong", "track"]
theorem sc_ri : FnScope NRi ((["self"] : List Str) ++ (["tracks"] : List Str)) (defScope s_Railway_init) := ⟨rfl, rfl, rfl, by decide +kernel, rfl, by decide +kernel, by decide +kernel⟩
theorem body_ri {f fF fN fP C : Addr} {fdF fdN fdP : FuncData} (N : Nm mg) (X : TxtR K mg C) (UF : Use P w K mg base CX0 4 "first_wrong_track" fF fdF ["tracks"] (spFirst K)) (UN : Use P w K mg base CX0 1 "_neighbours_of" fN fdN ["tracks"] (spNbs K))
    (UP : Use P w K mg base CX0 1 "_places_below_first" fP fdP ["neighbours"] (spPlaces K)) (cdv : Value) (A : Around) (outer : List Env) (s : Shared) (H : Hp) (vs : List V) (Q : VK) (E : XK)
    (hr : Room 4 (A.deeper (envOfC "Railway.__init__" (defScope s_Railway_init) s.heap.objs.size f cdv))) (h : spRI C K vs H Q E) :
    ∃ t, PSs (cxOf CX0 P w K mg base NRi "Railway.__init__" (defScope s_Railway_init) f cdv A outer s H E).nox (defBody s_Railway_init) t ∧ t { nx := fun _ H' => Q .non H', rt := Q } (start NRi vs) H := by
  obtain ⟨r, dx, a, ps, tr, rfl, hr0, hS, hP, T, hl, k⟩ := h
  obtain ⟨mc, ct, hcr, hcv⟩ := X.cr
  have hr1 : Room 1 (A.deeper (envOfC "Railway.__init__" (defScope s_Railway_init) s.heap.objs.size f cdv)) := hr.mono (by decide)
  refine ⟨_, pss_cons (ps_if (pt_cmpR op_ge (pe_callB call_len_seq (by rfl) N.len PySem.boot_len (pa_cons (pv 1) pa_nil)) (pe_cval (pe_glob (v := .ref C) (by rfl) X.mgC rfl)) (nomark _)) pss_never pss_nil)
    (pss_cons (ps_set (i := 2) sc_ri.nd rfl (.inl rfl) (pe_use UF hr rfl (pa_cons (pv 1) pa_nil)))
    (pss_cons (ps_if (pt_cmpR op_notN (pv 2) pe_non (nomark _)) pss_never pss_nil)
    (pss_cons (ps_fld (pv 0) (pe_callTy call_tuple_of (by rfl) N.tuple boot_tuple (pa_cons (pe_callB cr_sortedPO (by rfl) N.sorted boot_sorted (pa_cons
        (pe_lc (own := [("track", 3)]) (g := gName 3) (tt := tYes) rfl sc_ri.nd (pi_tup (pv 1)) (blkOk_by (N := NRi) (sc := defScope s_Railway_init) (by decide +kernel))
          (fun _ _ _ _ _ => pg_name (i := 3) sc_ri.nd rfl (Or.inl rfl)) (fun _ _ _ _ _ => pts_nil)
          (fun _ _ _ _ _ => pe_tup (pa_cons (pe_callB (minK (K := K) rfl rfl) (by rfl) N.min PyProof.Rows.boot_min (pa_cons (pv 3) pa_nil)) (pa_cons (pe_callB (maxK (K := K) rfl rfl) (by rfl) N.max PyProof.Rows.boot_max (pa_cons (pv 3) pa_nil)) pa_nil)))) pa_nil)) pa_nil)) rfl)
    (pss_cons (ps_fld (pv 0) (pe_use UN hr1 rfl (pa_cons (pe_fld (pv 0) rfl) pa_nil)) rfl)
    (pss_one (ps_asg (pe_use UP hr1 rfl (pa_cons (pe_fld (pv 0) rfl) pa_nil)) (pg_tup rfl (pgs_cons (pg_fld (pv 0)) (pgs_cons (pg_fld (pv 0)) pgs_nil)))))))))  , ?_⟩
  have lp : (ps.map V.ref).length = tr.length := by rw [List.length_map, hP.1]
  refine ⟨_, rfl, a, _, rfl, .inr hS, C, mc, .int 100, _, rfl, hcr, hcv, _, _, rfl, rfl, _, rfl, ?_⟩
  refine iteF' (decide_eq_false (by rw [lp]; omega)) ?_
  refine ⟨_, rfl, a, ps, tr, rfl, hS, hP, T, by omega, fun H1 s1 => ?_⟩
  refine ⟨_, rfl, rfl, _, rfl, ?_⟩
  refine iteNS rfl ?_
  -- the normed tracks
  refine ⟨_, rfl, a, rfl, ⟨_, s1.tp hS⟩, fun D nD => ?_⟩
  have hP1 := hP.same s1
  refine lc_tup (K := K) (a := a) (xs := ps.map V.ref) (fun i H' => ∃ qs, H' D = some (.lst (qs.map V.ref)) ∧ Same H1 H' ∧ Prs H' qs ((tr.take i).map nrm) ∧ qs.Nodup) ⟨[], upd_same, same_upd nD _, ⟨rfl, fun _ _ _ h => by cases h⟩, List.nodup_nil⟩ (fun i H' _ ⟨_, _, s2, _⟩ => s2.tp (s1.tp hS)) ?_ ?_
  · rintro i v H' hv ⟨qs, hD, s2, hQ, nd⟩
    obtain ⟨p, e, rfl, hp, he, hH⟩ := hP1.get hv
    have hH2 := s2 _ _ hH
    refine ⟨rfl, _, rfl, p, _, _, rfl, SqT.of hH2, _, rfl, p, _, _, rfl, SqT.of hH2, by show 2 ≤ sizeLine; rw [sizeLine_eq]; decide, fun q nq => ⟨qs.map V.ref, ?_, ?_, qs ++ [q], ?_, ?_, ?_, ?_⟩⟩
    · have nD2 : D ≠ q := fun z => by rw [← z, hD] at nq; cases nq
      rw [upd_ne nD2]
      exact hD
    · rw [List.length_map, hQ.1, List.length_map, List.length_take, sizeLine_eq]
      omega
    · rw [upd_same, List.map_append]
      rfl
    · exact same_old (s2.trans (same_upd nq _)) nD _
    · have e1 : min (e.1 : Int) (e.2 : Int) = ((nrm e).1 : Nat) := by show _ = ((mn e : Nat) : Int); unfold mn; omega
      have e2 : max (e.1 : Int) (e.2 : Int) = ((nrm e).2 : Nat) := by show _ = ((mx e : Nat) : Int); unfold mx; omega
      have et : (tr.take (i + 1)).map nrm = (tr.take i).map nrm ++ [nrm e] := by rw [take_snoc he, List.map_append]; rfl
      rw [et]
      have qD : q ≠ D := fun z => by rw [z, hD] at nq; cases nq
      have hq1 : upd H' q (.tup [V.int (min (e.1 : Int) (e.2 : Int)), V.int (max (e.1 : Int) (e.2 : Int))]) q = some (.tup [iv (nrm e).1, iv (nrm e).2]) := by rw [upd_same, e1, e2]
      have hQ2 := (hQ.same (same_upd nq (.tup [V.int (min (e.1 : Int) (e.2 : Int)), V.int (max (e.1 : Int) (e.2 : Int))]))).snoc hq1
      refine ⟨hQ2.1, fun j x y hx hy => ?_⟩
      have hxy := hQ2.2 j x y hx hy
      have xD : x ≠ D := fun z => by
        rw [z, upd_ne qD.symm, hD] at hxy
        cases hxy
      exact (upd_ne xD).trans hxy
    · refine nodup_snoc nd fun hm => ?_
      obtain ⟨j, hj⟩ := List.mem_iff_getElem?.mp hm
      have hl := (List.getElem?_eq_some_iff.mp hj).1
      rw [hQ.1] at hl
      have := hQ.2 j q _ hj (List.getElem?_eq_getElem hl)
      rw [nq] at this
      cases this
  rintro H2 ⟨qs, hD, s2, hQ, nd⟩
  have et : (tr.take (ps.map V.ref).length).map nrm = tr.map nrm := by rw [lp, List.take_length]
  rw [et] at hQ
  refine ⟨D, _, kfOf qs (tr.map nrm), rfl, SqL.of hD, fun x hx => ?_, fun ys p hsr hst np => ?_⟩
  · obtain ⟨q, hq, rfl⟩ := List.mem_map.mp hx
    exact ⟨q, rfl, ed_heap hQ nd hq⟩
  obtain ⟨ps2, rfl, hpm⟩ := refs_perm hst.perm
  refine ⟨p, _, rfl, .inl ⟨SqL.of upd_same, fun l nl => ?_⟩⟩
  have s3 := same_upd np (.lst (ps2.map V.ref))
  have s4 := s3.trans (same_upd nl (.tup (ps2.map V.ref)))
  have hl4 := upd_same (H := upd H2 p (.lst (ps2.map V.ref))) (a := l) (o := .tup (ps2.map V.ref))
  generalize upd (upd H2 p (.lst (ps2.map V.ref))) l (.tup (ps2.map V.ref)) = H4 at s4 hl4
  have s04 : Same H H4 := (s1.trans s2).trans s4
  have nm : Norm tr (ps2.map (edOf qs (tr.map nrm))) := by
    refine ⟨?_⟩
    have := hpm.map (edOf qs (tr.map nrm))
    rw [ed_map hQ nd] at this
    exact this
  have hQ4 : Prs H4 ps2 (ps2.map (edOf qs (tr.map nrm))) := by
    refine ⟨(List.length_map _).symm, fun i x y hx hy => ?_⟩
    obtain ⟨x', hx', rfl⟩ := map_got hy
    rw [hx] at hx'
    cases hx'
    exact s4 _ _ (ed_heap hQ nd (hpm.mem_iff.mp (List.mem_of_getElem? hx)))
  generalize ps2.map (edOf qs (tr.map nrm)) = tr2 at nm hQ4
  have T2 := nm.tree T
  have len2 := nm.len
  have hr4 := s04 _ _ hr0
  have lr : l ≠ r := ne_of hl4 hr4 (by intro z; cases z)
  refine ⟨_, rfl, r, C, dx, [], rfl, hr4, X.cl, X.nT, by show 0 < 1000; decide, ?_⟩
  have hr5 := upd_same (H := H4) (a := r) (o := .ins C dx (putF "_tracks" (.ref l) []))
  have k5 : ∀ b o, H4 b = some o → b ≠ r → upd H4 r (.ins C dx (putF "_tracks" (.ref l) [])) b = some o := fun b o e ne => by rw [upd_ne ne]; exact e
  generalize upd H4 r (.ins C dx (putF "_tracks" (.ref l) [])) = H5 at hr5 k5
  have hl5 := k5 _ _ hl4 lr
  have hQ5 : Prs H5 ps2 tr2 := ⟨hQ4.1, fun i x y hx hy => k5 _ _ (hQ4.2 i x y hx hy) (ne_of (hQ4.2 i x y hx hy) hr4 (by intro z; cases z))⟩
  refine ⟨_, rfl, r, C, dx, _, _, rfl, hr5, X.cl, X.nT, by rw [lookup_putF, if_pos rfl], l, ps2, tr2, rfl, SqT.of hl5, hQ5, fun e he => ⟨T2.ne e he, T2.lt1 he⟩, by omega, fun D2 ts H6 s6 R => ?_⟩
  refine ⟨_, rfl, r, C, dx, _, rfl, s6 _ _ hr5, X.cl, X.nN, by show 1 < 1000; decide, ?_⟩
  have hr6 := s6 _ _ hr5
  have hr7 := upd_same (H := H6) (a := r) (o := .ins C dx (putF "_neighbours" (.ref D2) (putF "_tracks" (.ref l) [])))
  have k7 : ∀ b o, H6 b = some o → b ≠ r → upd H6 r (.ins C dx (putF "_neighbours" (.ref D2) (putF "_tracks" (.ref l) []))) b = some o := fun b o e ne => by rw [upd_ne ne]; exact e
  generalize upd H6 r (.ins C dx (putF "_neighbours" (.ref D2) (putF "_tracks" (.ref l) []))) = H7 at hr7 k7
  have hD7 := k7 _ _ R.own (ne_of R.own hr6 (by intro z; cases z))
  have ht7 : ∀ (v : Nat) (t : Addr), ts[v]? = some t → H7 t = some (.tup ((nb tr2 v).map iv)) := fun v t h => k7 _ _ (R.at_ v t h).1 (ne_of (R.at_ v t h).1 hr6 (by intro z; cases z))
  refine ⟨_, rfl, r, C, dx, _, _, rfl, hr7, X.cl, X.nN, by rw [lookup_putF, if_pos rfl], D2, ts, tr2, rfl, SqL.of hD7, R.len, ht7, T2, by omega, fun t Aa L H8 tw ht => ?_⟩
  have hr8 := tw.same _ _ hr7
  refine ⟨t, _, rfl, SqT.of ht, rfl, ?_⟩
  refine ⟨_, _, rfl, _, rfl, r, C, dx, _, rfl, hr8, X.cl, X.nA, by show 2 < 1000; decide, ?_⟩
  refine ⟨_, _, rfl, _, rfl, r, C, dx, _, rfl, upd_same, X.cl, X.nL, by show 3 < 1000; decide, rfl, ?_⟩
  rw [upd_upd]
  have hrF := upd_same (H := H8) (a := r) (o := .ins C dx (putF "_levels" (.ref L) (putF "_above" (.ref Aa) (putF "_neighbours" (.ref D2) (putF "_tracks" (.ref l) [])))))
  have kF : ∀ b o, H8 b = some o → b ≠ r → upd H8 r (.ins C dx (putF "_levels" (.ref L) (putF "_above" (.ref Aa) (putF "_neighbours" (.ref D2) (putF "_tracks" (.ref l) []))))) b = some o := fun b o e ne => by rw [upd_ne ne]; exact e
  generalize upd H8 r (.ins C dx (putF "_levels" (.ref L) (putF "_above" (.ref Aa) (putF "_neighbours" (.ref D2) (putF "_tracks" (.ref l) []))))) = HF at hrF kF
  have all : ∀ b o, H4 b = some o → b ≠ r → HF b = some o := fun b o e ne => kF _ _ (tw.same _ _ (k7 _ _ (s6 _ _ (k5 _ _ e ne)) ne)) ne
  have all7 : ∀ b o, H7 b = some o → b ≠ r → HF b = some o := fun b o e ne => kF _ _ (tw.same _ _ e) ne
  refine k tr2 HF (fun b o e ne => all b o (s04 _ _ e) ne) nm ⟨T2, by omega, dx, l, D2, Aa, L, ps2, ts, hrF, all _ _ hl4 lr, ⟨hQ4.1, fun i x y hx hy => all _ _ (hQ4.2 i x y hx hy) (ne_of (hQ4.2 i x y hx hy) hr4 (by intro z; cases z))⟩,
    all7 _ _ hD7 (ne_of hD7 hr7 (by intro z; cases z)), R.len, fun v t h => all7 _ _ (ht7 v t h) (ne_of (ht7 v t h) hr7 (by intro z; cases z)), kF _ _ tw.hA (ne_of tw.hA hr8 (by intro z; cases z)), kF _ _ tw.hL (ne_of tw.hL hr8 (by intro z; cases z))⟩
end
end TR

namespace TR
section
variable {tr : List E2}
/-- a walk along tracks -/
def Wk (tr : List E2) : List Nat → Prop
  | a :: b :: r => Adj tr a b ∧ Wk tr (b :: r)
  | _ => True
theorem Wk.tail {a : Nat} {l : List Nat} (h : Wk tr (a :: l)) : Wk tr l := by
  cases l with
  | nil => exact trivial
  | cons b r => exact h.2
theorem Wk.snoc : ∀ {l : List Nat} {x y : Nat}, Wk tr (l ++ [x]) → Adj tr x y → Wk tr (l ++ [x] ++ [y])
  | [], x, y, _, h => ⟨h, trivial⟩
  | [a], x, y, h, k => ⟨h.1, k, trivial⟩
  | a :: b :: r, x, y, h, k => ⟨h.1, Wk.snoc (l := b :: r) h.2 k⟩
theorem Wk.glue : ∀ {l r : List Nat} {x : Nat}, Wk tr (l ++ [x]) → Wk tr (x :: r) → Wk tr (l ++ x :: r)
  | [], r, x, _, h => h
  | [a], r, x, h, k => ⟨h.1, k⟩
  | a :: b :: l, r, x, h, k => ⟨h.1, Wk.glue (l := b :: l) h.2 k⟩
theorem Adj.sym {a b : Nat} (h : Adj tr a b) : Adj tr b a := Or.symm h
theorem Wk.rev : ∀ {l : List Nat}, Wk tr l → Wk tr l.reverse
  | [], _ => trivial
  | [a], _ => trivial
  | a :: b :: r, h => by
    have ih := Wk.rev (l := b :: r) h.2
    rw [List.reverse_cons, List.reverse_cons]
    rw [List.reverse_cons] at ih
    exact Wk.snoc ih h.1.sym
structure SW (tr : List E2) (a b : Nat) (l : List Nat) : Prop where
  wk : Wk tr l
  nd : l.Nodup
  hd : l.head? = some a
  lt : l.getLast? = some b
theorem SW.one (a : Nat) : SW tr a a [a] := ⟨trivial, by simp, rfl, rfl⟩
theorem SW.mem {a b : Nat} {l : List Nat} (s : SW tr a b l) : b ∈ l := List.mem_of_getLast? s.lt
theorem SW.snoc {a b c : Nat} {l : List Nat} (s : SW tr a b l) (h : Adj tr b c) (hn : c ∉ l) : SW tr a c (l ++ [c]) := by
  obtain ⟨wk, nd, hd, lt⟩ := s
  have hne : l ≠ [] := by rintro rfl; cases hd
  obtain ⟨l', e⟩ : ∃ l', l = l' ++ [b] := by
    rw [List.getLast?_eq_some_iff] at lt
    exact lt
  refine ⟨?_, ?_, ?_, by simp⟩
  · rw [e] at wk ⊢
    exact wk.snoc h
  · rw [List.nodup_append]
    refine ⟨nd, by simp, fun x hx y hy => ?_⟩
    rw [List.mem_singleton] at hy
    rintro rfl
    exact hn (hy ▸ hx)
  · rw [List.head?_append, hd]
    rfl
theorem desc_lin {p : Nat → Nat} {x y b : Nat} (h : Desc p x b) (k : Desc p y b) : Desc p x y ∨ Desc p y x := by
  induction h with
  | self => exact .inr k
  | @up b hb d ih =>
    cases k with
    | self => exact .inl (.up hb d)
    | up _ k => exact ih k
theorem desc_tr {p : Nat → Nat} {a x b : Nat} (hx : 0 < x) (e : p x = a) (h : Desc p x b) : Desc p a b := by
  induction h with
  | self => exact .up hx (e ▸ .self)
  | up hb _ ih => exact .up hb ih
theorem sib {p : Nat → Nat} (hp : ∀ a, 0 < a → p a < a) {x y b : Nat} (hx : 0 < x) (hy : 0 < y) (e : p x = p y) (h : Desc p x b) (k : Desc p y b) : x = y := by
  have key : ∀ {x y : Nat}, 0 < x → 0 < y → p x = p y → Desc p x y → x = y := fun {x y} hx hy e d => by
    by_cases c : y = x
    · exact c.symm
    · have d2 := (Desc.step hy c).mp d
      rw [← e] at d2
      have := d2.ge hp
      have := hp x hx
      omega
  rcases desc_lin h k with d | d
  · exact key hx hy e d
  · exact (key hy hx e.symm d).symm
theorem walk_out (T : TreeL tr) {a : Nat} : ∀ {l : List Nat} {x : Nat}, Wk tr (x :: l) → a ∉ x :: l → ¬ Desc (par tr) a x → ∀ z ∈ x :: l, ¬ Desc (par tr) a z
  | [], x, _, _, h, z, hz => by
    rw [List.mem_singleton] at hz
    rw [hz]
    exact h
  | y :: l, x, w, na, h, z, hz => by
    rcases List.mem_cons.mp hz with rfl | hz
    · exact h
    · refine walk_out T (x := y) w.2 (fun m => na (List.mem_cons_of_mem _ m)) ?_ z hz
      have nya : y ≠ a := fun e => na (by simp [e])
      intro d
      rcases adj_par T w.1 with ⟨h1, h2, _⟩ | ⟨h1, h2, _⟩
      · exact h (.up h1 (h2 ▸ d))
      · exact h (h2 ▸ (Desc.step h1 nya).mp d)
theorem walk_in (T : TreeL tr) {c : Nat} : ∀ {l : List Nat} {x : Nat}, Wk tr (x :: l) → par tr c ∉ x :: l → Desc (par tr) c x → ∀ z ∈ x :: l, Desc (par tr) c z
  | [], x, _, _, h, z, hz => by
    rw [List.mem_singleton] at hz
    rw [hz]
    exact h
  | y :: l, x, w, na, h, z, hz => by
    rcases List.mem_cons.mp hz with rfl | hz
    · exact h
    · refine walk_in T (x := y) w.2 (fun m => na (List.mem_cons_of_mem _ m)) ?_ z hz
      rcases adj_par T w.1 with ⟨h1, h2, _⟩ | ⟨h1, h2, _⟩
      · by_cases e : x = c
        · exfalso
          apply na
          rw [← e, ← h2]
          simp
        · rw [h2]
          exact (Desc.step h1 e).mp h
      · exact .up h1 (h2 ▸ h)
/-- between two stations there is one walk without repetition -/
theorem SW.uniq (T : TreeL tr) {b : Nat} : ∀ {l l' : List Nat} {a : Nat}, SW tr a b l → SW tr a b l' → l = l'
  | [], _, _, s, _ => by cases s.hd
  | _, [], _, _, s => by cases s.hd
  | a0 :: t, a1 :: t', a, s, s' => by
    have e0 : a0 = a := Option.some.inj s.hd
    have e1 : a1 = a := Option.some.inj s'.hd
    subst e0 e1
    have one : ∀ {t : List Nat}, SW tr a1 b (a1 :: t) → a1 = b → t = [] := fun {t} s e => by
      cases t with
      | nil => rfl
      | cons x r =>
        exfalso
        have hb : b ∈ x :: r := by
          have := s.lt
          rw [List.getLast?_cons_cons] at this
          exact List.mem_of_getLast? this
        rw [← e] at hb
        exact (List.nodup_cons.mp s.nd).1 hb
    by_cases c : a1 = b
    · rw [one s c, one s' c]
    · cases t with
      | nil => exact absurd (Option.some.inj s.lt) c
      | cons x r =>
        cases t' with
        | nil => exact absurd (Option.some.inj s'.lt) c
        | cons x' r' =>
          have sub : ∀ {x : Nat} {r : List Nat}, SW tr a1 b (a1 :: x :: r) → SW tr x b (x :: r) ∧ a1 ∉ x :: r ∧ Adj tr a1 x := fun {x r} s =>
            ⟨⟨s.wk.2, (List.nodup_cons.mp s.nd).2, rfl, by have := s.lt; rw [List.getLast?_cons_cons] at this; exact this⟩, (List.nodup_cons.mp s.nd).1, s.wk.1⟩
          obtain ⟨s1, n1, j1⟩ := sub s
          obtain ⟨s2, n2, j2⟩ := sub s'
          have hp : ∀ a, 0 < a → par tr a < a := fun a h => T.par_lt h
          have out : ∀ {x : Nat} {r : List Nat}, SW tr x b (x :: r) → a1 ∉ x :: r → 0 < a1 → x = par tr a1 → ¬ Desc (par tr) a1 b := fun {x r} s n h e => by
            refine walk_out T s.wk n ?_ b s.mem
            intro d
            have := d.ge hp
            have := T.par_lt h
            omega
          have inn : ∀ {x : Nat} {r : List Nat}, SW tr x b (x :: r) → a1 ∉ x :: r → a1 = par tr x → Desc (par tr) x b := fun {x r} s n e => walk_in T s.wk (e ▸ n) .self b s.mem
          have exx : x = x' := by
            rcases adj_par T j1 with ⟨h1, h2, _⟩ | ⟨h1, h2, _⟩
            · rcases adj_par T j2 with ⟨k1, k2, _⟩ | ⟨k1, k2, _⟩
              · rw [h2, k2]
              · exact absurd (desc_tr k1 k2.symm (inn s2 n2 k2)) (out s1 n1 h1 h2)
            · rcases adj_par T j2 with ⟨k1, k2, _⟩ | ⟨k1, k2, _⟩
              · exact absurd (desc_tr h1 h2.symm (inn s1 n1 h2)) (out s2 n2 k1 k2)
              · exact sib hp h1 k1 (h2.symm.trans k2) (inn s1 n1 h2) (inn s2 n2 k2)
          subst exx
          rw [SW.uniq T s1 s2]
end
end TR

namespace TR
open PySem PySem.Spec PyProof.Rows L2 L2.TT StX ClX
def spRail (C : Addr) : Sp := fun vs H Q _ => ∃ (r dx : Addr) (ps : List Addr) (tr : List E2), vs = .ref r :: ps.map V.ref ∧ H r = some (.ins C dx []) ∧ Prs H ps tr ∧ TreeL tr ∧ tr.length ≤ 99 ∧
  ∀ (tr2 : List E2) (H' : Hp), (∀ b o, H b = some o → b ≠ r → H' b = some o) → Norm tr tr2 → RailAt C H' r tr2 → Q .non H'
def spRof (C : Addr) : Sp := fun vs H Q _ => ∃ (a : Addr) (ps : List Addr) (tr : List E2), vs = [.ref C, .ref a] ∧ H a = some (.tup (ps.map V.ref)) ∧ Prs H ps tr ∧ TreeL tr ∧ tr.length ≤ 99 ∧
  ∀ (r : Addr) (tr2 : List E2) (H' : Hp), H r = none → Same H H' → Norm tr tr2 → RailAt C H' r tr2 → Q (.ref r) H'
def spSize (C : Addr) : Sp := fun vs H Q _ => ∃ (r : Addr) (tr : List E2), vs = [.ref r] ∧ RailAt C H r tr ∧ Q (.int ((tr.length : Int) + 1)) H
def spIsSt (C : Addr) (K : PySem.W.Frag) : Sp := fun vs H Q _ => ∃ (r : Addr) (tr : List E2) (v : V), vs = [.ref r, v] ∧ RailAt C H r tr ∧ IV K H v ∧ Q (.bl (inR v 0 tr.length)) H
def spChkSt (C : Addr) : Sp := fun vs H Q _ => ∃ (r : Addr) (tr : List E2) (v : Nat), vs = [.ref r, iv v] ∧ RailAt C H r tr ∧ v ≤ tr.length ∧ Q .non H
section
variable {P : Program} {w : World} {K : PySem.W.Frag} {mg : Str → Option Value} {base : Heap}
theorem fn_init {f fF fN fP C : Addr} {fd fdF fdN fdP : FuncData} (F : Fun K "__init__" "Railway.__init__" s_Railway_init f fd) (N : Nm mg) (X : TxtR K mg C) (UF : Use P w K mg base CX0 4 "first_wrong_track" fF fdF ["tracks"] (spFirst K)) (UN : Use P w K mg base CX0 1 "_neighbours_of" fN fdN ["tracks"] (spNbs K))
    (UP : Use P w K mg base CX0 1 "_places_below_first" fP fdP ["neighbours"] (spPlaces K)) : FnR P w K mg base CX0 5 f (spRail C) := by
  obtain ⟨oc, od, kV, doc, pm, an, cdv, ct, osl, rfl, lk, hcd⟩ := F.ex
  have G := fn_star (P := P) (w := w) (mg := mg) (base := base) (CX := CX0) (k := 4) (ps := ["self"]) (pv := "tracks") (N := NRi) (sp := spRI C K) lk hcd sc_ri cxUp_none (bind_star1 (B := fun vs => bindArgs (PySem.W.fnOf "__init__" "Railway.__init__" (defArgs s_Railway_init) (defBody s_Railway_init) (defScope s_Railway_init) .none kV doc pm an cdv ct) ⟨vs, []⟩) (p1 := "self") (pv := "tracks") (fun a => rfl) (fun a r rs => rfl))
    (fun A outer s H vs Q E hr h => by
      obtain ⟨t, h1, h2⟩ := body_ri (f := f) N X UF UN UP cdv A outer s H vs Q E hr h
      exact ⟨t, h1.nox, h2⟩)
  refine G.imp fun vs H Q E h => ?_
  obtain ⟨r, dx, ps, tr, rfl, hr, hP, T, hl, k⟩ := h
  refine ⟨[.ref r], ps.map V.ref, rfl, rfl, by rw [List.length_map, hP.1, sizeLine_eq]; omega, fun p np => ?_⟩
  have s0 := same_upd np (.tup (ps.map V.ref))
  have rp : r ≠ p := ne_of_none hr np
  refine ⟨r, dx, p, ps, tr, rfl, s0 _ _ hr, SqT.of upd_same, hP.same s0, T, hl, fun tr2 H' kp nm R => ?_⟩
  exact k tr2 H' (fun b o e ne => kp b o (s0 _ _ e) ne) nm R
theorem sc_rof : FnScope ["cls", "tracks"] ["cls", "tracks"] (defScope s_Railway_of) := ⟨rfl, rfl, rfl, by decide +kernel, rfl, by decide +kernel, by decide +kernel⟩
theorem ok_rof {f fI C : Addr} {fd : FuncData} (F : Fun K "of" "Railway.of" s_Railway_of f fd) (N : Nm mg) (M : Mk K C fI) (FI : FnR P w K mg base CX0 5 fI (spRail C)) : FnOk P w K mg base CX0 7 f fd ["cls", "tracks"] (spRof C) := by
  refine F.ok sc_rof (fun vs H Q E h => ?_) (fun cdv A outer s H vs Q E hr h => ?_)
  · obtain ⟨a, ps, tr, rfl, _⟩ := h
    rfl
  · obtain ⟨a, ps, tr, rfl, ha, hP, T, hl, k⟩ := h
    refine ⟨_, pss_cons (ps_if (pt_not (pt_val (pe_callB call_isi (by rfl) N.isi boot_isinstance (pa_cons (pv 1) (pa_cons (pe_bltn (v := .ty "tuple") (by rfl) N.tuple (by decide +kernel) rfl) pa_nil))))) pss_never pss_nil)
      (pss_one (ps_ret (pe_makeLS (i := 0) M FI hr rfl (.inl rfl) pass0 (pv 1)))), ?_⟩
    refine ⟨_, rfl, _, _, _, _, true, rfl, .ty _, .base (.tup ha), tup_tup, true, rfl, ?_⟩
    refine iteF ?_
    refine ⟨rfl, _, rfl, a, _, rfl, .inl (SqT.of ha), fun o dx no ndx ne => ?_⟩
    have s1 : Same H (upd (upd H dx (.own o)) o (.ins C dx [])) := fun b u e => by
      rw [upd_ne (ne_of_none e no), upd_ne (ne_of_none e ndx)]
      exact e
    refine ⟨o, dx, ps, tr, rfl, upd_same, hP.same s1, T, hl, fun tr2 H' kp nm R => ⟨rfl, ?_⟩⟩
    exact k o tr2 H' no (fun b u e => kp b u (s1 _ _ e) (ne_of_none e no)) nm R
theorem sc_size : FnScope ["self"] ["self"] (defScope s_Railway_size) := ⟨rfl, rfl, rfl, by decide +kernel, rfl, by decide +kernel, by decide +kernel⟩
theorem ok_size {f C : Addr} {fd : FuncData} (F : Fun K "size" "Railway.size" s_Railway_size f fd) (N : Nm mg) (X : TxtR K mg C) : FnOk P w K mg base CX0 1 f fd ["self"] (spSize C) := by
  refine F.ok sc_size (fun vs H Q E h => ?_) (fun cdv A outer s H vs Q E hr h => ?_)
  · obtain ⟨r, tr, rfl, _⟩ := h
    rfl
  · obtain ⟨r, tr, rfl, R, k⟩ := h
    obtain ⟨T, few, dx, tt, na, Aa, L, ps, ts, h1, h2, h3, h4, h5, h6, h7, h8⟩ := R
    refine ⟨_, pss_one (ps_ret (pe_callB call_len_seq (by rfl) N.len PySem.boot_len (pa_cons (pe_fld (pv 0) rfl) pa_nil))), ?_⟩
    refine ⟨_, rfl, r, C, dx, _, _, rfl, h1, X.cl, X.nN, flR_n, na, _, rfl, .inl (SqL.of h4), ?_⟩
    rw [List.length_map, h5]
    exact k
/-- the property size as a rule -/
structure SizeOf (P : Program) (w : World) (K : PySem.W.Frag) (mg : Str → Option Value) (base : Heap) (C p g : Addr) (fd : FuncData) : Prop where
  cl : Cls K C
  hp : PropOf K C "size" p g
  G : FnOk P w K mg base CX0 1 g fd ["self"] (spSize C)
  b : Binds K fd ["self"] []
theorem sc_isst : FnScope ["railway", "value"] ["railway", "value"] (defScope s_is_station) := ⟨rfl, rfl, rfl, by decide +kernel, rfl, by decide +kernel, by decide +kernel⟩
theorem ok_isst {f fI C p g : Addr} {fd fdI fdS : FuncData} (F : Fun K "is_station" "is_station" s_is_station f fd) (U : Use P w K mg base CX0 2 "is_number_from" fI fdI ["value", "least", "greatest"] (spNumFrom K)) (Z : SizeOf P w K mg base C p g fdS) : FnOk P w K mg base CX0 3 f fd ["railway", "value"] (spIsSt C K) := by
  refine F.ok sc_isst (fun vs H Q E h => ?_) (fun cdv A outer s H vs Q E hr h => ?_)
  · obtain ⟨r, tr, v, rfl, _⟩ := h
    rfl
  · obtain ⟨r, tr, v, rfl, R, hv, k⟩ := h
    refine ⟨_, pss_one (ps_ret (pe_use U hr rfl (pa_cons (pv 1) (pa_cons pe_int (pa_cons (pe_op op_sub (pe_prop (pv 0) Z.cl Z.hp Z.G (hr.mono (by decide)) Z.b .nil pass0 rfl) pe_int) pa_nil))))), ?_⟩
    obtain ⟨T, few, dx, tt, na, Aa, L, ps, ts, h1, h2⟩ := id R
    refine ⟨_, rfl, _, rfl, r, dx, _, rfl, h1, r, tr, rfl, R, _, _, rfl, rfl, v, 0, _, rfl, hv, ?_⟩
    rw [show (tr.length : Int) + 1 - 1 = tr.length by omega]
    exact k
theorem sc_chk : FnScope ["railway", "station"] ["railway", "station"] (defScope s_check_station) := ⟨rfl, rfl, rfl, by decide +kernel, rfl, by decide +kernel, by decide +kernel⟩
theorem ok_chk {f fI C : Addr} {fd fdI : FuncData} (F : Fun K "check_station" "check_station" s_check_station f fd) (U : Use P w K mg base CX0 3 "is_station" fI fdI ["railway", "value"] (spIsSt C K)) : FnOk P w K mg base CX0 4 f fd ["railway", "station"] (spChkSt C) := by
  refine F.ok sc_chk (fun vs H Q E h => ?_) (fun cdv A outer s H vs Q E hr h => ?_)
  · obtain ⟨r, tr, v, rfl, _⟩ := h
    rfl
  · obtain ⟨r, tr, v, rfl, R, hv, k⟩ := h
    refine ⟨_, pss_one (ps_if (pt_not (pt_val (pe_use U hr rfl (pa_cons (pv 0) (pa_cons (pv 1) pa_nil))))) pss_never pss_nil), ?_⟩
    refine ⟨_, rfl, _, rfl, r, tr, _, rfl, R, .inl ⟨_, rfl⟩, _, rfl, ?_⟩
    have e : inR (iv v) 0 tr.length = true := by
      show (decide ((0 : Int) ≤ (v : Int)) && decide ((v : Int) ≤ (tr.length : Int))) = true
      rw [Bool.and_eq_true]
      exact ⟨decide_eq_true (by omega), decide_eq_true (by omega)⟩
    rw [e]
    exact iteF k
end
end TR

namespace TR
section
variable {tr : List E2}
/-- two ways up, from a and from b, at x and y -/
structure Clb (tr : List E2) (a b x y : Nat) (F B : List Nat) : Prop where
  wf : Wk tr (F ++ [x])
  wb : Wk tr (B ++ [y])
  hf : (F ++ [x]).head? = some a
  hb : (B ++ [y]).head? = some b
  nf : (F ++ [x]).Nodup
  nb : (B ++ [y]).Nodup
  k1 : ∀ z ∈ F, z ∉ B ++ [y]
  k2 : ∀ w ∈ B, w ∉ F ++ [x]
  k3 : ∀ w ∈ B, dep tr x ≤ dep tr w
  k4 : ∀ z ∈ F, dep tr y < dep tr z
  fx : ∀ z ∈ F, dep tr x < dep tr z
  by_ : ∀ w ∈ B, dep tr y < dep tr w
  lx : x ≤ tr.length
  ly : y ≤ tr.length
  lf : ∀ z ∈ F, z ≤ tr.length
  lb : ∀ z ∈ B, z ≤ tr.length
theorem Clb.start {a b : Nat} (ha : a ≤ tr.length) (hb : b ≤ tr.length) : Clb tr a b a b [] [] :=
  ⟨trivial, trivial, rfl, rfl, by simp, by simp, (fun _ h => nomatch h), (fun _ h => nomatch h), (fun _ h => nomatch h), (fun _ h => nomatch h), (fun _ h => nomatch h), (fun _ h => nomatch h), ha, hb, (fun _ h => nomatch h), (fun _ h => nomatch h)⟩
theorem head_app {l : List Nat} {x y a : Nat} (h : (l ++ [x]).head? = some a) : (l ++ [x] ++ [y]).head? = some a := by
  rw [List.head?_append, h]
  rfl
theorem nd_snoc {l : List Nat} {x : Nat} (h : l.Nodup) (hx : x ∉ l) : (l ++ [x]).Nodup := by
  rw [List.nodup_append]
  refine ⟨h, by simp, fun u hu v hv => ?_⟩
  rw [List.mem_singleton] at hv
  rintro rfl
  exact hx (hv ▸ hu)
theorem mem_snoc {l : List Nat} {x z : Nat} : z ∈ l ++ [x] ↔ z ∈ l ∨ z = x := by simp
theorem Clb.up1 (T : TreeL tr) {a b x y : Nat} {F B : List Nat} (c : Clb tr a b x y F B) (ne : x ≠ y) (h : dep tr y < dep tr x) : 0 < x ∧ dep tr (par tr x) < dep tr x ∧ Clb tr a b (par tr x) y (F ++ [x]) B := by
  have hx : 0 < x := by
    by_cases z : x = 0
    · rw [z, dep_zero] at h
      omega
    · omega
  have ds := dep_succ T hx
  have hlt := T.par_lt hx
  refine ⟨hx, by omega, c.wf.snoc (par_adj T hx c.lx), c.wb, head_app c.hf, c.hb, nd_snoc c.nf ?_, c.nb, ?_, ?_, ?_, ?_, ?_, c.by_, by have := c.lx; omega, c.ly, ?_, c.lb⟩
  · intro m
    rcases mem_snoc.mp m with m | m
    · have := c.fx _ m
      omega
    · omega
  · intro z hz
    rcases mem_snoc.mp hz with hz | rfl
    · exact c.k1 z hz
    · intro m
      rcases mem_snoc.mp m with m | m
      · exact c.k2 z m (by simp)
      · exact ne m
  · intro w hw m
    rcases mem_snoc.mp m with m | m
    · exact c.k2 w hw m
    · have := c.k3 w hw
      rw [m] at this
      omega
  · intro w hw
    have := c.k3 w hw
    omega
  · intro z hz
    rcases mem_snoc.mp hz with hz | rfl
    · exact c.k4 z hz
    · exact h
  · intro z hz
    rcases mem_snoc.mp hz with hz | rfl
    · have := c.fx z hz
      omega
    · omega
  · intro z hz
    rcases mem_snoc.mp hz with hz | rfl
    · exact c.lf z hz
    · exact c.lx
theorem Clb.up2 (T : TreeL tr) {a b x y : Nat} {F B : List Nat} (c : Clb tr a b x y F B) (ne : x ≠ y) (h : ¬ dep tr y < dep tr x) : 0 < y ∧ dep tr (par tr y) < dep tr y ∧ Clb tr a b x (par tr y) F (B ++ [y]) := by
  have hy : 0 < y := by
    by_cases z : y = 0
    · exfalso
      subst z
      rw [dep_zero] at h
      have : 0 < x := by omega
      rw [dep_succ T this] at h
      omega
    · omega
  have ds := dep_succ T hy
  have hlt := T.par_lt hy
  refine ⟨hy, by omega, c.wf, c.wb.snoc (par_adj T hy c.ly), c.hf, head_app c.hb, c.nf, nd_snoc c.nb ?_, ?_, ?_, ?_, ?_, c.fx, ?_, c.lx, by have := c.ly; omega, c.lf, ?_⟩
  · intro m
    rcases mem_snoc.mp m with m | m
    · have := c.by_ _ m
      omega
    · omega
  · intro z hz m
    rcases mem_snoc.mp m with m | m
    · exact c.k1 z hz m
    · have := c.k4 z hz
      rw [m] at this
      omega
  · intro w hw
    rcases mem_snoc.mp hw with hw | rfl
    · exact c.k2 w hw
    · intro m
      rcases mem_snoc.mp m with m | m
      · exact c.k1 w m (by simp)
      · exact ne m.symm
  · intro w hw
    rcases mem_snoc.mp hw with hw | rfl
    · exact c.k3 w hw
    · omega
  · intro z hz
    have := c.k4 z hz
    omega
  · intro w hw
    rcases mem_snoc.mp hw with hw | rfl
    · have := c.by_ w hw
      omega
    · omega
  · intro z hz
    rcases mem_snoc.mp hz with hz | rfl
    · exact c.lb z hz
    · exact c.ly
theorem Clb.done {a b x : Nat} {F B : List Nat} (c : Clb tr a b x x F B) : SW tr a b (F ++ [x] ++ B.reverse) := by
  have hr : Wk tr (x :: B.reverse) := by
    have := c.wb.rev
    rw [List.reverse_append] at this
    exact this
  refine ⟨?_, ?_, ?_, ?_⟩
  · rw [List.append_assoc]
    exact c.wf.glue hr
  · rw [List.nodup_append]
    refine ⟨c.nf, ?_, fun u hu v hv => ?_⟩
    · exact (List.reverse_perm B).nodup_iff.mpr (List.nodup_append.mp c.nb).1
    · rintro rfl
      exact c.k2 u (List.mem_reverse.mp hv) hu
  · rw [List.head?_append, c.hf]
    rfl
  · cases B with
    | nil =>
      have e : x = b := Option.some.inj c.hb
      rw [e]
      simp
    | cons w r =>
      have e : w = b := Option.some.inj c.hb
      rw [List.getLast?_append, List.getLast?_reverse, e]
      rfl
end
end TR

namespace TR
open PySem PySem.Spec PyProof.Rows L2 L2.TT StX ClX
theorem at_last {l : List Nat} {x : Nat} : atI ((l ++ [x]).map iv) (-1) = some (iv x) := by
  have e : ixN ((l ++ [x]).map iv).length (-1) = some l.length := by
    unfold ixN
    rw [if_neg (by omega), if_pos (by rw [List.length_map, List.length_append, List.length_singleton]; omega), List.length_map, List.length_append, List.length_singleton]
    have : ((-1 : Int) + ((l.length + 1 : Nat) : Int)).toNat = l.length := by omega
    rw [this]
  unfold atI
  rw [e]
  show ((l ++ [x]).map iv)[l.length]? = _
  rw [List.map_append, List.getElem?_append_right (by rw [List.length_map]; exact Nat.le_refl _), List.length_map, Nat.sub_self]
  rfl
def spPath (C : Addr) : Sp := fun vs H Q _ => ∃ (r : Addr) (tr : List E2) (a b : Nat), vs = [.ref r, iv a, iv b] ∧ RailAt C H r tr ∧ a ≤ tr.length ∧ b ≤ tr.length ∧
  ∀ (l : List Nat) (p : Addr) (H' : Hp), SW tr a b l → Same H H' → H p = none → H' p = some (.tup (l.map iv)) → Q (.ref p) H'
section
variable {P : Program} {w : World} {K : PySem.W.Frag} {mg : Str → Option Value} {base : Heap}
theorem sc_path : FnScope ["self", "one", "other", "front", "back"] ["self", "one", "other"] (defScope s_Railway_path) := ⟨rfl, rfl, rfl, by decide +kernel, rfl, by decide +kernel, by decide +kernel⟩
theorem ok_path {f fc C : Addr} {fd fdc : FuncData} (F : Fun K "path" "Railway.path" s_Railway_path f fd) (N : Nm mg) (X : TxtR K mg C) (U : Use P w K mg base CX0 4 "check_station" fc fdc ["railway", "station"] (spChkSt C)) : FnOk P w K mg base CX0 5 f fd ["self", "one", "other"] (spPath C) := by
  refine F.ok sc_path (fun vs H Q E h => ?_) (fun cdv A outer s H vs Q E hr h => ?_)
  · obtain ⟨r, tr, a, b, rfl, _⟩ := h
    rfl
  · obtain ⟨r, tr, a, b, rfl, R, ha, hb, k⟩ := h
    refine ⟨_, pss_cons (ps_expr (pe_use U hr rfl (pa_cons (pv 0) (pa_cons (pv 1) pa_nil))))
      (pss_cons (ps_expr (pe_use U hr rfl (pa_cons (pv 0) (pa_cons (pv 2) pa_nil))))
      (pss_cons (ps_set (i := 3) sc_path.nd rfl (.inl rfl) (pe_lst (pa_cons (pv 1) pa_nil)))
      (pss_cons (ps_set (i := 4) sc_path.nd rfl (.inl rfl) (pe_lst (pa_cons (pv 2) pa_nil)))
      (pss_cons (ps_while PassesOwn.never (pt_cmpR op_ne (pe_ix ix_list (pv 3) (pe_un un_neg pe_int) (fun _ _ => rfl)) (pe_ix ix_list (pv 4) (pe_un un_neg pe_int) (fun _ _ => rfl)) (nomark _))
        (pss_one (ps_if (pt_cmpR op_gt (pe_ix ix_list (pe_fld (pv 0) rfl) (pe_ix ix_list (pv 3) (pe_un un_neg pe_int) (fun _ _ => rfl)) (fun _ _ => rfl)) (pe_ix ix_list (pe_fld (pv 0) rfl) (pe_ix ix_list (pv 4) (pe_un un_neg pe_int) (fun _ _ => rfl)) (fun _ _ => rfl)) (nomark _))
          (pss_one (ps_expr (pe_bm PySem.F.plainAttrs_list PySem.F.slot_list_append PySem.F.type_list_append mt_append (pv 3) (pa_cons (pe_ix ix_list (pe_fld (pv 0) rfl) (pe_ix ix_list (pv 3) (pe_un un_neg pe_int) (fun _ _ => rfl)) (fun _ _ => rfl)) pa_nil))))
          (pss_one (ps_expr (pe_bm PySem.F.plainAttrs_list PySem.F.slot_list_append PySem.F.type_list_append mt_append (pv 4) (pa_cons (pe_ix ix_list (pe_fld (pv 0) rfl) (pe_ix ix_list (pv 4) (pe_un un_neg pe_int) (fun _ _ => rfl)) (fun _ _ => rfl)) pa_nil)))))))
      (pss_cons (ps_expr (pe_bm0 PySem.F.plainAttrs_list PySem.F.slot_list_pop PySem.F.type_list_pop mt_pop (pv 4)))
      (pss_one (ps_ret (pe_callTy call_tuple_of (by rfl) N.tuple boot_tuple (pa_cons (pe_op op_cat (pv 3) (pe_revL (pv 4))) pa_nil)))))))))
      , ?_⟩
    obtain ⟨T, few, dx, tt, na, Aa, L, ps, ts, h1, h2, h3, h4, h5, h6, h7, h8⟩ := id R
    refine ⟨_, rfl, _, rfl, r, tr, a, rfl, R, ha, ?_⟩
    refine ⟨_, rfl, _, rfl, r, tr, b, rfl, R, hb, ?_⟩
    refine ⟨_, rfl, by show 1 ≤ sizeLine; rw [sizeLine_eq]; decide, fun fa nfa => ?_⟩
    refine ⟨_, rfl, by show 1 ≤ sizeLine; rw [sizeLine_eq]; decide, fun ba nba1 => ?_⟩
    have sf := same_upd nfa (.lst [iv a])
    have nba := sf.free nba1
    have s0 := sf.trans (same_upd nba1 (.lst [iv b]))
    have nfb : fa ≠ ba := fun z => by rw [← z, upd_same] at nba1; cases nba1
    have hf0 : upd (upd H fa (.lst [iv a])) ba (.lst [iv b]) fa = some (.lst [iv a]) := by rw [upd_ne nfb, upd_same]
    have hb0 := upd_same (H := upd H fa (.lst [iv a])) (a := ba) (o := .lst [iv b])
    generalize upd (upd H fa (.lst [iv a])) ba (.lst [iv b]) = H0 at s0 hf0 hb0
    refine ⟨fun m σ H' => ∃ (x y : Nat) (F B : List Nat), m = dep tr x + dep tr y ∧ σ = [some (.ref r), some (iv a), some (iv b), some (.ref fa), some (.ref ba)] ∧ Clb tr a b x y F B ∧ Same H H' ∧ H' fa = some (.lst ((F ++ [x]).map iv)) ∧ H' ba = some (.lst ((B ++ [y]).map iv)),
      ⟨_, a, b, [], [], rfl, rfl, Clb.start ha hb, s0, hf0, hb0⟩, ?_⟩
    clear sf nba1 s0 hf0 hb0 H0
    rintro m σ H1 ⟨x, y, F, B, rfl, rfl, c, s1, hf, hb1⟩
    have lx := c.lx
    have ly := c.ly
    refine ⟨_, rfl, _, rfl, fa, _, _, _, rfl, rfl, SqL.of hf, at_last, _, rfl, _, rfl, ba, _, _, _, rfl, rfl, SqL.of hb1, at_last, rfl, _, rfl, ?_⟩
    have hr1 := s1 _ _ h1
    have hA1 := s1 _ _ h7
    have hL1 := s1 _ _ h8
    refine ite2 (fun hc => ?_) (fun hc => ?_)
    · have ne : x ≠ y := fun z => by rw [z] at hc; simp at hc
      refine ⟨fun σ' H' => ∃ (x' y' : Nat) (F B : List Nat), dep tr x' + dep tr y' < dep tr x + dep tr y ∧ σ' = [some (.ref r), some (iv a), some (iv b), some (.ref fa), some (.ref ba)] ∧ Clb tr a b x' y' F B ∧ Same H H' ∧ H' fa = some (.lst ((F ++ [x']).map iv)) ∧ H' ba = some (.lst ((B ++ [y']).map iv)),
        fun σ' H' ⟨x', y', F, B, lt, e⟩ => ⟨_, lt, x', y', F, B, rfl, e⟩, ?_⟩
      refine ⟨_, rfl, r, C, dx, _, _, rfl, hr1, X.cl, X.nL, flR_l, _, rfl, _, rfl, fa, _, _, _, rfl, rfl, SqL.of hf, at_last, L, _, _, _, rfl, rfl, SqL.of hL1, atN (vec_get (by omega)), ?_⟩
      refine ⟨_, rfl, r, C, dx, _, _, rfl, hr1, X.cl, X.nL, flR_l, _, rfl, _, rfl, ba, _, _, _, rfl, rfl, SqL.of hb1, at_last, L, _, _, _, rfl, rfl, SqL.of hL1, atN (vec_get (by omega)), _, _, rfl, rfl, _, rfl, ?_⟩
      refine ite2 (fun hd => ?_) (fun hd => ?_)
      · have hlt : dep tr y < dep tr x := by
          have := of_decide_eq_true hd
          omega
        obtain ⟨q1, q2, c2⟩ := c.up1 T ne hlt
        have ep : p0 tr x = par tr x := by unfold p0; rw [if_neg (by omega)]
        refine ⟨_, rfl, .inl ⟨rfl, _, SqL.of hf⟩, _, rfl, r, C, dx, _, _, rfl, hr1, X.cl, X.nA, flR_a, _, rfl, _, rfl, fa, _, _, _, rfl, rfl, SqL.of hf, at_last, Aa, _, _, _, rfl, rfl, SqL.of hA1, atN (vec_get (by omega)), _, _, _, rfl, rfl, hf, ?_, ?_⟩
        · have h9 : (F ++ [x]).length ≤ tr.length + 1 := nd_len c.nf fun z hz => by
            rcases mem_snoc.mp hz with hz | rfl
            · exact c.lf z hz
            · exact lx
          rw [List.length_map, sizeLine_eq]
          omega
        · refine ⟨par tr x, y, F ++ [x], B, by omega, rfl, c2, same_old s1 nfa _, ?_, by rw [upd_ne nfb.symm]; exact hb1⟩
          rw [upd_same, ep, List.map_append (l₁ := F ++ [x])]
          rfl
      · have hlt : ¬ dep tr y < dep tr x := by
          intro z
          apply hd
          exact decide_eq_true (by show ((dep tr y : Nat) : Int) < ((dep tr x : Nat) : Int); omega)
        obtain ⟨q1, q2, c2⟩ := c.up2 T ne hlt
        have ep : p0 tr y = par tr y := by unfold p0; rw [if_neg (by omega)]
        refine ⟨_, rfl, .inl ⟨rfl, _, SqL.of hb1⟩, _, rfl, r, C, dx, _, _, rfl, hr1, X.cl, X.nA, flR_a, _, rfl, _, rfl, ba, _, _, _, rfl, rfl, SqL.of hb1, at_last, Aa, _, _, _, rfl, rfl, SqL.of hA1, atN (vec_get (by omega)), _, _, _, rfl, rfl, hb1, ?_, ?_⟩
        · have h9 : (B ++ [y]).length ≤ tr.length + 1 := nd_len c.nb fun z hz => by
            rcases mem_snoc.mp hz with hz | rfl
            · exact c.lb z hz
            · exact ly
          rw [List.length_map, sizeLine_eq]
          omega
        · refine ⟨x, par tr y, F, B ++ [y], by omega, rfl, c2, same_old s1 nba _, by rw [upd_ne nfb]; exact hf, ?_⟩
          rw [upd_same, ep, List.map_append (l₁ := B ++ [y])]
          rfl
    · have e : x = y := by
        by_cases z : x = y
        · exact z
        · exfalso
          apply hc
          have : ¬ (iv x = iv y) := fun q => z (iv_inj.mp q)
          simp [this]
      subst e
      have sw := c.done
      have hlen : (F ++ [x] ++ B.reverse).length ≤ tr.length + 1 := nd_len sw.nd fun z hz => by
        rcases List.mem_append.mp hz with hz | hz
        · rcases mem_snoc.mp hz with hz | rfl
          · exact c.lf z hz
          · exact lx
        · exact c.lb z (List.mem_reverse.mp hz)
      rw [List.length_append, List.length_reverse] at hlen
      have e1 : ((B ++ [x]).map iv).dropLast = B.map iv := by rw [List.map_append]; exact List.dropLast_concat
      have e2 : ((B ++ [x]).map iv)[((B ++ [x]).map iv).length - 1]? = some (iv x) := by
        rw [List.length_map, List.length_append, List.length_singleton, Nat.add_sub_cancel, List.map_append, List.getElem?_append_right (by rw [List.length_map]; exact Nat.le_refl _), List.length_map, Nat.sub_self]
        rfl
      refine ⟨_, rfl, .inl ⟨rfl, _, SqL.of hb1⟩, ba, _, _, rfl, rfl, hb1, e2, ?_⟩
      rw [e1]
      have s2 := same_old s1 nba (.lst (B.map iv))
      have hf2 : upd H1 ba (.lst (B.map iv)) fa = some (.lst ((F ++ [x]).map iv)) := by rw [upd_ne nfb]; exact hf
      have hb2 := upd_same (H := H1) (a := ba) (o := .lst (B.map iv))
      generalize upd H1 ba (.lst (B.map iv)) = H2 at s2 hf2 hb2
      refine ⟨_, rfl, _, rfl, ba, _, rfl, SqL.of hb2, fun p np => ?_⟩
      refine ⟨fa, p, _, _, rfl, rfl, same_upd np _ _ _ hf2, upd_same, ?_, fun q nq => ?_⟩
      · rw [List.length_map, List.length_reverse, List.length_map, sizeLine_eq]
        omega
      refine ⟨q, _, rfl, .inl ⟨SqL.of upd_same, fun t nt => ?_⟩⟩
      refine k (F ++ [x] ++ B.reverse) t _ sw (((s2.trans (same_upd np _)).trans (same_upd nq _)).trans (same_upd nt _)) ?_ ?_
      · exact (s2.trans ((same_upd np _).trans (same_upd nq _))).free nt
      · rw [upd_same, List.map_append (l₁ := F ++ [x]), List.map_reverse]
end
end TR

namespace TR
section
variable {tr : List E2}
theorem SW.norm {tr2 : List E2} (n : Norm tr tr2) {a b : Nat} {l : List Nat} (s : SW tr2 a b l) : SW tr a b l := by
  refine ⟨?_, s.nd, s.hd, s.lt⟩
  have : ∀ {l : List Nat}, Wk tr2 l → Wk tr l := by
    intro l
    induction l with
    | nil => exact fun _ => trivial
    | cons a r ih =>
      cases r with
      | nil => exact fun _ => trivial
      | cons b r => exact fun h => ⟨n.adj.mp h.1, ih h.2⟩
  exact this s.wk
/-- the search's state: found, still to be looked at -/
structure Bf (tr : List E2) (st : Nat) (xs qs : List Nat) : Prop where
  st_ : st ∈ xs
  nd : xs.Nodup
  le : ∀ x ∈ xs, x ≤ tr.length
  sub : ∀ q ∈ qs, q ∈ xs
  cl : ∀ x ∈ xs, x ∉ qs → ∀ y, Adj tr x y → y ∈ xs
theorem Bf.start {st : Nat} (h : st ≤ tr.length) : Bf tr st [st] [st] :=
  ⟨by simp, by simp, fun x hx => by rw [List.mem_singleton] at hx; omega, fun q hq => hq, fun x hx hn => absurd hx hn⟩
/-- one station is being looked at, j of its neighbours have been -/
structure Bg (tr : List E2) (st sp j : Nat) (xs qs : List Nat) : Prop where
  st_ : st ∈ xs
  nd : xs.Nodup
  le : ∀ x ∈ xs, x ≤ tr.length
  sub : ∀ q ∈ qs, q ∈ xs
  cl : ∀ x ∈ xs, x ∉ qs → x ≠ sp → ∀ y, Adj tr x y → y ∈ xs
  sp_ : sp ∈ xs
  dn : ∀ y ∈ (nb tr sp).take j, y ∈ xs
theorem Bf.pop {st sp : Nat} {xs qs : List Nat} (b : Bf tr st xs (sp :: qs)) : Bg tr st sp 0 xs qs :=
  ⟨b.st_, b.nd, b.le, fun q hq => b.sub q (List.mem_cons_of_mem _ hq), fun x hx hn ne => b.cl x hx (fun h => by rcases List.mem_cons.mp h with h | h; exact ne h; exact hn h), b.sub sp (by simp), fun y hy => by rw [List.take_zero] at hy; cases hy⟩
theorem Bg.skip {st sp j y : Nat} {xs qs : List Nat} (b : Bg tr st sp j xs qs) (hy : (nb tr sp)[j]? = some y) (h : y ∈ xs) : Bg tr st sp (j + 1) xs qs := by
  refine ⟨b.st_, b.nd, b.le, b.sub, b.cl, b.sp_, fun z hz => ?_⟩
  rw [List.take_succ, hy] at hz
  rcases List.mem_append.mp hz with hz | hz
  · exact b.dn z hz
  · have : z = y := by simpa using hz
    rw [this]
    exact h
theorem Bg.add (T : TreeL tr) {st sp j y : Nat} {xs qs : List Nat} (b : Bg tr st sp j xs qs) (hy : (nb tr sp)[j]? = some y) (h : y ∉ xs) : Bg tr st sp (j + 1) (xs ++ [y]) (qs ++ [y]) := by
  have ha : Adj tr sp y := (mem_nb T.ne).mp (List.mem_of_getElem? hy)
  have hl : y ≤ tr.length := by
    rcases adj_par T ha with ⟨h1, h2, h3⟩ | ⟨h1, h2, h3⟩
    · have := T.par_lt h1
      omega
    · exact h3
  refine ⟨List.mem_append_left _ b.st_, nd_snoc b.nd h, fun x hx => ?_, fun q hq => ?_, fun x hx hn ne z hz => ?_, List.mem_append_left _ b.sp_, fun z hz => ?_⟩
  · rcases mem_snoc.mp hx with hx | rfl
    · exact b.le x hx
    · exact hl
  · rcases mem_snoc.mp hq with hq | rfl
    · exact List.mem_append_left _ (b.sub q hq)
    · simp
  · rcases mem_snoc.mp hx with hx | rfl
    · exact List.mem_append_left _ (b.cl x hx (fun m => hn (List.mem_append_left _ m)) ne z hz)
    · exact absurd (by simp) hn
  · rw [List.take_succ, hy] at hz
    rcases List.mem_append.mp hz with hz | hz
    · exact List.mem_append_left _ (b.dn z hz)
    · have : z = y := by simpa using hz
      rw [this]
      simp
theorem Bg.back (T : TreeL tr) {st sp : Nat} {xs qs : List Nat} (b : Bg tr st sp (nb tr sp).length xs qs) : Bf tr st xs qs := by
  refine ⟨b.st_, b.nd, b.le, b.sub, fun x hx hn y hy => ?_⟩
  by_cases c : x = sp
  · subst c
    apply b.dn
    rw [List.take_length]
    exact (mem_nb T.ne).mpr hy
  · exact b.cl x hx hn c y hy
theorem Bf.all (T : TreeL tr) {st : Nat} {xs : List Nat} (b : Bf tr st xs []) : ∀ x, x ≤ tr.length → x ∈ xs := by
  have cl : ∀ x ∈ xs, ∀ y, Adj tr x y → y ∈ xs := fun x hx => b.cl x hx (by simp)
  have up : ∀ (k x : Nat), x ≤ k → x ∈ xs → 0 ∈ xs := by
    intro k
    induction k with
    | zero =>
      intro x hx h
      have : x = 0 := by omega
      rw [← this]
      exact h
    | succ k ih =>
      intro x hx h
      by_cases c : x = 0
      · rw [← c]
        exact h
      · have hlt := T.par_lt (y := x) (by omega)
        exact ih (par tr x) (by omega) (cl x h _ (par_adj T (by omega) (b.le x h)))
  have h0 := up st st (Nat.le_refl _) b.st_
  have dn : ∀ (k x : Nat), x ≤ k → x ≤ tr.length → x ∈ xs := by
    intro k
    induction k with
    | zero =>
      intro x hx _
      have : x = 0 := by omega
      rw [this]
      exact h0
    | succ k ih =>
      intro x hx hl
      by_cases c : x = 0
      · rw [c]
        exact h0
      · have hlt := T.par_lt (y := x) (by omega)
        exact cl _ (ih (par tr x) (by omega) (by omega)) _ (par_adj T (by omega) hl).symm
  exact fun x hx => dn x x (Nat.le_refl _) hx
theorem Bf.len {st : Nat} {xs qs : List Nat} (b : Bf tr st xs qs) : xs.length ≤ tr.length + 1 := nd_len b.nd b.le
theorem Bg.len {st sp j : Nat} {xs qs : List Nat} (b : Bg tr st sp j xs qs) : xs.length ≤ tr.length + 1 := nd_len b.nd b.le
end
end TR

namespace TR
section
variable {tr : List E2}
/-- the stations of a layer, each with where it was entered from -/
def nxt (tr : List E2) (x : Nat × Option Nat) : List (Nat × Option Nat) := ((nb tr x.1).filter fun w => decide (some w ≠ x.2)).map fun w => (w, some x.1)
def lyr (tr : List E2) (s : Nat) (b : Option Nat) : Nat → List (Nat × Option Nat)
  | 0 => [(s, b)]
  | k + 1 => (lyr tr s b k).flatMap (nxt tr)
theorem mem_nxt (T : TreeL tr) {x y : Nat × Option Nat} : y ∈ nxt tr x ↔ Adj tr x.1 y.1 ∧ some y.1 ≠ x.2 ∧ y.2 = some x.1 := by
  unfold nxt
  rw [List.mem_map]
  constructor
  · rintro ⟨w, hw, rfl⟩
    rw [List.mem_filter, mem_nb T.ne] at hw
    exact ⟨hw.1, of_decide_eq_true hw.2, rfl⟩
  · rintro ⟨h1, h2, h3⟩
    refine ⟨y.1, ?_, ?_⟩
    · rw [List.mem_filter, mem_nb T.ne]
      exact ⟨h1, decide_eq_true h2⟩
    · rw [← h3]
def ms (tr : List E2) (x : Nat × Option Nat) : Nat := if 0 < x.1 ∧ x.2 = some (par tr x.1) then tr.length + 1 - x.1 else tr.length + 1 + x.1
theorem ms_nxt (T : TreeL tr) {x y : Nat × Option Nat} (hx : x.1 ≤ tr.length) (h : y ∈ nxt tr x) : ms tr y < ms tr x ∧ y.1 ≤ tr.length := by
  obtain ⟨v, e⟩ := x
  obtain ⟨w, e'⟩ := y
  obtain ⟨h1, h2, h3⟩ := (mem_nxt T).mp h
  have h3 : e' = some v := h3
  subst h3
  have h2 : some w ≠ e := h2
  have hx : v ≤ tr.length := hx
  have h1 : Adj tr v w := h1
  unfold ms
  rcases adj_par T h1 with ⟨a1, a2, a3⟩ | ⟨a1, a2, a3⟩
  · have lt := T.par_lt a1
    have c1 : ¬ (0 < v ∧ e = some (par tr v)) := fun z => h2 (by rw [z.2, a2])
    have c2 : ¬ (0 < w ∧ some v = some (par tr w)) := fun z => by
      have := Option.some.inj z.2
      have := T.par_lt z.1
      omega
    show (if 0 < w ∧ some v = some (par tr w) then _ else _) < (if 0 < v ∧ e = some (par tr v) then _ else _) ∧ w ≤ tr.length
    rw [if_neg c1, if_neg c2]
    show tr.length + 1 + w < tr.length + 1 + v ∧ _
    omega
  · have lt := T.par_lt a1
    have c2 : 0 < w ∧ some v = some (par tr w) := ⟨a1, by rw [a2]⟩
    show (if 0 < w ∧ some v = some (par tr w) then _ else _) < (if 0 < v ∧ e = some (par tr v) then _ else _) ∧ w ≤ tr.length
    rw [if_pos c2]
    refine ⟨?_, a3⟩
    show tr.length + 1 - w < _
    split
    · show _ < tr.length + 1 - v
      omega
    · show _ < tr.length + 1 + v
      omega
theorem lyr_ms (T : TreeL tr) {s : Nat} {b : Option Nat} (hs : s ≤ tr.length) : ∀ (k : Nat) (x : Nat × Option Nat), x ∈ lyr tr s b k → ms tr x + k ≤ 2 * tr.length + 2 ∧ x.1 ≤ tr.length
  | 0, x, h => by
    have e : x = (s, b) := by simpa [lyr] using h
    subst e
    refine ⟨?_, hs⟩
    unfold ms
    split <;> (simp only; omega)
  | k + 1, x, h => by
    have h : x ∈ (lyr tr s b k).flatMap (nxt tr) := h
    obtain ⟨y, hy, hx⟩ := List.mem_flatMap.mp h
    obtain ⟨i1, i2⟩ := lyr_ms T hs k y hy
    obtain ⟨j1, j2⟩ := ms_nxt T i2 hx
    exact ⟨by omega, j2⟩
theorem lyr_le (T : TreeL tr) {s : Nat} {b : Option Nat} (hs : s ≤ tr.length) {k : Nat} (h : lyr tr s b k ≠ []) : k ≤ 2 * tr.length + 2 := by
  obtain ⟨x, hx⟩ := List.exists_mem_of_ne_nil _ h
  have := (lyr_ms T hs k x hx).1
  omega
/-- a part of a walk without repetition -/
theorem SW.part {a b : Nat} {l r : List Nat} {w : Nat} (s : SW tr a b (l ++ w :: r)) : SW tr w b (w :: r) := by
  refine ⟨?_, (List.nodup_append.mp s.nd).2.1, rfl, ?_⟩
  · have : ∀ {l : List Nat}, Wk tr (l ++ w :: r) → Wk tr (w :: r) := by
      intro l
      induction l with
      | nil => exact fun h => h
      | cons c l ih => exact fun h => ih h.tail
    exact this s.wk
  · have := s.lt
    rw [List.getLast?_append] at this
    cases e : (w :: r).getLast? with
    | none => simp at e
    | some z =>
      rw [e] at this
      exact this
/-- a walk is gone on with, not back -/
theorem SW.on (T : TreeL tr) {a v w : Nat} {l : List Nat} {e : Option Nat} (s : SW tr a v l) (he : ∀ l', l = l' ++ [v] → l' ≠ [] → l'.getLast? = e) (h : Adj tr v w) (hw : some w ≠ e) : SW tr a w (l ++ [w]) := by
  refine s.snoc h fun hm => ?_
  have hvw : v ≠ w := fun z => by
    subst z
    rcases h with h | h
    · exact T.ne _ h rfl
    · exact T.ne _ h rfl
  obtain ⟨p, r, rfl⟩ := List.append_of_mem hm
  have s1 := s.part
  have s2 : SW tr w v [w, v] := ⟨⟨h.symm, trivial⟩, by simp; exact fun z => hvw z.symm, rfl, rfl⟩
  have e1 := SW.uniq T s1 s2
  have e2 : r = [v] := by
    have := List.cons.inj e1
    exact this.2
  subst e2
  have := he (p ++ [w]) (by simp) (by simp)
  rw [List.getLast?_append] at this
  exact hw this
/-- each station of a layer is reached by a walk of its own -/
theorem lyr_sw (T : TreeL tr) {s : Nat} {b : Option Nat} : ∀ (k : Nat) (x : Nat × Option Nat), x ∈ lyr tr s b k → ∃ l, SW tr s x.1 l ∧ l.length = k + 1 ∧ (∀ l', l = l' ++ [x.1] → l' ≠ [] → l'.getLast? = x.2)
  | 0, x, h => by
    have e : x = (s, b) := by simpa [lyr] using h
    subst e
    refine ⟨[s], SW.one s, rfl, fun l' h1 h2 => ?_⟩
    exfalso
    have := congrArg List.length h1
    rw [List.length_append] at this
    have : l'.length = 0 := by
      simp at this
      exact this ▸ rfl
    exact h2 (List.length_eq_zero_iff.mp this)
  | k + 1, x, h => by
    have h : x ∈ (lyr tr s b k).flatMap (nxt tr) := h
    obtain ⟨y, hy, hx⟩ := List.mem_flatMap.mp h
    obtain ⟨l, i1, i2, i3⟩ := lyr_sw T k y hy
    obtain ⟨h1, h2, h3⟩ := (mem_nxt T).mp hx
    refine ⟨l ++ [x.1], i1.on T i3 h1 h2, by rw [List.length_append, i2]; rfl, fun l' e1 e2 => ?_⟩
    have := (List.append_inj' e1 rfl).1
    rw [← this, h3]
    exact i1.lt
end
end TR

namespace TR
section
variable {tr : List E2}
theorem nxt_fst {x : Nat × Option Nat} : (nxt tr x).map Prod.fst = (nb tr x.1).filter fun w => decide (some w ≠ x.2) := by
  unfold nxt
  rw [List.map_map]
  have : (Prod.fst ∘ fun w => ((w, some x.1) : Nat × Option Nat)) = id := rfl
  rw [this, List.map_id]
/-- the stations of a layer are different -/
theorem lyr_nd (T : TreeL tr) {s : Nat} {b : Option Nat} : ∀ k, ((lyr tr s b k).map Prod.fst).Nodup
  | 0 => by
    show [s].Nodup
    simp
  | k + 1 => by
    have key : ∀ {L : List (Nat × Option Nat)}, (∀ x ∈ L, x ∈ lyr tr s b k) → (L.map Prod.fst).Nodup → ((L.flatMap (nxt tr)).map Prod.fst).Nodup := by
      intro L
      induction L with
      | nil => exact fun _ _ => List.nodup_nil
      | cons x L ih =>
        intro hL hn
        rw [List.map_cons, List.nodup_cons] at hn
        have e : (x :: L).flatMap (nxt tr) = nxt tr x ++ L.flatMap (nxt tr) := rfl
        rw [e, List.map_append, List.nodup_append]
        refine ⟨?_, ih (fun y hy => hL y (List.mem_cons_of_mem _ hy)) hn.2, ?_⟩
        · rw [nxt_fst]
          exact (nb_nd T _).filter _
        · rintro w hw w' hw' rfl
          obtain ⟨y, hy, ey⟩ := List.mem_map.mp hw
          obtain ⟨y', hy', ey'⟩ := List.mem_map.mp hw'
          obtain ⟨z, hz, hyz⟩ := List.mem_flatMap.mp hy'
          have m1 : y ∈ lyr tr s b (k + 1) := List.mem_flatMap.mpr ⟨x, hL x (by simp), hy⟩
          have m2 : y' ∈ lyr tr s b (k + 1) := List.mem_flatMap.mpr ⟨z, hL z (List.mem_cons_of_mem _ hz), hyz⟩
          obtain ⟨l, a1, a2, a3⟩ := lyr_sw T (k + 1) y m1
          obtain ⟨l', b1, b2, b3⟩ := lyr_sw T (k + 1) y' m2
          rw [ey] at a1 a3
          rw [ey'] at b1 b3
          have el := SW.uniq T a1 b1
          subst el
          obtain ⟨q, hq⟩ : ∃ q, l = q ++ [w] := by
            have := a1.lt
            rw [List.getLast?_eq_some_iff] at this
            exact this
          have qne : q ≠ [] := by
            rintro rfl
            rw [hq] at a2
            simp at a2
          have e1 := a3 q hq qne
          have e2 := b3 q hq qne
          rw [((mem_nxt T).mp hy).2.2] at e1
          rw [((mem_nxt T).mp hyz).2.2] at e2
          have exz : x.1 = z.1 := Option.some.inj (e1.symm.trans e2)
          exact hn.1 (by rw [exz]; exact List.mem_map_of_mem hz)
    exact key (fun x hx => hx) (lyr_nd T k)
theorem lyr_len (T : TreeL tr) {s : Nat} {b : Option Nat} (hs : s ≤ tr.length) (k : Nat) : (lyr tr s b k).length ≤ tr.length + 1 := by
  have h := nd_len (n := tr.length) (lyr_nd T (s := s) (b := b) k) (fun x hx => by
    obtain ⟨y, hy, rfl⟩ := List.mem_map.mp hx
    exact (lyr_ms T hs k y hy).2)
  rw [List.length_map] at h
  exact h
end
end TR

namespace TR
open PySem PySem.Spec PyProof.Rows L2 L2.TT StX ClX
theorem pg_tupK {X : Cx} {K : PySem.W.Frag} {es : List Expr} {k n : Nat} {pos : Pos} {t : TGs} (hK : X.K = K) (hc : X.calm = true) (ht : PGs X es t) (hn : (assignEach es X.env).length = n) (hst : (assignEach es X.env).findIdx? (·.1) = none := by rfl) : PG X (.Tuple es k pos) (gTup K n t) := by
  subst hK
  exact pg_tup hc ht hn hst
theorem pi_tupK {X : Cx} {K : PySem.W.Frag} {tg l : Expr} {tl : TE} (hK : X.K = K) (hl : PE X l tl) : PI X tg l (iTup K tl) := by
  subst hK
  exact pi_tup hl
def bv : Option Nat → V
  | none => .non
  | some n => iv n
/-- all but one object stand as before -/
def FrB (a : Addr) (H H' : Hp) : Prop := ∀ b o, H b = some o → b ≠ a → H' b = some o
/-- a layer in the heap: a list of pairs -/
structure LY (H : Hp) (a : Addr) (es : List Addr) (xs : List (Nat × Option Nat)) : Prop where
  hl : H a = some (.lst (es.map V.ref))
  len : es.length = xs.length
  at_ : ∀ (i : Nat) (p : Addr) (x : Nat × Option Nat), es[i]? = some p → xs[i]? = some x → H p = some (.tup [iv x.1, bv x.2])
theorem LY.same {H H' : Hp} {a : Addr} {es : List Addr} {xs : List (Nat × Option Nat)} (l : LY H a es xs) (s : Same H H') : LY H' a es xs := ⟨s _ _ l.hl, l.len, fun i p x h1 h2 => s _ _ (l.at_ i p x h1 h2)⟩
theorem LY.grow {H : Hp} {a : Addr} {es : List Addr} {xs : List (Nat × Option Nat)} (l : LY H a es xs) {p : Addr} (np : H p = none) {x : Nat × Option Nat} :
    LY (upd (upd H p (.tup [iv x.1, bv x.2])) a (.lst (es.map V.ref ++ [.ref p]))) a (es ++ [p]) (xs ++ [x]) := by
  have pa : p ≠ a := fun z => by rw [z, l.hl] at np; cases np
  refine ⟨by rw [upd_same, List.map_append]; rfl, by rw [List.length_append, List.length_append, l.len]; rfl, fun i q y h1 h2 => ?_⟩
  rcases get_snoc h1 with h1 | ⟨e1, rfl⟩
  · rcases get_snoc h2 with h2 | ⟨e3, e4⟩
    · have h := l.at_ i q y h1 h2
      have q1 : q ≠ a := ne_of h l.hl (by intro z; cases z)
      rw [upd_ne q1, upd_ne (ne_of_none h np)]
      exact h
    · exfalso
      have := (List.getElem?_eq_some_iff.mp h1).1
      have := l.len
      omega
  · rcases get_snoc h2 with h2 | ⟨e3, rfl⟩
    · exfalso
      have := (List.getElem?_eq_some_iff.mp h2).1
      have := l.len
      omega
    · rw [upd_ne pa, upd_same]
def spNbr (C : Addr) : Sp := fun vs H Q _ => ∃ (r : Addr) (tr : List E2) (v : Nat), vs = [.ref r, iv v] ∧ RailAt C H r tr ∧ v ≤ tr.length ∧ ∀ t, H t = some (.tup ((nb tr v).map iv)) → Q (.ref t) H
def spLayers (C : Addr) : Sp := fun vs H Q _ => ∃ (r : Addr) (tr : List E2) (s : Nat) (b : Option Nat), vs = [.ref r, iv s, bv b] ∧ RailAt C H r tr ∧ s ≤ tr.length ∧
  ∀ (fl : Addr) (fs : List Addr) (H' : Hp), Same H H' → H' fl = some (.lst (fs.map V.ref)) → (∀ (k : Nat) (f : Addr), fs[k]? = some f → H' f = some (.lst (((lyr tr s b k).map Prod.fst).map iv))) → (∀ k, k < fs.length → lyr tr s b k ≠ []) → lyr tr s b fs.length = [] → Q (.ref fl) H'
section
variable {P : Program} {w : World} {K : PySem.W.Frag} {mg : Str → Option Value} {base : Heap}
theorem sc_nbr : FnScope ["self", "station"] ["self", "station"] (defScope s_Railway_neighbours) := ⟨rfl, rfl, rfl, by decide +kernel, rfl, by decide +kernel, by decide +kernel⟩
theorem ok_nbr {f fc C : Addr} {fd fdc : FuncData} (F : Fun K "neighbours" "Railway.neighbours" s_Railway_neighbours f fd) (X : TxtR K mg C) (U : Use P w K mg base CX0 4 "check_station" fc fdc ["railway", "station"] (spChkSt C)) : FnOk P w K mg base CX0 5 f fd ["self", "station"] (spNbr C) := by
  refine F.ok sc_nbr (fun vs H Q E h => ?_) (fun cdv A outer s H vs Q E hr h => ?_)
  · obtain ⟨r, tr, v, rfl, _⟩ := h
    rfl
  · obtain ⟨r, tr, v, rfl, R, hv, k⟩ := h
    refine ⟨_, pss_cons (ps_expr (pe_use U hr rfl (pa_cons (pv 0) (pa_cons (pv 1) pa_nil)))) (pss_one (ps_ret (pe_ix ix_list (pe_fld (pv 0) rfl) (pv 1) (fun _ _ => rfl)))), ?_⟩
    obtain ⟨T, few, dx, tt, na, Aa, L, ps, ts, h1, h2, h3, h4, h5, h6, h7, h8⟩ := id R
    obtain ⟨t, ht⟩ : ∃ t, ts[v]? = some t := ⟨_, List.getElem?_eq_getElem (by omega)⟩
    exact ⟨_, rfl, _, rfl, r, tr, v, rfl, R, hv, _, rfl, r, C, dx, _, _, rfl, h1, X.cl, X.nN, flR_n, _, rfl, na, _, _, _, rfl, rfl, SqL.of h4, atN (map_get ht), k t (h6 v t ht)⟩
abbrev NLy : List Str := ["railway", "station", "barred", "found", "layer", "place", "_", "entered", "near"]
theorem sc_ly : FnScope NLy ["railway", "station", "barred"] (defScope s_layers) := ⟨rfl, rfl, rfl, by decide +kernel, rfl, by decide +kernel, by decide +kernel⟩
theorem ok_layers {f fn C : Addr} {fd fdn : FuncData} (F : Fun K "layers" "layers" s_layers f fd) (X : TxtR K mg C) (m : Meth K C "neighbours" fn) (G : FnOk P w K mg base CX0 5 fn fdn ["self", "station"] (spNbr C)) (bn : Binds K fdn ["self", "station"] []) : FnOk P w K mg base CX0 6 f fd ["railway", "station", "barred"] (spLayers C) := by
  refine F.ok sc_ly (fun vs H Q E h => ?_) (fun cdv A outer s H vs Q E hr h => ?_)
  · obtain ⟨r, tr, s, b, rfl, _⟩ := h
    rfl
  · obtain ⟨r, tr, sn, b, rfl, R, hs, k⟩ := h
    refine ⟨_, pss_cons (ps_set (i := 3) sc_ly.nd rfl (.inl rfl) (pe_lst pa_nil))
      (pss_cons (ps_set (i := 4) sc_ly.nd rfl (.inl rfl) (pe_lst (pa_cons (pe_tup (pa_cons (pv 1) (pa_cons (pv 2) pa_nil))) pa_nil)))
      (pss_cons (ps_while PassesOwn.never (pt_truth (pv 4) (by intro _; rfl))
        (pss_cons (ps_expr (pe_bm PySem.F.plainAttrs_list PySem.F.slot_list_append PySem.F.type_list_append mt_append (pv 3) (pa_cons
          (pe_lc (own := [("place", 5), ("_", 6)]) (g := gTup K 2 (gCons (gName 5) (gCons (gName 6) gNil))) (tt := tYes) rfl sc_ly.nd (pi_list (pv 4)) (blkOk_by (N := NLy) (sc := defScope s_layers) (by decide +kernel))
            (fun _ _ _ _ _ => pg_tupK (K := K) (n := 2) (t := gCons (gName 5) (gCons (gName 6) gNil)) rfl rfl (pgs_cons (pg_name (i := 5) sc_ly.nd rfl (Or.inl rfl)) (pgs_cons (pg_name (i := 6) sc_ly.nd rfl (Or.inl rfl)) pgs_nil)) rfl) (fun _ _ _ _ _ => pts_nil) (fun _ _ _ _ _ => pv 5)) pa_nil)))
        (pss_one (ps_setLc2 (i := 4) (own := [("place", 5), ("entered", 7), ("near", 8)]) (vs1 := [8]) (g := gTup K 2 (gCons (gName 5) (gCons (gName 7) gNil))) (g1 := gName 8) (tt := tYes) (by rfl) sc_ly.nd rfl rfl (sw_true rfl rfl rfl (by decide +kernel)) (pi_list (pv 4)) (blkOk_by (N := NLy) (sc := defScope s_layers) (by decide +kernel)) (by decide)
            (fun _ _ _ _ _ => pg_tupK (K := K) (n := 2) (t := gCons (gName 5) (gCons (gName 7) gNil)) rfl rfl (pgs_cons (pg_name (i := 5) sc_ly.nd rfl (Or.inl rfl)) (pgs_cons (pg_name (i := 7) sc_ly.nd rfl (Or.inl rfl)) pgs_nil)) rfl) (fun _ _ _ _ _ => pts_nil)
            (fun _ _ _ _ _ => pi_tupK (K := K) rfl (pe_meth (pv 0) X.cl m G hr bn .nil pass0 (pa_cons (pv 5) pa_nil))) (fun _ _ _ _ _ => pg_name (i := 8) sc_ly.nd rfl (Or.inl rfl)) (fun _ _ _ _ _ => pts_one (pt_cmpR op_ne (pv 8) (pv 7) (nomark _)))
            (fun _ _ _ _ _ => pe_tup (pa_cons (pv 8) (pa_cons (pv 5) pa_nil)))))))
      (pss_one (ps_ret (pv 3))))), ?_⟩
    obtain ⟨T, few, dx, tt, na, Aa, L, ps, ts, h1, h2⟩ := id R
    have two : (2 : Nat) ≤ sizeLine := by rw [sizeLine_eq]; decide
    refine ⟨by show 0 ≤ sizeLine; exact Nat.zero_le _, fun fl nfl => ?_⟩
    have s0 := same_upd nfl (.lst [])
    have hf0 := upd_same (H := H) (a := fl) (o := .lst [])
    generalize upd H fl (.lst []) = H0 at s0 hf0
    refine ⟨_, rfl, _, rfl, two, fun t0 nt0 => ?_⟩
    have s1 := s0.trans (same_upd nt0 (.tup [iv sn, bv b]))
    have hf1 := same_upd nt0 (.tup [iv sn, bv b]) _ _ hf0
    have ht1 := upd_same (H := H0) (a := t0) (o := .tup [iv sn, bv b])
    generalize upd H0 t0 (.tup [iv sn, bv b]) = H1 at s1 hf1 ht1
    refine ⟨by show 1 ≤ sizeLine; rw [sizeLine_eq]; decide, fun l0 nl0 => ?_⟩
    have sl := same_upd nl0 (.lst [V.ref t0])
    have s2 := s1.trans sl
    have hf2 := sl _ _ hf1
    have lf : l0 ≠ fl := fun z => by rw [z, hf1] at nl0; cases nl0
    have LY0 : LY (upd H1 l0 (.lst [V.ref t0])) l0 [t0] (lyr tr sn b 0) := by
      refine ⟨upd_same, rfl, fun i p x hp hx => ?_⟩
      cases i with
      | zero =>
        have e1 : t0 = p := Option.some.inj hp
        have e2 : (sn, b) = x := Option.some.inj hx
        subst e1 e2
        exact sl _ _ ht1
      | succ i => cases hp
    generalize upd H1 l0 (.lst [V.ref t0]) = H2 at s2 hf2 LY0
    refine ⟨fun m σ H' => ∃ (kk : Nat) (ly : Addr) (es fs : List Addr) (x5 x6 x7 x8 : Option V), m = 2 * tr.length + 3 - kk ∧ σ = [some (.ref r), some (iv sn), some (bv b), some (.ref fl), some (.ref ly), x5, x6, x7, x8] ∧ Same H H' ∧ ly ≠ fl ∧ H' fl = some (.lst (fs.map V.ref)) ∧ fs.length = kk ∧
        (∀ (j : Nat) (f : Addr), fs[j]? = some f → f ≠ fl ∧ H' f = some (.lst (((lyr tr sn b j).map Prod.fst).map iv))) ∧ (∀ j, j < kk → lyr tr sn b j ≠ []) ∧ LY H' ly es (lyr tr sn b kk),
      ⟨_, 0, l0, [t0], [], _, _, _, _, rfl, rfl, s2, lf, hf2, rfl, fun _ _ h => (nomatch h), fun j hj => absurd hj (Nat.not_lt_zero j), LY0⟩, ?_⟩
    clear s0 hf0 s1 hf1 ht1 sl s2 hf2 lf LY0 nt0 nl0 H0 H1 H2 t0 l0
    rintro m σ H1 ⟨kk, ly, es, fs, x5, x6, x7, x8, rfl, rfl, s1, lf, hf1, hk, hfs, hne, Ly⟩
    refine ⟨_, rfl, _, .inl ⟨_, SqL.of Ly.hl, rfl⟩, ?_⟩
    refine ite2 (fun hc => ?_) (fun hc => ?_)
    · have hk0 : lyr tr sn b kk ≠ [] := fun z => by
        have := Ly.len
        rw [z] at this
        have : es = [] := List.length_eq_zero_iff.mp this
        rw [this] at hc
        cases hc
      have hkk := lyr_le T hs hk0
      refine ⟨fun σ' H' => ∃ (ly : Addr) (es fs : List Addr) (x5 x6 x7 x8 : Option V), σ' = [some (.ref r), some (iv sn), some (bv b), some (.ref fl), some (.ref ly), x5, x6, x7, x8] ∧ Same H H' ∧ ly ≠ fl ∧ H' fl = some (.lst (fs.map V.ref)) ∧ fs.length = kk + 1 ∧
          (∀ (j : Nat) (f : Addr), fs[j]? = some f → f ≠ fl ∧ H' f = some (.lst (((lyr tr sn b j).map Prod.fst).map iv))) ∧ (∀ j, j < kk + 1 → lyr tr sn b j ≠ []) ∧ LY H' ly es (lyr tr sn b (kk + 1)),
        fun σ' H' ⟨ly, es, fs, x5, x6, x7, x8, e⟩ => ⟨2 * tr.length + 3 - (kk + 1), by omega, kk + 1, ly, es, fs, x5, x6, x7, x8, rfl, e⟩, ?_⟩
      have llen := lyr_len T (b := b) hs kk
      refine ⟨_, rfl, .inl ⟨rfl, _, SqL.of hf1⟩, _, rfl, ly, rfl, ⟨_, SqL.of Ly.hl⟩, fun D nD => ?_⟩
      have Df : D ≠ fl := fun z => by rw [z, hf1] at nD; cases nD
      refine lc_list (K := K) (a := ly) (xs := es.map V.ref) (fun i H' => H' = upd H1 D (.lst ((((lyr tr sn b kk).take i).map Prod.fst).map iv))) rfl (fun i H' _ e => by rw [e]; exact SqL.of (same_upd nD _ _ _ Ly.hl)) ?_ ?_
      · rintro i v H' hv rfl
        obtain ⟨p, hp, rfl⟩ := map_got hv
        have hil := (List.getElem?_eq_some_iff.mp hp).1
        rw [Ly.len] at hil
        have hx := List.getElem?_eq_getElem hil
        have ha := same_upd nD (.lst ((((lyr tr sn b kk).take i).map Prod.fst).map iv)) _ _ (Ly.at_ i p _ hp hx)
        refine ⟨p, _, rfl, SqT.of ha, rfl, _, _, rfl, _, _, rfl, rfl, rfl, _, rfl, _, upd_same, by rw [List.length_map, List.length_map, List.length_take, sizeLine_eq]; omega, ?_⟩
        rw [upd_upd, take_snoc hx, List.map_append, List.map_append]
        rfl
      · rintro H' rfl
        have e1 : (lyr tr sn b kk).take (es.map V.ref).length = lyr tr sn b kk := List.take_of_length_le (by rw [List.length_map, Ly.len]; exact Nat.le_refl _)
        rw [e1]
        have sD := same_upd nD (.lst (((lyr tr sn b kk).map Prod.fst).map iv))
        have hD2 := upd_same (H := H1) (a := D) (o := .lst (((lyr tr sn b kk).map Prod.fst).map iv))
        generalize upd H1 D (.lst (((lyr tr sn b kk).map Prod.fst).map iv)) = H2 at sD hD2
        refine ⟨fl, _, _, rfl, rfl, sD _ _ hf1, by rw [List.length_map, hk, sizeLine_eq]; omega, ?_⟩
        have s3 := same_old (s1.trans sD) nfl (.lst (fs.map V.ref ++ [V.ref D]))
        have hf3 : upd H2 fl (.lst (fs.map V.ref ++ [V.ref D])) fl = some (.lst ((fs ++ [D]).map V.ref)) := by rw [upd_same, List.map_append]; rfl
        have hfs3 : ∀ (j : Nat) (f : Addr), (fs ++ [D])[j]? = some f → f ≠ fl ∧ upd H2 fl (.lst (fs.map V.ref ++ [V.ref D])) f = some (.lst (((lyr tr sn b j).map Prod.fst).map iv)) := fun j f h => by
          rcases get_snoc h with h | ⟨e1, rfl⟩
          · obtain ⟨g1, g2⟩ := hfs j f h
            exact ⟨g1, by rw [upd_ne g1]; exact sD _ _ g2⟩
          · exact ⟨Df, by rw [upd_ne Df, e1, hk]; exact hD2⟩
        have Ly3 : LY (upd H2 fl (.lst (fs.map V.ref ++ [V.ref D]))) ly es (lyr tr sn b kk) := by
          have l2 := Ly.same sD
          exact ⟨by rw [upd_ne lf]; exact l2.hl, l2.len, fun i p x a1 a2 => by rw [upd_ne (ne_of (l2.at_ i p x a1 a2) (sD _ _ hf1) (by intro z; cases z))]; exact l2.at_ i p x a1 a2⟩
        generalize upd H2 fl (.lst (fs.map V.ref ++ [V.ref D])) = H3 at s3 hf3 hfs3 Ly3
        clear sD hD2 Ly hfs hf1 s1 nD H2
        -- the next layer
        refine ⟨_, rfl, ly, rfl, ⟨_, SqL.of Ly3.hl⟩, fun E' nE => ?_⟩
        have Ef : E' ≠ fl := fun z => by rw [z, hf3] at nE; cases nE
        have sE := same_upd nE (.lst [])
        have nlen := lyr_len T (b := b) hs (kk + 1)
        refine ⟨fun i m H' => m = (es.map V.ref).length - i ∧ i ≤ (es.map V.ref).length ∧ ∃ es2, Same H3 H' ∧ LY H' E' es2 (((lyr tr sn b kk).take i).flatMap (nxt tr)), ⟨_, rfl, Nat.zero_le _, [], sE, ⟨upd_same, rfl, fun _ _ _ h => (nomatch h)⟩⟩, ?_⟩
        rintro i m H4 ⟨rfl, hi, es2, s4, Ly4⟩
        have q4 : SqL K H4 ly (es.map V.ref) := SqL.of (s4 _ _ Ly3.hl)
        by_cases hlt : i < (es.map V.ref).length
        · refine .inr ⟨⟨_, _, q4, List.getElem?_eq_getElem hlt⟩, fun H' => ∃ es2, Same H3 H' ∧ LY H' E' es2 (((lyr tr sn b kk).take (i + 1)).flatMap (nxt tr)), fun H' p' => ⟨(es.map V.ref).length - (i + 1), by omega, rfl, hlt, p'⟩, fun x G4 y => ?_⟩
          obtain ⟨e, y⟩ := y
          subst e
          obtain ⟨p, hp, rfl⟩ := map_got (y _ q4)
          have hil := (List.getElem?_eq_some_iff.mp hp).1
          rw [Ly3.len] at hil
          have hx := List.getElem?_eq_getElem hil
          have ha := s4 _ _ (Ly3.at_ i p _ hp hx)
          have hxle := (lyr_ms T hs kk _ (List.mem_of_getElem? hx)).2
          have pre : (((lyr tr sn b kk).take (i + 1)).flatMap (nxt tr)).length ≤ (lyr tr sn b (kk + 1)).length := by
            show _ ≤ ((lyr tr sn b kk).flatMap (nxt tr)).length
            rw [show (lyr tr sn b kk).flatMap (nxt tr) = ((lyr tr sn b kk).take (i + 1)).flatMap (nxt tr) ++ ((lyr tr sn b kk).drop (i + 1)).flatMap (nxt tr) by rw [← List.flatMap_append, List.take_append_drop], List.length_append]
            omega
          have enx : ((lyr tr sn b kk).take (i + 1)).flatMap (nxt tr) = ((lyr tr sn b kk).take i).flatMap (nxt tr) ++ nxt tr ((lyr tr sn b kk)[i]) := by
            rw [take_snoc hx, List.flatMap_append]
            simp
          generalize (lyr tr sn b kk)[i] = x at hx ha hxle enx
          obtain ⟨v, e⟩ := x
          have R4 := R.same (s3.trans s4)
          have h14 := (s3.trans s4) _ _ h1
          refine ⟨p, _, rfl, SqT.of ha, rfl, _, _, rfl, _, _, rfl, rfl, rfl, _, rfl, r, dx, _, rfl, h14, flR_no (by decide +kernel) (by decide +kernel) (by decide +kernel) (by decide +kernel), _, rfl, r, tr, v, rfl, R4, hxle, fun t ht => ?_⟩
          refine ⟨t, rfl, ⟨_, SqT.of ht⟩, ?_⟩
          have tE : t ≠ E' := ne_of ht Ly4.hl (by intro z; cases z)
          have toS : ∀ {H5 : Hp}, FrB E' G4 H5 → Same H3 H5 := fun {H5} F c o ec => F _ _ (s4 _ _ ec) (ne_of_none ec nE)
          have blen : (((lyr tr sn b kk).take i).flatMap (nxt tr)).length + (nb tr v).length ≤ 5000 := by
            have h9 : (((lyr tr sn b kk).take i).flatMap (nxt tr)).length ≤ (lyr tr sn b (kk + 1)).length := by
              have := congrArg List.length enx
              rw [List.length_append] at this
              omega
            have := nb_len tr v
            omega
          refine ⟨fun j m H' => m = ((nb tr v).map iv).length - j ∧ j ≤ ((nb tr v).map iv).length ∧ ∃ es2, FrB E' G4 H' ∧ LY H' E' es2 (((lyr tr sn b kk).take i).flatMap (nxt tr) ++ (((nb tr v).take j).filter fun w => decide (some w ≠ e)).map fun w => (w, some v)), ⟨_, rfl, Nat.zero_le _, es2, (fun _ _ z _ => z), by simpa using Ly4⟩, ?_⟩
          rintro j m H5 ⟨rfl, hj, es3, F5, Ly5⟩
          have q5 : SqT K H5 t ((nb tr v).map iv) := SqT.of (F5 _ _ ht tE)
          by_cases hlj : j < ((nb tr v).map iv).length
          · refine .inr ⟨⟨_, _, q5, List.getElem?_eq_getElem hlj⟩, fun H' => ∃ es2, FrB E' G4 H' ∧ LY H' E' es2 (((lyr tr sn b kk).take i).flatMap (nxt tr) ++ (((nb tr v).take (j + 1)).filter fun w => decide (some w ≠ e)).map fun w => (w, some v)), fun H' p' => ⟨((nb tr v).map iv).length - (j + 1), by omega, rfl, hlj, p'⟩, fun x H' y => ?_⟩
            obtain ⟨e1, y⟩ := y
            subst e1
            obtain ⟨nw, hw, rfl⟩ := map_got (y _ q5)
            have esp : (((nb tr v).take (j + 1)).filter fun w => decide (some w ≠ e)) = (((nb tr v).take j).filter fun w => decide (some w ≠ e)) ++ [nw].filter fun w => decide (some w ≠ e) := by
              rw [take_snoc hw, List.filter_append]
            have sc : scal (iv nw) (bv e) = true := by cases e <;> rfl
            have eqe : (iv nw = bv e) ↔ some nw = e := by
              cases e with
              | none => exact ⟨fun z => (nomatch z), fun z => (nomatch z)⟩
              | some n => exact ⟨fun z => congrArg some (iv_inj.mp z), fun z => iv_inj.mpr (Option.some.inj z)⟩
            refine ⟨rfl, _, rfl, _, rfl, sc, _, rfl, ?_⟩
            refine ite2 (fun hd => ?_) (fun hd => ?_)
            · have hne2 : some nw ≠ e := fun z => by
                rw [decide_eq_true (eqe.mpr z)] at hd
                cases hd
              refine ⟨_, rfl, _, rfl, two, fun u nu => ⟨es3.map V.ref, same_upd nu _ _ _ Ly5.hl, ?_, es3 ++ [u], ?_, ?_⟩⟩
              · rw [List.length_map, Ly5.len, List.length_append, List.length_map, sizeLine_eq]
                have h1 := List.length_filter_le (fun w => decide (some w ≠ e)) ((nb tr v).take j)
                rw [List.length_take] at h1
                omega
              · intro c o ec nc
                have h5 := F5 _ _ ec nc
                rw [upd_ne nc, upd_ne (ne_of_none h5 nu)]
                exact h5
              · have e4 : [nw].filter (fun w => decide (some w ≠ e)) = [nw] := by
                  rw [List.filter_cons_of_pos (by simp [hne2]), List.filter_nil]
                rw [esp, e4, List.map_append, ← List.append_assoc]
                exact Ly5.grow nu (x := (nw, some v))
            · have he2 : some nw = e := by
                by_cases c : some nw = e
                · exact c
                · exfalso
                  apply hd
                  rw [decide_eq_false (fun z => c (eqe.mp z))]
                  rfl
              have e3 : [nw].filter (fun w => decide (some w ≠ e)) = [] := by
                rw [List.filter_cons_of_neg (by simp [he2]), List.filter_nil]
              rw [esp, e3, List.append_nil]
              exact ⟨es3, F5, Ly5⟩
          · refine .inl ⟨⟨_, q5, by omega⟩, es3, toS F5, ?_⟩
            rw [enx]
            have e3 : (nb tr v).take j = nb tr v := List.take_of_length_le (by rw [List.length_map] at hlj; omega)
            rw [e3] at Ly5
            exact Ly5
        · refine .inl ⟨⟨_, q4, by omega⟩, ?_⟩
          have e3 : (lyr tr sn b kk).take i = lyr tr sn b kk := List.take_of_length_le (by rw [← Ly3.len]; rw [List.length_map] at hlt; omega)
          rw [e3] at Ly4
          exact ⟨E', es2, fs ++ [D], _, _, _, _, rfl, s3.trans s4, Ef, s4 _ _ hf3, by rw [List.length_append, hk]; rfl, fun j f h => ⟨(hfs3 j f h).1, s4 _ _ (hfs3 j f h).2⟩, fun j hj => (by
            by_cases c : j < kk
            · exact hne j c
            · have : j = kk := by omega
              rw [this]
              exact hk0), Ly4⟩
    · have he : lyr tr sn b kk = [] := by
        cases e : lyr tr sn b kk with
        | nil => rfl
        | cons x l =>
          exfalso
          apply hc
          have := Ly.len
          rw [e] at this
          cases es with
          | nil => cases this
          | cons a l => rfl
      exact ⟨_, rfl, k fl fs H1 s1 hf1 (fun j f h => (hfs j f h).2) (fun j hj => hne j (by omega)) (by rw [hk]; exact he)⟩
end
end TR

namespace L2.TT
open PySem PySem.Spec PyProof.Rows PySem.W

/-- an exception stands at a: of the class at C, with these fields -/
def ExcAt (H : Hp) (a C : Addr) (fs : List (Str × V)) : Prop := ∃ d, H a = some (exo a C (some d)) ∧ H d = some (exd d fs)
theorem ExcAt.same {H H' : Hp} {a C : Addr} {fs : List (Str × V)} (e : ExcAt H a C fs) (s : Same H H') : ExcAt H' a C fs := by
  obtain ⟨d, h1, h2⟩ := e
  exact ⟨d, s _ _ h1, s _ _ h2⟩

section
variable {X : Cx} {pins : List (Addr × Obj)} {σ : St} {H : Hp} {s : Shared} {a C : Addr} {f : Str} {y : V} {u : Value} {Q : Unit → Shared → Prop} {E : Value → Shared → Prop} {A : Around} {B newId initId : String} {bmB : List Value}
/-- self.f = y on an exception that is being made: its dict is laid -/
theorem xset_first (Y : XB B newId initId bmB) (T : XC X.K C bmB newId) (I : Inv X pins σ H s) (e : H a = some (exo a C none)) (hno : findIn X.K (.ref C) f = some none) (ry : RelV y u)
    (h : ∀ dx s', H dx = none → dx ≠ a → Inv X pins σ (upd (upd H dx (exd dx [(f, y)])) a (exo a C (some dx))) s' → Q () s') : wpAny (model X.prog X.w) A (setAttr (.ref a) f u) Q E s := by
  obtain ⟨t1, ho⟩ := exo_at I.hok e
  obtain ⟨hp, g, d, t, os⟩ := s
  refine set_plain I.kIn (ox := excObj C t1 none .none) (od := none) ⟨ho, rfl, rfl, trivial⟩ T.sa ?_
  refine osa_first Y T I.kIn ho hno (fun h' tk' hn hs => ?_)
  have nda : hp.objs.size ≠ a := (Nat.ne_of_lt (Heap.lt_size ho)).symm
  have fr : H hp.objs.size = none := I.hok.fresh (Nat.le_refl _)
  -- the dict, empty
  have n0 : (hp.push (dictOf [] 0)).Ns1 hp.objs.size (fun _ => none) := Heap.Ns1.of_empty ⟨_, #[], _, Heap.get?_push_at rfl rfl, rfl, fun e he => absurd he (by simp), fun _ => rfl⟩
  have I1 := I.laid (t' := t) (a := hp.objs.size) (o := exd hp.objs.size []) (h' := hp.push (dictOf [] 0)) (fun b o e => Heap.get?_push_of_some _ e) (Nat.le_refl _) (exd_ok n0 fun _ => True.intro)
  have ho1 : (hp.push (dictOf [] 0)).get? a = some (excObj C t1 none .none) := Heap.get?_push_of_some _ ho
  have hx2 : (dictLaid hp a).get? a = some (excObj C t1 (some hp.objs.size) .none) := Heap.get?_update_self _ ho1 rfl
  have ea1 : upd H hp.objs.size (exd hp.objs.size []) a = some (exo a C none) := by rw [upd_ne nda.symm]; exact e
  have I2 := I1.write (t' := t) (x := a) (e := a) (o := exo a C (some hp.objs.size)) (h' := dictLaid hp a) (by rw [ea1]; exact True.intro) (.inl rfl) (fun b o hb e => (Heap.get?_update_ne _ _ _ _ hb).trans e) ⟨_, hx2⟩ (exo_ok hx2)
  have ed2 : upd (upd H hp.objs.size (exd hp.objs.size [])) a (exo a C (some hp.objs.size)) hp.objs.size = some (exd hp.objs.size []) := by rw [upd_ne nda, upd_same]
  have I3 := I2.write (t' := tk') (x := hp.objs.size) (e := hp.objs.size) (o := exd hp.objs.size [(f, y)]) (h' := h') (by rw [ed2]; exact True.intro) (.inl rfl) (fun b o hb e => (hs.2 b hb).trans e)
    (by obtain ⟨o, _, _, q, _⟩ := hn; exact ⟨o, q⟩) (exd_ok hn (relO_put (fs := []) ry fun g => True.intro))
  refine h hp.objs.size _ fr nda ?_
  have eq : upd (upd (upd H hp.objs.size (exd hp.objs.size [])) a (exo a C (some hp.objs.size))) hp.objs.size (exd hp.objs.size [(f, y)]) = upd (upd H hp.objs.size (exd hp.objs.size [(f, y)])) a (exo a C (some hp.objs.size)) := by
    funext b
    by_cases h1 : b = hp.objs.size
    · rw [h1, upd_same, upd_ne nda, upd_same]
    · rw [upd_ne h1]
      by_cases h2 : b = a
      · rw [h2, upd_same, upd_same]
      · rw [upd_ne h2, upd_ne h1, upd_ne h2, upd_ne h1]
  rw [← eq]
  exact I3
/-- self.f = y, a further field -/
theorem xset_more (Y : XB B newId initId bmB) (T : XC X.K C bmB newId) {dx : Addr} {fs : List (Str × V)} (I : Inv X pins σ H s) (e : H a = some (exo a C (some dx))) (ed : H dx = some (exd dx fs)) (hl : fs.length ≤ 900) (hno : findIn X.K (.ref C) f = some none) (ry : RelV y u)
    (h : ∀ s', Inv X pins σ (upd H dx (exd dx ((f, y) :: fs))) s' → Q () s') : wpAny (model X.prog X.w) A (setAttr (.ref a) f u) Q E s := by
  obtain ⟨t1, ho⟩ := exo_at I.hok e
  obtain ⟨mA, hns, rel⟩ := exd_at I.hok ed
  have hw := within_of rel
  obtain ⟨hp, g, d, t, os⟩ := s
  obtain ⟨oD, _, _, hoD, _, _⟩ := hns.count hw
  have ht : takerIn X.K C f = some none := by unfold takerIn; rw [hno]; rfl
  refine set_plain I.kIn (ox := excObj C t1 (some dx) .none) (od := some oD) ⟨ho, rfl, rfl, hoD⟩ T.sa ?_
  refine osa_openX (s := ⟨hp, g, d, t + 1, os⟩) (od := some oD) Y.st I.kIn ⟨ho, rfl, rfl, hoD⟩ T.ovr ht fun b => ?_
  obtain ⟨cd, hc, hd'⟩ := any_some T.hd
  refine wpAny_bind (wpAny_pure (wpAny_bind (wpAny_bind (wpAny_loadPart (s := ⟨hp, g, d, t + 1, os⟩) ho (wpAny_bind ((looks_clsIn (h := hp) I.kIn hc).at ?_))))))
  rw [hd']
  refine wpAny_pure (a := some dx) ?_
  refine OEX.store_in_old hns hw (by rw [List.length_map]; omega) fun h' tk' hn hs => ?_
  refine h _ (I.write (t' := tk') (x := dx) (e := dx) (o := exd dx ((f, y) :: fs)) (by rw [ed]; exact True.intro) (.inl rfl) (fun b o hb e => (hs.2 b hb).trans e) ?_ (exd_ok hn (relO_put ry rel)))
  obtain ⟨o, _, _, e', _⟩ := hn
  exact ⟨o, e'⟩
end

/-- self.f = e, self an exception that is being made -/
def tXst (K : Frag) (f : Str) (to te : TE) : TS := fun D σ H => te σ H fun y H1 => to σ H1 fun x H2 => ∃ (a C : Addr) (B newId initId : String) (bmB : List Value), x = .ref a ∧ XB B newId initId bmB ∧ XC K C bmB newId ∧ findIn K (.ref C) f = some none ∧
  ((H2 a = some (exo a C none) ∧ ∀ dx, H2 dx = none → dx ≠ a → D.nx σ (upd (upd H2 dx (exd dx [(f, y)])) a (exo a C (some dx)))) ∨
    ∃ (dx : Addr) (fs : List (Str × V)), H2 a = some (exo a C (some dx)) ∧ H2 dx = some (exd dx fs) ∧ fs.length ≤ 900 ∧ D.nx σ (upd H2 dx (exd dx ((f, y) :: fs))))
section
variable {X : Cx} {o e : Expr} {to te : TE} {f : Str} {p' pos : Pos}
theorem ps_xst (ho : PE X o to) (he : PE X e te) (hs : swapsWith e (some (.Attribute o f p')) pos.line X.env = pure false := by rfl) : PS X (.Assign [.Attribute o f p'] e pos) (tXst X.K f to te) := by
  refine ⟨fun pins s σ H D I h => ?_⟩
  refine plainObj_wpAny_Assign_Attribute (thn (he.run pins s σ H _ I h) fun v s1 ⟨y, H1, I1, r1, q1⟩ => thn (ho.run pins s1 σ H1 _ I1 q1) fun u s2 ⟨x, H2, I2, r2, a, C, B, newId, initId, bmB, ex, Y, T, hno, q⟩ => ?_) hs
  subst ex
  obtain rfl : u = Value.ref a := r2
  rcases q with ⟨ea, q⟩ | ⟨dx, fs, ea, ed, hl, q⟩
  · exact xset_first Y T I2 ea hno r1 fun dx s' n ne J => ⟨σ, _, J, q dx n ne⟩
  · exact xset_more Y T I2 ea ed hl hno r1 fun s' J => ⟨σ, _, J, q⟩
end

/-- the promise of an __init__ that stores its one argument -/
def spI1 (C : Addr) (f : Str) : Sp := fun vs H Q _ => ∃ (a : Addr) (y : V), vs = [.ref a, y] ∧ H a = some (exo a C none) ∧ ∀ d, H d = none → d ≠ a → Q .non (upd (upd H d (exd d [(f, y)])) a (exo a C (some d)))
/-- .. its two arguments -/
def spI2 (C : Addr) (f g : Str) : Sp := fun vs H Q _ => ∃ (a : Addr) (y z : V), vs = [.ref a, y, z] ∧ H a = some (exo a C none) ∧ ∀ d, H d = none → d ≠ a → Q .non (upd (upd H d (exd d [(g, z), (f, y)])) a (exo a C (some d)))
end L2.TT

namespace L2.TT
open PySem PySem.Spec PyProof.Rows PySem.W
open Builtin

/-! ### the call of an exception class with keywords -/
section
variable {prog : Program} {w : World} {A : Around} {E : Value → Shared → Prop} {R : Result → Shared → Prop} {h : Heap} {g : Array GenState} {d : Drawn} {t : Nat} {os : OsState}
variable {nm q : Str} {C N : Addr} {bs bm bmB : List Value} {hdct : Bool} {sn : List Str} {sub : List Value} {ab : Bool} {col : Option Bool} {dd : Option Addr} {k0 k1 k2 k3 k5 : Option Value} {B newId initId : String} {rest : List Value} {kw : List (Str × Value)}
theorem chk_call (hC : h.get? C = some (excClassObj nm q C N bs bm hdct sn sub ab col dd k0 k1 k2 k3 k5 newId)) {Q : Unit → Shared → Prop}
    (hq : Q () ⟨h, g, d, t, os⟩) : wpAny (model prog w) A (checkBuiltinCall "type.__call__" ⟨.ref C :: rest, kw⟩) Q E ⟨h, g, d, t, os⟩ := by
  have hTy : (⟨h, g, d, t, os⟩ : Shared).TypeIs (.ref C) "type" := ⟨_, hC, rfl⟩
  have f3 := tc_sub
  simp only [checkBuiltinCall, tc_kind, tc_split]
  repeat (any_goals (first | assumption | with_reducible refine wpAny_loadPart_at hC ?_ | with_reducible refine wpAny_onRaise ?_ | with_reducible refine wpAny_map ?_ | wp_step))

theorem chk_new (F : ExcBaseFacts B newId initId bmB) (hT : ∀ X : String, bm.contains (.type X) = bmB.contains (.type X)) {Q : Unit → Shared → Prop}
    (hC : h.get? C = some (excClassObj nm q C N bs bm hdct sn sub ab col dd k0 k1 k2 k3 k5 newId)) (hq : Q () ⟨h, g, d, t, os⟩) : wpAny (model prog w) A (checkBuiltinCall newId ⟨.ref C :: rest, kw⟩) Q E ⟨h, g, d, t, os⟩ := by
  have c1 : (Value.ref C :: bm).contains (.type B) = true := by rw [List.contains_cons, hT, F.hasB, Bool.or_true]
  have c2 := F.noStar
  simp only [checkBuiltinCall, F.newKind, F.newSplit, F.newRow]
  repeat (first | refine wpAny_loadPart_at hC ?_ | (refine wpAny_isSubtype_exc hC ?_; rw [c1]) | refine wpAny_staticBase_exc hC ?_ | refine wpAny_madeBy_exc hC ?_ | simp only [bne_self_eq_false, Bool.false_eq_true, if_false] | wp_step)
  exact hq
theorem run_new (F : ExcBaseFacts B newId initId bmB) (hT : ∀ X : String, bm.contains (.type X) = bmB.contains (.type X))
    (hC : h.get? C = some (excClassObj nm q C N bs bm hdct sn sub ab col dd k0 k1 k2 k3 k5 newId))
    (hq : R (.ok (.ret (.ref (h.objs.size + 1)))) ⟨(h.push (kdv_tup rest)).push (HandSPX.excO C h.objs.size), g, d, t, os⟩) (hrest : rest.length ≤ sizeLine) :
    codeAny (model prog w) A (.builtin newId ⟨.ref C :: rest, kw⟩) R ⟨h, g, d, t, os⟩ := by
  have c0 := F.ends
  have c1 : (Value.ref C :: bm).contains (.type B) = true := by rw [List.contains_cons, hT, F.hasB, Bool.or_true]
  have c2 : (Value.ref C :: bm).contains (.type "AttributeError") = false := by rw [List.contains_cons, hT, F.noAttr]; rfl
  have c3 : (Value.ref C :: bm).contains (.type "NameError") = false := by rw [List.contains_cons, hT, F.noName]; rfl
  refine codeAny_builtinAt F.entry ?_
  unfold Builtin.«BaseException.__new__»
  refine PySem.wpAt_bind ?_
  show PySem.wpAt _ _ _ (stack >>= _) _ _ _
  refine PySem.wpAt_bind (PySem.wpAt_stack fun p below => PySem.wpAt_of_wpAny ?_)
  wp_walk
  refine PySem.wpAt_of_wpAny ?_
  rw [F.owner]
  repeat (first | with_reducible refine wpAny_madeHere_exc F.canon hC ?_ | with_reducible refine wpAny_loadPart_at hC ?_ | (with_reducible refine wpAny_isSubtype_exc hC ?_; first | rw [c1] | rw [c2] | rw [c3]) | wp_step)
  show R _ _
  rw [Heap.size_push]
  exact hq
theorem typ_call (F : ExcBaseFacts B newId initId bmB) (hT : ∀ X : String, bm.contains (.type X) = bmB.contains (.type X)) {fI : Addr} {Q : Fin → Shared → Prop}
    (hC : h.get? C = some (excClassObj nm q C N bs bm hdct sn sub ab col dd k0 k1 k2 k3 k5 newId))
    (hi : Looks (model prog w) h (typeLookup (.ref C) "__init__") (some (.ref fI))) (hb : ∀ self, Looks (model prog w) h (bindSpecial (.ref fI) self) (.ref fI, [self])) (hrest : rest.length ≤ sizeLine)
    (hq : codeAny (model prog w) A (.call (.ref fI) ⟨.ref (h.objs.size + 1) :: rest, kw⟩)
      (fun r s' => match r with | .ok (.ret v) => v = .none ∧ Q (.done (.ret (.ref (h.objs.size + 1)))) s' | .ok _ => False | .error e => E e s')
      ⟨(h.push (kdv_tup rest)).push (HandSPX.excO C h.objs.size), g, d, t, os⟩) :
    wpAny (model prog w) A (Builtin.«type.__call__» ⟨.ref C :: rest, kw⟩) Q E ⟨h, g, d, t, os⟩ := by
  repeat (first | with_reducible refine wpAny_loadPart_at hC ?_ | with_reducible refine wpAny_madeBy_exc hC ?_ | wp_step)
  refine codeAny_call_builtin_code (Code.quiet_builtin _ F.quiet) (chk_new F hT hC ?_)
  refine run_new F hT hC ?_ hrest
  show wpAny _ _ _ _ _ _
  have k : ∀ b o, h.get? b = some o → ((h.push (kdv_tup rest)).push (HandSPX.excO C h.objs.size)).get? b = some o := fun b o e => Heap.get?_push_of_some _ (Heap.get?_push_of_some _ e)
  have hC₁ := k _ _ hC
  have hget : ((h.push (kdv_tup rest)).push (HandSPX.excO C h.objs.size)).get? (h.objs.size + 1) = some (HandSPX.excO C h.objs.size) := by heap_get
  have hcC : (Value.ref C :: bm).contains (.ref C) = true := by simp
  have i1 := hi.keeps k
  have b1 := (hb (.ref (h.objs.size + 1))).keeps k
  unfold isInstance
  repeat (first | with_reducible refine wpAny_loadPart_at hget ?_ | (with_reducible refine wpAny_isSubtype_exc hC₁ ?_; rw [hcC]) | wp_step)
  show wpAny _ _ (typeLookup (.ref C) _) _ _ _
  refine i1.at ?_
  refine wpAny_holding (wpAny_bind (b1.at ?_))
  refine wpAny_bind (wpAny_call (codeAny_mono hq fun r s' z => ?_))
  rcases r with e | (v | _ | _ | _) <;> first | exact z | exact z.elim | skip
  obtain ⟨rfl, z⟩ := z
  first
    | exact wpAny_pure (wpAny_pure z)
    | (wp_walk; exact z)
theorem call_exc (F : ExcBaseFacts B newId initId bmB) (hT : ∀ X : String, bm.contains (.type X) = bmB.contains (.type X)) {fI : Addr}
    (hC : h.get? C = some (excClassObj nm q C N bs bm hdct sn sub ab col dd k0 k1 k2 k3 k5 newId))
    (hi : Looks (model prog w) h (typeLookup (.ref C) "__init__") (some (.ref fI))) (hb : ∀ self, Looks (model prog w) h (bindSpecial (.ref fI) self) (.ref fI, [self])) (hrest : rest.length ≤ sizeLine)
    (hq : codeAny (model prog w) (A.under (.builtin "type.__call__" ⟨.ref C :: rest, kw⟩)) (.call (.ref fI) ⟨.ref (h.objs.size + 1) :: rest, kw⟩) (InitBack (h.objs.size + 1) R)
      ⟨(h.push (kdv_tup rest)).push (HandSPX.excO C h.objs.size), g, d, t, os⟩) :
    codeAny (model prog w) A (.call (.ref C) ⟨rest, kw⟩) R ⟨h, g, d, t, os⟩ := by
  have f1 := tc_lookup
  have f2 := tc_bind (.ref C)
  have hTy : (⟨h, g, d, t, os⟩ : Shared).TypeIs (.ref C) "type" := ⟨_, hC, rfl⟩
  refine codeAny_of_tree ?_
  show wpAny _ _ (callAny (.ref C) _) _ _ _
  repeat (any_goals (first | assumption | with_reducible refine wpAny_loadPart_at hC ?_ | wp_step))
  refine ⟨rfl, ?_⟩
  refine codeAny_call_builtin_at (Code.quiet_builtin _ (by decide +kernel)) entry_typeCall (chk_call hC (typ_call F hT hC hi hb hrest ?_))
  refine codeAny_mono hq fun r s' z => ?_
  rcases r with e | (v | _ | _ | _) <;> exact z
end
end L2.TT

namespace L2.TT
open PySem PySem.Spec PyProof.Rows PySem.W

/-! ### C(e, ..), C(k = v, ..): a new exception as a value -/
section
variable {X : Cx} {CX : CXT} {k n : Nat} {f C : Addr} {fd : FuncData} {ps ks : List Str} {sp : Sp} {E : XK} {x : Str} {p pos : Pos} {e : Expr} {es : List Expr} {kws : List Keyword} {ta tk : TA} {g : List Value → List Value → List Value} {gV : List V → List V → List V}
variable {B newId initId : String} {bmB : List Value}
/-- the new exception's __init__ is run -/
theorem run_xmk {pins : List (Addr × Obj)} {σ : St} {H : Hp} {s : Shared} {Q : VK} {us ws its : List Value} {zs : List V} (Y : XB B newId initId bmB) (T : XC X.K C bmB newId) (iC : findIn X.K (.ref C) "__init__" = some (some (.ref f))) (tI : typeIn X.K (.ref f) = some (.type "function"))
    (F : FnOk X.prog X.w X.K X.mg X.base CX k f fd ps sp) (hr : Room (k + 1) X.A) (hx : Passes CX X E) (I : Inv X pins σ H s) (hus : us.length ≤ sizeLine)
    (hb : ∀ (s : Shared) (a : Addr), X.K.In s.heap → BindsTo s fd ⟨.ref a :: us, ks.zip ws⟩ (ps.zip (.ref a :: its))) (r : Vals zs its)
    (h : ∀ a, H a = none → sp (.ref a :: zs) (upd H a (exo a C none)) (fun v H2 => v = .non ∧ Q (.ref a) H2) E) :
    wpAny (model X.prog X.w) X.A (call (.ref C) us (ks.zip ws)) (EP X pins σ Q) X.xe s := by
  obtain ⟨nm, N, qn, bs, bm, hdct, sn, sub, ab, col, dd, k0, k1, k2, k3, k5, hC, hT⟩ := excInit_of I.kIn T.ini
  obtain ⟨hp, g, dr, tk, os⟩ := s
  have hsz : hp.objs.size ≤ hp.objs.size + 1 := Nat.le_succ _
  have hn : H (hp.objs.size + 1) = none := I.hok.fresh hsz
  have hq := h (hp.objs.size + 1) hn
  have kk : ∀ b o, hp.get? b = some o → ((hp.push (kdv_tup us)).push (HandSPX.excO C hp.objs.size)).get? b = some o := fun b o e => Heap.get?_push_of_some _ (Heap.get?_push_of_some _ e)
  have hget : ((hp.push (kdv_tup us)).push (HandSPX.excO C hp.objs.size)).get? (hp.objs.size + 1) = some (HandSPX.excO C hp.objs.size) := by heap_get
  have I2 : Inv X pins σ (upd H (hp.objs.size + 1) (exo (hp.objs.size + 1) C none)) ⟨(hp.push (kdv_tup us)).push (HandSPX.excO C hp.objs.size), g, dr, tk, os⟩ :=
    I.laid (t' := tk) (a := hp.objs.size + 1) (o := exo (hp.objs.size + 1) C none) (h' := (hp.push (kdv_tup us)).push (HandSPX.excO C hp.objs.size)) kk hsz (exo_ok hget)
  have r2 : Vals (V.ref (hp.objs.size + 1) :: zs) (Value.ref (hp.objs.size + 1) :: its) := .cons rfl r
  refine wpAny_call (call_exc Y.ex hT hC (looks_findIn I.kIn iC) (fun self => bind_fn I.kIn self tI) hus
    (codeAny_mono (F.run _ X.stack _ _ ⟨Value.ref (hp.objs.size + 1) :: us, ks.zip ws⟩ (Value.ref (hp.objs.size + 1) :: its) _ _ E (hr.make C us (ks.zip ws)) (I2.env0.make C us (ks.zip ws)) (hb _ _ I2.kIn) r2 hq) fun r s' hq' => ?_))
  cases r with
  | error er => exact hx pins σ _ _ er s' I2 hq'
  | ok fl =>
    cases fl with
    | ret u =>
      obtain ⟨v, H2, I3, rv, ev, q2⟩ := I2.after hq'
      subst ev
      exact ⟨rv, .ref (hp.objs.size + 1), H2, I3, rfl, q2⟩
    | next => exact False.elim hq'
    | brk => exact False.elim hq'
    | cont => exact False.elim hq'
/-- C(e, ..) -/
def tXmk (C : Addr) (sp : Sp) (dvs : List V) (E : XK) (ta : TA) : TE := fun σ H Q => ta σ H fun vs H1 => vs.length ≤ 1000 ∧ ∀ a, H1 a = none → sp (.ref a :: (vs ++ dvs)) (upd H1 a (exo a C none)) (fun v H2 => v = .non ∧ Q (.ref a) H2) E
theorem small_of {us : List Value} {vs : List V} (r : Vals vs us) (h : vs.length ≤ 1000) : us.length ≤ sizeLine := by
  rw [← r.length, sizeLine_eq]
  omega
theorem pe_xmk {ds : List Value} {dvs : List V} (Y : XB B newId initId bmB) (T : XC X.K C bmB newId) (iC : findIn X.K (.ref C) "__init__" = some (some (.ref f))) (tI : typeIn X.K (.ref f) = some (.type "function"))
    (F : FnOk X.prog X.w X.K X.mg X.base CX k f fd ps sp) (hr : Room (k + 1) X.A) (hb : Binds X.K fd ps ds) (hd : Vals dvs ds) (hx : Passes CX X E) (hg : Gl X x) (hm : X.mg x = some (.ref C)) (ha : PA X (e :: es) ta)
    (hdb : (x == ("__debug__" : Str)) = false := by decide) (he : starEach (e :: es) X.env = (false, eval e X.env) :: starEach es X.env := by rfl) (hpl : (backTo pos (starEach es X.env)).any (·.1) = false := by rfl) :
    PE X (.Call (.Name x p) (e :: es) [] pos) (tXmk C sp dvs E ta) := by
  refine ⟨fun pins s σ H Q I h => ?_⟩
  refine wpAny_Call_Name_kw (ld_glob I hg hm ?_ hdb)
  refine callWith_K (h₀ := X.base) I.ok.mod.kin T.kp (thn (ha.run pos pins s σ H _ I h) fun us s1 ⟨vs, H1, I1, r1, hz, q1⟩ => ⟨I1.kIn, ?_⟩) he hpl
  have hlen : (vs ++ dvs).length + 1 = ps.length := by
    have := F.len _ _ _ _ (q1 _ (I1.hok.fresh (Nat.le_refl _)))
    rw [List.length_cons] at this
    exact this
  refine run_xmk (ks := []) (ws := []) (us := us) (its := us ++ ds) (zs := vs ++ dvs) Y T iC tI F hr hx I1 (small_of r1 hz) (fun s a X0 => ?_) (r1.append hd) q1
  exact hb s (.ref a :: us) X0 (by
    have := (r1.append hd).length
    rw [List.cons_append, List.length_cons, ← this]
    exact hlen)
/-- C(), the defaults fill up -/
theorem pe_xmk0 {ds : List Value} {dvs : List V} (Y : XB B newId initId bmB) (T : XC X.K C bmB newId) (iC : findIn X.K (.ref C) "__init__" = some (some (.ref f))) (tI : typeIn X.K (.ref f) = some (.type "function"))
    (F : FnOk X.prog X.w X.K X.mg X.base CX k f fd ps sp) (hr : Room (k + 1) X.A) (hb : Binds X.K fd ps ds) (hd : Vals dvs ds) (hx : Passes CX X E) (hg : Gl X x) (hm : X.mg x = some (.ref C))
    (hdb : (x == ("__debug__" : Str)) = false := by decide) :
    PE X (.Call (.Name x p) [] [] pos) (tXmk C sp dvs E tNil) := by
  refine ⟨fun pins s σ H Q I h => ?_⟩
  obtain ⟨hz, q1⟩ := h
  refine wpAny_Call_Name_kw (ld_glob I hg hm ?_ hdb)
  refine callWith_K0 I.kIn T.kp ?_
  have hlen : dvs.length + 1 = ps.length := by
    have := F.len _ _ _ _ (q1 _ (I.hok.fresh (Nat.le_refl _)))
    rw [List.length_cons] at this
    exact this
  refine run_xmk (ks := []) (ws := []) (us := []) (its := ds) (zs := dvs) Y T iC tI F hr hx I (Nat.zero_le _) (fun s a X0 => ?_) hd q1
  exact hb s [.ref a] X0 (by
    have := hd.length
    rw [List.length_append, ← this, List.length_singleton, Nat.add_comm]
    exact hlen)
/-- C(k = v, ..) -/
def tXmkK (C : Addr) (m : Nat) (sp : Sp) (gV : List V → List V) (E : XK) (tk : TA) : TE := fun σ H Q => tk σ H fun zs H1 => zs.length = m ∧ ∀ a, H1 a = none → sp (.ref a :: gV zs) (upd H1 a (exo a C none)) (fun v H2 => v = .non ∧ Q (.ref a) H2) E
theorem pe_xmkK {gg : List Value → List Value} {hV : List V → List V} (Y : XB B newId initId bmB) (T : XC X.K C bmB newId) (iC : findIn X.K (.ref C) "__init__" = some (some (.ref f))) (tI : typeIn X.K (.ref f) = some (.type "function"))
    (F : FnOk X.prog X.w X.K X.mg X.base CX k f fd ps sp) (hr : Room (k + 1) X.A)
    (hb : ∀ (s : Shared) (a : Addr) (ws : List Value), X.K.In s.heap → ws.length = ks.length → BindsTo s fd ⟨[.ref a], ks.zip ws⟩ (ps.zip (.ref a :: gg ws))) (hrel : ∀ {zs : List V} {ws : List Value}, zs.length = ks.length → Vals zs ws → Vals (hV zs) (gg ws))
    (hx : Passes CX X E) (hg : Gl X x) (hm : X.mg x = some (.ref C)) (hkw : PK X kws tk)
    (hall : (backToKw pos (keywordEach kws X.env)).all (·.1.isSome) = true := by rfl) (hks : (backToKw pos (keywordEach kws X.env)).filterMap (·.1) = ks := by rfl) (hdb : (x == ("__debug__" : Str)) = false := by decide)
    (hpl : ((backTo pos (starEach [] X.env)).any (·.1) || (backToKw pos (keywordEach kws X.env)).any (·.1.isNone)) = false := by rfl) :
    PE X (.Call (.Name x p) [] kws pos) (tXmkK C ks.length sp hV E tk) := by
  refine ⟨fun pins s σ H Q I h => ?_⟩
  refine wpAny_Call_Name_kw (ld_glob I hg hm ?_ hdb)
  refine callWith_KW0 (h₀ := X.base) I.ok.mod.kin T.kp hall ?_ hpl
  refine thn (hkw.run pos pins s σ H _ I h) fun ws s2 ⟨zs, H2, I2, rz, l2, q2⟩ => ⟨I2.kIn, ?_⟩
  rw [hks]
  exact run_xmk (us := []) (its := gg ws) (zs := hV zs) Y T iC tI F hr hx I2 (Nat.zero_le _) (fun s a X0 => hb s a ws X0 (rz.length.symm.trans l2)) (hrel l2 rz) q2
end

/-! ### e.f, isinstance(e, C) -/
theorem inst_of {P : Program} {w : World} {H : Hp} {h : Heap} {a C : Addr} {fs : List (Str × V)} (hok : HOk P w H h) (e : ExcAt H a C fs) : ∃ (t1 dd : Addr) (od : Obj) (mA : Str → Option Value),
    InstAt h a { cls := .ref C, dict := some dd, data := .fields #[.ref t1, .none, .none, .none, .bool false, .none] } C (some od) ∧ h.Ns1 dd mA ∧ (∀ f, RelO (fs.lookup f) (mA f)) ∧ (∀ f v, mA f = some v → lookIn f od = some (some v)) := by
  obtain ⟨d, h1, h2⟩ := e
  obtain ⟨t1, ho⟩ := exo_at hok h1
  obtain ⟨mA, hns, rel⟩ := exd_at hok h2
  obtain ⟨od, hod, hl⟩ := lookIn_ns hns
  refine ⟨t1, d, od, mA, ⟨ho, rfl, rfl, hod⟩, hns, rel, fun f v e => by rw [hl, e]⟩
/-- e.f, e an exception that stands there -/
def tXget (K : Frag) (te : TE) (n : Str) : TE := fun σ H Q => te σ H fun x H1 => ∃ (a C : Addr) (fs : List (Str × V)) (v : V) (newId : String) (bmB : List Value), x = .ref a ∧ XC K C bmB newId ∧ findIn K (.ref C) n = some none ∧ ExcAt H1 a C fs ∧ fs.lookup n = some v ∧ Q v H1
/-- isinstance(e, c) -/
def rXis (K : Frag) : List V → Hp → VK → Prop := fun xs H Q => ∃ (a C : Addr) (c : V) (u : Value) (fs : List (Str × V)) (newId : String) (bmB : List Value) (b : Bool), xs = [.ref a, c] ∧ ClsV c u ∧ XC K C bmB newId ∧ ExcAt H a C fs ∧ kitOne K (.ref C) u = some b ∧ Q (.bl b) H
/-- isinstance(e, (c1, c2, ..)) -/
def rXisT (K : Frag) : List V → Hp → VK → Prop := fun xs H Q => ∃ (a C tp : Addr) (cs : List V) (us : List Value) (fs : List (Str × V)) (newId : String) (bmB : List Value) (b : Bool), xs = [.ref a, .ref tp] ∧ H tp = some (.tup cs) ∧ Paired ClsV cs us ∧ XC K C bmB newId ∧ ExcAt H a C fs ∧ kitAny K (.ref C) us = some b ∧ Q (.bl b) H
section
variable {X : Cx} {e : Expr} {te : TE} {n : Str} {pos : Pos}
theorem pe_xget (he : PE X e te) (hb : attributeBase e n X.env (eval e X.env) = eval e X.env := by rfl) : PE X (.Attribute e n pos) (tXget X.K te n) := by
  refine ⟨fun pins s σ H Q I h => ?_⟩
  refine attr_of hb (thn (he.run pins s σ H _ I h) fun u s1 hh => ?_)
  obtain ⟨x, H1, I1, rx, a, C, fs, v, newId, bmB, ex, T, hno, ea, l, q⟩ := hh
  subst ex
  obtain rfl : u = Value.ref a := rx
  obtain ⟨t1, dd, od, mA, J, hns, rel, hl⟩ := inst_of I1.hok ea
  obtain ⟨u, hu, ru⟩ := RelO.some_of (v := v) (o := mA n) (by rw [← l]; exact rel n)
  exact HandSPX.exc_get I1.kIn J T.ga T.gg T.sub (findObj_own T.hd hno rfl (hl n u hu)) (handed_of ru) ⟨v, H1, I1.tok _, ru, q⟩
/-- what the written part says of object's __class__ -/
structure KCls (K : Frag) : Prop where
  gt : specialIn K (.builtin "object.__class__") "__get__" = some (some (.builtin "getset_descriptor.__get__"))
  tk : takesIn K (.builtin "object.__class__") = some true
theorem kit_exc {K : Frag} {a C : Addr} {bmB : List Value} {newId : String} {ox : Obj} {od : Option Obj} (Z : KCls K) (T : XC K C bmB newId) : KitX K (.ref a) (.ref C) (fun h => InstAt h a ox C od) :=
  kitx_exc (by obtain ⟨cd, hc, _⟩ := any_some T.hd; rw [hc]; rfl) T.ga T.gg T.sub T.ca Z.gt Z.tk T.ob
theorem call_xis (Z : KCls X.K) : CallR X (.builtin "isinstance") (rXis X.K) := by
  intro pins s σ H xs us Q I r h
  obtain ⟨a, C, c, u, fs, newId, bmB, b, rfl, k, T, ea, e, q⟩ := h
  obtain ⟨u1, u2, rfl, r1, r2⟩ := vals2 r
  have e2 := k.eq r2
  subst e2
  obtain rfl : u1 = Value.ref a := r1
  obtain ⟨t1, dd, od, mA, J, _⟩ := inst_of I.hok ea
  exact kia_one (kit_exc Z T) I.kIn J e (fun z => nomatch z) fun tk => ⟨.bl b, H, I.tok tk, rfl, q⟩
theorem call_xisT (Z : KCls X.K) : CallR X (.builtin "isinstance") (rXisT X.K) := by
  intro pins s σ H xs us Q I r h
  obtain ⟨a, C, tp, cs, ws, fs, newId, bmB, b, rfl, hT, k, T, ea, e, q⟩ := h
  obtain ⟨u1, u2, rfl, r1, r2⟩ := vals2 r
  obtain rfl : u1 = Value.ref a := r1
  cases (show u2 = Value.ref tp from r2)
  obtain ⟨t1, dd, od, mA, J, _⟩ := inst_of I.hok ea
  obtain ⟨_, its, rv, o, h1, h2, n, h3⟩ := (show ObjOk X.prog X.w H s.heap tp (.tup cs) from I.hok tp _ hT)
  have e3 := ClsV.all k rv
  subst e3
  obtain ⟨oc, od', dt, sl⟩ := o
  simp only at h2 h3
  subst h2 h3
  exact kia_tup (kit_exc Z T) I.kIn J h1 e (fun z => nomatch z) fun tk => ⟨.bl b, H, I.tok tk, rfl, q⟩
end
end L2.TT

namespace L2.TT
open PySem PySem.Spec PyProof.Rows

/-! ### a def's promise where no repr is under way: repr asks the guards -/
def NoGuard (A : Around) : Prop := A.guards = some []
structure FnG (P : Program) (w : World) (K : PySem.W.Frag) (mg : Str → Option Value) (base : Heap) (CX : CXT) (k : Nat) (f : Addr) (fd : FuncData) (ps : List Str) (sp : Sp) : Prop where
  len : ∀ vs H Q E, sp vs H Q E → vs.length = ps.length
  run : ∀ (A : Around) (outer : List Env) (s : Shared) (H : Hp) (args : Args) (us : List Value) (vs : List V) (Q : VK) (E : XK), NoGuard A → Room k A → Env0 P w K mg base A outer s H → BindsTo s fd args (ps.zip us) → Vals vs us → sp vs H Q E →
    codeAny (model P w) A (.call (.ref f) args) (CR CX outer P w H s Q E) s

/-- a def by its body, where no repr is under way -/
theorem fnG_of {CX : CXT} {P : Program} {w : World} {K : PySem.W.Frag} {mg : Str → Option Value} {base : Heap} {k : Nat} {f : Addr} {name qual : Str} {params : Arguments} {body : List Stmt} {scope : Scope} {dV kV doc pm cdv ct oc : Value} {an od : Option Addr}
    {osl : Array (Option Value)} {N ps : List Str} {sp : Sp} (lk : K.lookup f = some ⟨oc, od, .func (PySem.W.fnOf name qual params body scope dV kV doc pm an cdv ct), osl⟩) (hcd : PySem.W.codeIn K cdv qual = true) (S : FnScope N ps scope)
    (len : ∀ vs H Q E, sp vs H Q E → vs.length = ps.length)
    (hbody : ∀ (A : Around) (outer : List Env) (s : Shared) (H : Hp) (vs : List V) (Q : VK) (E : XK), NoGuard (A.deeper (envOfC qual scope s.heap.objs.size f cdv)) → Room k (A.deeper (envOfC qual scope s.heap.objs.size f cdv)) → sp vs H Q E →
      ∃ t, PSs (cxOf CX P w K mg base N qual scope f cdv A outer s H E) body t ∧ t { nx := fun _ H' => Q .non H', rt := Q } (start N vs) H) :
    FnG P w K mg base CX (k + 1) f (PySem.W.fnOf name qual params body scope dV kV doc pm an cdv ct) ps sp := by
  refine ⟨len, fun A outer s H args us vs Q E hG hr e0 hb r hsp => ?_⟩
  have KX : K.In s.heap := e0.mod.kin.keeps fun b o e => (e0.bs b o e).1
  have lim : s.heap.NoLimit := e0.mod.nolimit.keeps fun b o e => (e0.bs b o e).1
  refine codeAny_call_function hr.depth (KX _ _ lk) rfl S.co S.gen rfl (PySem.W.codeRec_of KX hcd) (hb _ _ _ _ ?_)
  refine wpAny_newFunctionEnv_cells S.kind (fun ⟨n, v⟩ hy => ?_) fun env he s1 x => ?_
  · rcases S.par n (List.of_mem_zip hy).1 with q | q
    · exact .inl q
    · exact .inr ⟨q, PySem.W.cellsFrom_some _ _ _ (.inl q)⟩
  · subst he
    refine ⟨lim.keeps x.toInCall.keep, codeAny_func ?_⟩
    obtain ⟨t, ht, hq⟩ := hbody A outer s H vs Q E hG (hr.deeper _) hsp
    have I : Inv (cxOf CX P w K mg base N qual scope f cdv A outer s H E) [] (start N vs) H s1 := inv_start S hr.hd e0 (len _ _ _ _ hsp) r x
    refine wpAny_mono (ht.run [] s1 (start N vs) H _ I hq) (fun fl s' hs => ?_) fun e s' hs => hs
    cases fl with
    | ret u =>
      obtain ⟨v, σ', H', J, rv, q⟩ := hs
      exact ⟨v, H', J.os, J.bare, J.base, J.hok, rv, q⟩
    | next =>
      obtain ⟨σ', H', J, q⟩ := hs
      exact ⟨.non, H', J.os, J.bare, J.base, J.hok, rfl, q⟩
    | brk => exact hs.elim fun _ z => z.elim fun _ y => y.2.elim
    | cont => exact hs.elim fun _ z => z.elim fun _ y => y.2.elim
section
variable {P : Program} {w : World} {K : PySem.W.Frag} {mg : Str → Option Value} {base : Heap}
theorem Fun.okG {x qual : Str} {st : Stmt} {f : Addr} {fd : FuncData} {N ps : List Str} {k : Nat} {sp : Sp} (F : Fun K x qual st f fd) (S : FnScope N ps (defScope st)) (len : ∀ vs H Q E, sp vs H Q E → vs.length = ps.length)
    (hbody : ∀ (cdv : Value) (A : Around) (outer : List Env) (s : Shared) (H : Hp) (vs : List V) (Q : VK) (E : XK), NoGuard (A.deeper (envOfC qual (defScope st) s.heap.objs.size f cdv)) → Room k (A.deeper (envOfC qual (defScope st) s.heap.objs.size f cdv)) → sp vs H Q E →
      ∃ t, PSs (cxOf CX0 P w K mg base N qual (defScope st) f cdv A outer s H E).nox (defBody st) t ∧ t { nx := fun _ H' => Q .non H', rt := Q } (start N vs) H) : FnG P w K mg base CX0 (k + 1) f fd ps sp := by
  obtain ⟨oc, od, kV, doc, pm, an, cdv, ct, osl, rfl, lk, hcd⟩ := F.ex
  refine fnG_of lk hcd S len fun A outer s H vs Q E hG hr hsp => ?_
  obtain ⟨t, h, q⟩ := hbody cdv A outer s H vs Q E hG hr hsp
  exact ⟨t, h.nox, q⟩
end

/-- what the script's object is taken for: known, or an object of the module -/
def scriptHp (K : PySem.W.Frag) (a : Addr) (o : Obj) (xs : List V) : Hp := fun b => if b = a ∧ K.lookup a = none then some (.frz o (.lst xs)) else none
theorem lawG_call {P : Program} {w : World} {K : PySem.W.Frag} {mg mb : Str → Option Value} {k : Nat} {fa a : Addr} {fd : FuncData} {x : Str} {sp : Sp} {s₁ : Shared} {vs : List Value} {ns : List Int}
    (KX : K.In s₁.heap) (hns : s₁.heap.Ns mainGlobals mg) (hb : s₁.heap.Ns builtinsNs mb) (hbb : ∀ x : Str, x ≠ "__name__" → mb x = bootBuiltins x) (hlim : s₁.heap.NoLimit) (hg : s₁.gens = #[])
    (ha : s₁.heap.get? a = some { cls := .type "list", data := .seq vs.toArray }) (hi : IntsAre vs ns) (hl : ns.length ≤ sizeLine) (hr : Room k callerA)
    (F : ∀ base : Heap, K.In base → base.Ns mainGlobals mg → FnG P w K mg base CX0 k fa fd [x] sp) (hbind : ∀ (s : Shared) (u : Value), BindsTo s fd ⟨[u], []⟩ [(x, u)])
    (hsp : ∀ H : Hp, Only H → SqL K H a (ns.map V.int) → sp [.ref a] H (fun v _ => v = .bl true) fun _ _ _ => False) :
    codeAny (model P w) callerA (.call (.ref fa) ⟨[.ref a], []⟩) (fun r s' => r = .ok (.ret (.bool true)) ∧ OldK s₁.heap s'.heap ∧ s'.os = s₁.os ∧ AllBare s'.gens) s₁ := by
  have rv := vals_ints hi
  have lenV := hi.length
  generalize eH : scriptHp K a { cls := .type "list", data := .seq vs.toArray } (ns.map V.int) = H
  have at_ : ∀ b u, H b = some u → b = a ∧ K.lookup a = none ∧ u = .frz { cls := .type "list", data := .seq vs.toArray } (.lst (ns.map V.int)) := fun b u z => by
    rw [← eH] at z
    unfold scriptHp at z
    by_cases c : b = a ∧ K.lookup a = none
    · rw [if_pos c] at z
      exact ⟨c.1, c.2, (Option.some.inj z).symm⟩
    · rw [if_neg c] at z
      cases z
  have hO : Only H := fun b => by
    cases q : H b with
    | none => exact .inl rfl
    | some u =>
      obtain ⟨_, _, e⟩ := at_ b u q
      exact .inr ⟨_, _, by rw [e]⟩
  have hok : HOk P w H s₁.heap := fun b u z => by
    obtain ⟨e1, _, e2⟩ := at_ b u z
    subst e1 e2
    exact ⟨ha, by rw [List.length_map]; exact hl, vs, _, rv, ha⟩
  have hS : SqL K H a (ns.map V.int) := by
    cases hk : K.lookup a with
    | some o =>
      have e := KX a o hk
      rw [ha] at e
      cases e
      exact .inr ⟨_, vs.toArray, _, hk, rfl, rfl, rfl, by rw [List.size_toArray, lenV]; exact hl, by simpa using rv⟩
    | none => exact .inl (.inr ⟨{ cls := .type "list", data := .seq vs.toArray }, by rw [← eH]; exact if_pos ⟨rfl, hk⟩⟩)
  -- the base: what is not tracked
  have off : ∀ {b : Addr} {o : Obj}, s₁.heap.get? b = some o → (b = a → K.lookup a ≠ none ∨ o.data ≠ .seq vs.toArray) → H b = none := fun {b o} e n => by
    cases q : H b with
    | none => rfl
    | some u =>
      obtain ⟨e1, e2, _⟩ := at_ b u q
      rcases n e1 with z | z
      · exact absurd e2 z
      · rw [e1, ha] at e
        cases e
        exact absurd rfl z
  have ns0 : ∀ {b : Addr} {m : Str → Option Value}, s₁.heap.Ns b m → (hidT s₁.heap H).Ns b m := fun {b m} ⟨o, es, ep, e, d, r⟩ =>
    ⟨o, es, ep, hidT_get e (off e fun _ => .inr (by rw [d]; intro z; cases z)), d, r⟩
  have hKb : K.In (hidT s₁.heap H) := fun b o e => hidT_get (KX b o e) (off (KX b o e) fun z => .inl (by rw [← z, e]; intro y; cases y))
  have hM : Mod K mg (hidT s₁.heap H) := ⟨hKb, ns0 hns, ⟨mb, ns0 hb, hbb⟩, let ⟨mc, h1, h2⟩ := hlim; ⟨mc, ns0 h1, h2⟩⟩
  have e0 : Env0 P w K mg (hidT s₁.heap H) callerA [] s₁ H := ⟨rfl, hM, fun b o e => of_hidT e, Nat.le_of_eq (hidT_size _ _), trivial, fun b hb => absurd (show b ∈ ([] : List Addr) from hb) (by simp), hok, .of_eq hg⟩
  refine codeAny_mono ((F _ hKb (ns0 hns)).run callerA [] s₁ H ⟨[.ref a], []⟩ [.ref a] [.ref a] _ _ rfl hr e0 (hbind s₁ (.ref a)) (.cons rfl .nil) (hsp H hO hS)) fun r s' h => ?_
  cases r with
  | error e => exact h.elim
  | ok fl =>
    cases fl with
    | next => exact False.elim h
    | brk => exact False.elim h
    | cont => exact False.elim h
    | ret u =>
      obtain ⟨v, H', os, bare, un, hok', r', q⟩ := h
      have q' : v = .bl true := q
      subst q'
      obtain rfl : u = Value.bool true := r'
      refine ⟨rfl, OldK.of_keep fun b o e => ?_, os, bare⟩
      cases q : H b with
      | none => exact un.keep b o e q (fun z => absurd (show b ∈ ([] : List Addr) from z) (by simp)) (by simp)
      | some u =>
        obtain ⟨e1, _, e2⟩ := at_ b u q
        rw [e2] at q
        obtain ⟨z, _⟩ := hok' b _ (un.frzs b _ _ q)
        rw [e1, ha] at e
        cases e
        rw [e1]
        rw [e1] at z
        exact z
theorem walkG_of {l : PySem.W.OpenLaw} {n k : Nat} {q : Program} {loose : List Str} {XP : (Str → Option Value) → Heap → Prop} {YP : World → Heap → Prop} {d : DefRec} {K : Params → PySem.W.Frag} {sp : World → Sp} {x : Str}
    (hn : l.most = some n) (hn2 : n ≤ sizeLine) (hdf : d.params.defaults = []) (hr : Room k callerA)
    (hY : ∀ (w : World) (h : Heap), YP w h → (K w.params).In h)
    (F : ∀ (w : World) (mg : Str → Option Value) (fa : Addr) (h : Heap), (K w.params).In h → h.Ns mainGlobals mg → mg d.name = some (.ref fa) →
      ∃ fd : FuncData, (∀ (s : Shared) (u : Value), BindsTo s fd ⟨[u], []⟩ [(x, u)]) ∧
        ∀ base : Heap, (K w.params).In base → base.Ns mainGlobals mg → FnG l.prog w (K w.params) mg base CX0 k fa fd [x] (sp w))
    (hsp : ∀ (w : World) (H : Hp) (a : Addr) (ns : List Int), ns.length ≤ n → Only H → SqL (K w.params) H a (ns.map V.int) → sp w [.ref a] H (fun v _ => v = .bl true) fun _ _ _ => False) :
    PySem.W.WalkO q loose XP YP l.row.toRowW d [] (fun f vs => PySem.call f vs) := by
  refine Att.attach_call hn hdf fun w s₀ s₁ mg mb fa o pm cd doc a vs ns G Y ho hd hcd hmg hobj hints hlen hg => ?_
  obtain ⟨fd, hb, hF⟩ := F w mg fa _ (hY w _ Y) G.T.g hmg
  exact lawG_call (hY w _ Y) G.T.g G.T.b G.T.builtins G.T.nolimit hg hobj hints (Nat.le_trans hlen hn2) hr hF hb fun H hO hS => hsp w H a ns hlen hO hS
end L2.TT

namespace L2.TT
open PySem PySem.Spec PyProof.Rows

/-! ### the exception classes of the program that keep one field -/
theorem PE.imp {X : Cx} {e : Expr} {t t' : TE} (h : PE X e t) (i : ∀ σ H Q, t' σ H Q → t σ H Q) : PE X e t' := ⟨fun pins s σ H Q I q => h.run pins s σ H Q I (i σ H Q q)⟩
section
variable {P : Program} {w : World} {K : PySem.W.Frag} {mg : Str → Option Value} {base : Heap} {C fI : Addr} {fd : FuncData} {f g : Str} {B newId initId qual : String} {bmB : List Value} {st : Stmt} {dvs : List V}
/-- an __init__ that stores its one argument -/
theorem ok_init1 {q : Str} (F : FunD K "__init__" q (defArgs st) (defBody st) (defScope st) dvs [] fI fd) (Y : XB B newId initId bmB) (T : XC K C bmB newId) (nF : PySem.W.findIn K (.ref C) f = some none)
    (hb : ∃ p1 p2 p3 p4, defBody st = [.Assign [.Attribute (.Name "self" p1) f p2] (.Name f p3) p4]) (sc : FnScope ["self", f] ["self", f] (defScope st)) (v0 : Vis (defScope st) "self") (v1 : Vis (defScope st) f)
    (h1 : (f == ("__debug__" : Str)) = false) (h2 : (f == ("__classdict__" : Str)) = false) : FnOk P w K mg base CX0 1 fI fd ["self", f] (spI1 C f) := by
  obtain ⟨p1, p2, p3, p4, hb⟩ := hb
  refine F.ok sc (fun vs H Q E h => ?_) (fun cdv A outer s H vs Q E hr h => ?_)
  · obtain ⟨a, y, rfl, _⟩ := h
    rfl
  · obtain ⟨a, y, rfl, ha, k⟩ := h
    rw [hb]
    refine ⟨_, pss_one (ps_xst (pe_var (i := 0) rfl v0) (pe_var (i := 1) rfl v1 h1 h2)), ?_⟩
    refine ⟨_, rfl, _, rfl, a, C, B, newId, initId, bmB, rfl, Y, T, nF, .inl ⟨ha, fun dx n ne => ?_⟩⟩
    exact k dx n ne
/-- .. its two arguments -/
theorem ok_init2 {q : Str} (F : FunD K "__init__" q (defArgs st) (defBody st) (defScope st) dvs [] fI fd) (Y : XB B newId initId bmB) (T : XC K C bmB newId) (nF : PySem.W.findIn K (.ref C) f = some none) (nG : PySem.W.findIn K (.ref C) g = some none)
    (hb : ∃ p1 p2 p3 p4 p5 p6 p7 p8, defBody st = [.Assign [.Attribute (.Name "self" p1) f p2] (.Name f p3) p4, .Assign [.Attribute (.Name "self" p5) g p6] (.Name g p7) p8]) (sc : FnScope ["self", f, g] ["self", f, g] (defScope st)) (v0 : Vis (defScope st) "self") (v1 : Vis (defScope st) f) (v2 : Vis (defScope st) g)
    (h1 : (f == ("__debug__" : Str)) = false) (h2 : (f == ("__classdict__" : Str)) = false) (h3 : (g == ("__debug__" : Str)) = false) (h4 : (g == ("__classdict__" : Str)) = false) : FnOk P w K mg base CX0 1 fI fd ["self", f, g] (spI2 C f g) := by
  obtain ⟨p1, p2, p3, p4, p5, p6, p7, p8, hb⟩ := hb
  refine F.ok sc (fun vs H Q E h => ?_) (fun cdv A outer s H vs Q E hr h => ?_)
  · obtain ⟨a, y, z, rfl, _⟩ := h
    rfl
  · obtain ⟨a, y, z, rfl, ha, k⟩ := h
    rw [hb]
    refine ⟨_, pss_cons (ps_xst (pe_var (i := 0) rfl v0) (pe_var (i := 1) rfl v1 h1 h2)) (pss_one (ps_xst (pe_var (i := 0) rfl v0) (pe_var (i := 2) rfl v2 h3 h4))), ?_⟩
    refine ⟨_, rfl, _, rfl, a, C, B, newId, initId, bmB, rfl, Y, T, nF, .inl ⟨ha, fun dx n ne => ?_⟩⟩
    refine ⟨_, rfl, _, rfl, a, C, B, newId, initId, bmB, rfl, Y, T, nG, .inr ⟨dx, [(f, y)], upd_same, by rw [upd_ne ne, upd_same], (by show 1 ≤ 900; decide), ?_⟩⟩
    have e : upd (upd (upd H dx (exd dx [(f, y)])) a (exo a C (some dx))) dx (exd dx [(g, z), (f, y)]) = upd (upd H dx (exd dx [(g, z), (f, y)])) a (exo a C (some dx)) := by
      funext b
      by_cases h1 : b = dx
      · rw [h1, upd_same, upd_ne ne, upd_same]
      · rw [upd_ne h1]
        by_cases h2 : b = a
        · rw [h2, upd_same, upd_same]
        · rw [upd_ne h2, upd_ne h1, upd_ne h2, upd_ne h1]
    show Q .non _
    rw [e]
    exact k dx n ne
end

/-- such a class, as the program has it -/
structure XCl (P : Program) (w : World) (K : PySem.W.Frag) (mg : Str → Option Value) (base : Heap) (x : Str) (C : Addr) (f : Str) : Prop where
  ex : ∃ (B newId initId : String) (bmB : List Value) (fI : Addr) (fd : FuncData), XB B newId initId bmB ∧ XC K C bmB newId ∧ PySem.W.findIn K (.ref C) "__init__" = some (some (.ref fI)) ∧ PySem.W.typeIn K (.ref fI) = some (.type "function") ∧
    FnOk P w K mg base CX0 1 fI fd ["self", f] (spI1 C f) ∧ (∀ (s : Shared) (a u : Value), K.In s.heap → BindsTo s fd ⟨[a, u], []⟩ [("self", a), (f, u)]) ∧ (∀ (s : Shared) (a u : Value), K.In s.heap → BindsTo s fd ⟨[a], [(f, u)]⟩ [("self", a), (f, u)])
  nF : PySem.W.findIn K (.ref C) f = some none
  mgC : mg x = some (.ref C)
/-- .. with None as the field's default -/
structure XCl0 (P : Program) (w : World) (K : PySem.W.Frag) (mg : Str → Option Value) (base : Heap) (x : Str) (C : Addr) (f : Str) : Prop where
  ex : ∃ (B newId initId : String) (bmB : List Value) (fI : Addr) (fd : FuncData), XB B newId initId bmB ∧ XC K C bmB newId ∧ PySem.W.findIn K (.ref C) "__init__" = some (some (.ref fI)) ∧ PySem.W.typeIn K (.ref fI) = some (.type "function") ∧
    FnOk P w K mg base CX0 1 fI fd ["self", f] (spI1 C f) ∧ (∀ (s : Shared) (a : Value), K.In s.heap → BindsTo s fd ⟨[a], []⟩ [("self", a), (f, .none)])
  mgC : mg x = some (.ref C)
/-- .. with two fields -/
structure XCl2 (P : Program) (w : World) (K : PySem.W.Frag) (mg : Str → Option Value) (base : Heap) (x : Str) (C : Addr) (f g : Str) : Prop where
  ex : ∃ (B newId initId : String) (bmB : List Value) (fI : Addr) (fd : FuncData), XB B newId initId bmB ∧ XC K C bmB newId ∧ PySem.W.findIn K (.ref C) "__init__" = some (some (.ref fI)) ∧ PySem.W.typeIn K (.ref fI) = some (.type "function") ∧
    FnOk P w K mg base CX0 1 fI fd ["self", f, g] (spI2 C f g) ∧ (∀ (s : Shared) (a u v : Value), BindsTo s fd ⟨[a, u, v], []⟩ [("self", a), (f, u), (g, v)]) ∧ (∀ (s : Shared) (a u v : Value), BindsTo s fd ⟨[a], [(g, v), (f, u)]⟩ [("self", a), (f, u), (g, v)]) ∧
    (∀ (s : Shared) (a u v : Value), BindsTo s fd ⟨[a], [(f, u), (g, v)]⟩ [("self", a), (f, u), (g, v)])
  nF : PySem.W.findIn K (.ref C) f = some none
  nG : PySem.W.findIn K (.ref C) g = some none
  mgC : mg x = some (.ref C)

/-- a new exception with the field y -/
def tMk1 (C : Addr) (f : Str) (te : TE) : TE := fun σ H Q => te σ H fun y H1 => ∀ a H2, H1 a = none → Same H1 H2 → ExcAt H2 a C [(f, y)] → Q (.ref a) H2
def tMk0 (C : Addr) (f : Str) : TE := fun _ H Q => ∀ a H2, H a = none → Same H H2 → ExcAt H2 a C [(f, .non)] → Q (.ref a) H2
def tMk2 (C : Addr) (f g : Str) (te tg : TE) : TE := fun σ H Q => te σ H fun y H1 => tg σ H1 fun z H2 => ∀ a H3, H2 a = none → Same H2 H3 → ExcAt H3 a C [(g, z), (f, y)] → Q (.ref a) H3
/-- the same, the second field's value first -/
def tMk2r (C : Addr) (f g : Str) (te tg : TE) : TE := fun σ H Q => tg σ H fun z H1 => te σ H1 fun y H2 => ∀ a H3, H2 a = none → Same H2 H3 → ExcAt H3 a C [(g, z), (f, y)] → Q (.ref a) H3
theorem made_at {H : Hp} {a C d : Addr} {fs : List (Str × V)} (na : H a = none) (nd : H d = none) (ne : d ≠ a) : Same H (upd (upd H d (exd d fs)) a (exo a C (some d))) ∧ ExcAt (upd (upd H d (exd d fs)) a (exo a C (some d))) a C fs :=
  ⟨fun b o e => by rw [upd_ne (ne_of_none e na), upd_ne (ne_of_none e nd)]; exact e, d, upd_same, by rw [upd_ne ne, upd_same]⟩
theorem upd_over {H : Hp} {a d : Addr} {o u v : HO} (ne : d ≠ a) : upd (upd (upd H a o) d u) a v = upd (upd H d u) a v := by
  funext b
  by_cases h : b = a
  · rw [h, upd_same, upd_same]
  · rw [upd_ne h, upd_ne h]
    by_cases h2 : b = d
    · rw [h2, upd_same, upd_same]
    · rw [upd_ne h2, upd_ne h2, upd_ne h]
theorem none_of_upd {H : Hp} {a d : Addr} {o : HO} (h : upd H a o d = none) : H d = none ∧ d ≠ a := by
  by_cases e : d = a
  · rw [e, upd_same] at h
    cases h
  · rw [upd_ne e] at h
    exact ⟨h, e⟩
/-- what is asked of one argument, of two -/
def one (φ : V → Hp → Prop) : List V → Hp → Prop
  | [y], H => φ y H
  | _, _ => False
def two (φ : V → V → Hp → Prop) : List V → Hp → Prop
  | [y, z], H => φ y z H
  | _, _ => False
theorem one_of {φ : V → Hp → Prop} {H : Hp} : ∀ {vs : List V}, one φ vs H → ∃ y, vs = [y] ∧ φ y H
  | [y], h => ⟨y, rfl, h⟩
  | [], h => h.elim
  | _ :: _ :: _, h => h.elim
theorem two_of {φ : V → V → Hp → Prop} {H : Hp} : ∀ {vs : List V}, two φ vs H → ∃ y z, vs = [y, z] ∧ φ y z H
  | [y, z], h => ⟨y, z, rfl, h⟩
  | [], h => h.elim
  | [_], h => h.elim
  | _ :: _ :: _ :: _, h => h.elim
theorem vals_one {y : V} {us : List Value} (r : Vals [y] us) : ∃ u, us = [u] ∧ RelV y u := by
  cases r with
  | cons r t =>
    cases t
    exact ⟨_, rfl, r⟩
theorem vals_two {y z : V} {us : List Value} (r : Vals [y, z] us) : ∃ u v, us = [u, v] ∧ RelV y u ∧ RelV z v := by
  cases r with
  | cons r t =>
    obtain ⟨v, rfl, r2⟩ := vals_one t
    exact ⟨_, v, rfl, r, r2⟩
theorem fit1 {u : Value} : [u].length ≤ sizeLine := by
  rw [sizeLine_eq]
  exact (by decide : 1 ≤ 16777216)
theorem fit2 {u v : Value} : [u, v].length ≤ sizeLine := by
  rw [sizeLine_eq]
  exact (by decide : 2 ≤ 16777216)
section
variable {X : Cx} {C : Addr} {f g x : Str} {p pos k1 k2 : Pos} {e e2 : Expr} {te tg : TE}
/-- C(e) -/
theorem pe_mk1 (Z : XCl X.prog X.w X.K X.mg X.base x C f) (hr : Room 2 X.A) (hg : Gl X x) (he : PE X e te)
    (hdb : (x == ("__debug__" : Str)) = false := by decide) (hs : starEach [e] X.env = (false, eval e X.env) :: starEach [] X.env := by rfl) (hpl : (backTo pos (starEach [] X.env)).any (·.1) = false := by rfl)
    (hxe : Passes CX0 X E0 := by exact pass0) : PE X (.Call (.Name x p) [e] [] pos) (tMk1 C f te) := by
  obtain ⟨B, newId, initId, bmB, fI, fd, Y, T, iC, tI, F, pb, kb⟩ := Z.ex
  refine ⟨fun pins s σ H Q I h => ?_⟩
  refine wpAny_Call_Name_kw (ld_glob I hg Z.mgC ?_ hdb)
  refine PySem.W.callWith_K (h₀ := X.base) I.ok.mod.kin T.kp (thn ((pa_cons he pa_nil hs).run pos pins s σ H (one fun y H1 => ∀ a H2, H1 a = none → Same H1 H2 → ExcAt H2 a C [(f, y)] → Q (.ref a) H2) I h) fun us s1 ⟨vs, H1, I1, r1, q1⟩ => ⟨I1.kIn, ?_⟩) hs hpl
  obtain ⟨y, rfl, q1⟩ := one_of q1
  obtain ⟨u, rfl, ru⟩ := vals_one r1
  · skip
    refine run_xmk (ks := []) (ws := []) (us := [u]) (its := [u]) (zs := [y]) Y T iC tI F hr hxe I1 fit1 (fun s a Z => pb s (.ref a) u Z) r1 fun a na => ⟨a, y, rfl, upd_same, fun d nd ne => ⟨rfl, ?_⟩⟩
    rw [upd_over ne]
    obtain ⟨nd', _⟩ := none_of_upd nd
    obtain ⟨h1, h2⟩ := made_at (C := C) (fs := [(f, y)]) na nd' ne
    exact q1 a _ na h1 h2
/-- C(f = e) -/
theorem pe_mk1k (Z : XCl X.prog X.w X.K X.mg X.base x C f) (hr : Room 2 X.A) (hg : Gl X x) (he : PE X e te)
    (hdb : (x == ("__debug__" : Str)) = false := by decide)
    (hall : (backToKw pos (keywordEach [⟨some f, e, k1⟩] X.env)).all (·.1.isSome) = true := by rfl) (hks : (backToKw pos (keywordEach [⟨some f, e, k1⟩] X.env)).filterMap (·.1) = [f] := by rfl)
    (hpl : ((backTo pos (starEach [] X.env)).any (·.1) || (backToKw pos (keywordEach [⟨some f, e, k1⟩] X.env)).any (·.1.isNone)) = false := by rfl)
    (hxe : Passes CX0 X E0 := by exact pass0) : PE X (.Call (.Name x p) [] [⟨some f, e, k1⟩] pos) (tMk1 C f te) := by
  obtain ⟨B, newId, initId, bmB, fI, fd, Y, T, iC, tI, F, pb, kb⟩ := Z.ex
  refine ⟨fun pins s σ H Q I h => ?_⟩
  refine wpAny_Call_Name_kw (ld_glob I hg Z.mgC ?_ hdb)
  refine PySem.W.callWith_KW0 (h₀ := X.base) I.ok.mod.kin T.kp hall ?_ hpl
  refine thn ((pk_cons (nm := some f) (kpos := k1) he pk_nil).run pos pins s σ H (one fun y H1 => ∀ a H2, H1 a = none → Same H1 H2 → ExcAt H2 a C [(f, y)] → Q (.ref a) H2) I h) fun us s1 ⟨vs, H1, I1, r1, q1⟩ => ⟨I1.kIn, ?_⟩
  rw [hks]
  obtain ⟨y, rfl, q1⟩ := one_of q1
  obtain ⟨u, rfl, ru⟩ := vals_one r1
  · skip
    refine run_xmk (ks := [f]) (ws := [u]) (us := []) (its := [u]) (zs := [y]) Y T iC tI F hr hxe I1 (Nat.zero_le _) (fun s a Z => kb s (.ref a) u Z) r1 fun a na => ⟨a, y, rfl, upd_same, fun d nd ne => ⟨rfl, ?_⟩⟩
    rw [upd_over ne]
    obtain ⟨nd', _⟩ := none_of_upd nd
    obtain ⟨h1, h2⟩ := made_at (C := C) (fs := [(f, y)]) na nd' ne
    exact q1 a _ na h1 h2
/-- C() -/
theorem pe_mk0 (Z : XCl0 X.prog X.w X.K X.mg X.base x C f) (hr : Room 2 X.A) (hg : Gl X x)
    (hdb : (x == ("__debug__" : Str)) = false := by decide) (hxe : Passes CX0 X E0 := by exact pass0) : PE X (.Call (.Name x p) [] [] pos) (tMk0 C f) := by
  obtain ⟨B, newId, initId, bmB, fI, fd, Y, T, iC, tI, F, db⟩ := Z.ex
  refine ⟨fun pins s σ H Q I h => ?_⟩
  refine wpAny_Call_Name_kw (ld_glob I hg Z.mgC ?_ hdb)
  refine PySem.W.callWith_K0 I.kIn T.kp ?_
  refine run_xmk (ks := []) (ws := []) (us := []) (its := [.none]) (zs := [.non]) Y T iC tI F hr hxe I (Nat.zero_le _) (fun s a Z => db s (.ref a) Z) (.cons rfl .nil) fun a na => ⟨a, .non, rfl, upd_same, fun d nd ne => ⟨rfl, ?_⟩⟩
  rw [upd_over ne]
  obtain ⟨nd', _⟩ := none_of_upd nd
  obtain ⟨h1, h2⟩ := made_at (C := C) (fs := [(f, V.non)]) na nd' ne
  exact h a _ na h1 h2
/-- C(e, e2) -/
theorem pe_mk2 (Z : XCl2 X.prog X.w X.K X.mg X.base x C f g) (hr : Room 2 X.A) (hg : Gl X x) (he : PE X e te) (he2 : PE X e2 tg)
    (hdb : (x == ("__debug__" : Str)) = false := by decide) (hs : starEach [e, e2] X.env = (false, eval e X.env) :: starEach [e2] X.env := by rfl) (hs2 : starEach [e2] X.env = (false, eval e2 X.env) :: starEach [] X.env := by rfl)
    (hpl : (backTo pos (starEach [e2] X.env)).any (·.1) = false := by rfl)
    (hxe : Passes CX0 X E0 := by exact pass0) : PE X (.Call (.Name x p) [e, e2] [] pos) (tMk2 C f g te tg) := by
  obtain ⟨B, newId, initId, bmB, fI, fd, Y, T, iC, tI, F, pb, kb, kb2⟩ := Z.ex
  refine ⟨fun pins s σ H Q I h => ?_⟩
  refine wpAny_Call_Name_kw (ld_glob I hg Z.mgC ?_ hdb)
  refine PySem.W.callWith_K (h₀ := X.base) I.ok.mod.kin T.kp (thn ((pa_cons he (pa_cons he2 pa_nil hs2) hs).run pos pins s σ H (two fun y z H1 => ∀ a H2, H1 a = none → Same H1 H2 → ExcAt H2 a C [(g, z), (f, y)] → Q (.ref a) H2) I h) fun us s1 ⟨vs, H1, I1, r1, q1⟩ => ⟨I1.kIn, ?_⟩) hs hpl
  obtain ⟨y, z, rfl, q1⟩ := two_of q1
  obtain ⟨u, v, rfl, ru, rv⟩ := vals_two r1
  · skip
    refine run_xmk (ks := []) (ws := []) (us := [u, v]) (its := [u, v]) (zs := [y, z]) Y T iC tI F hr hxe I1 fit2 (fun s a _ => pb s (.ref a) u v) r1 fun a na => ⟨a, y, z, rfl, upd_same, fun d nd ne => ⟨rfl, ?_⟩⟩
    rw [upd_over ne]
    obtain ⟨nd', _⟩ := none_of_upd nd
    obtain ⟨h1, h2⟩ := made_at (C := C) (fs := [(g, z), (f, y)]) na nd' ne
    exact q1 a _ na h1 h2
/-- C(g = e2, f = e) -/
theorem pe_mk2r (Z : XCl2 X.prog X.w X.K X.mg X.base x C f g) (hr : Room 2 X.A) (hg : Gl X x) (he : PE X e te) (he2 : PE X e2 tg)
    (hdb : (x == ("__debug__" : Str)) = false := by decide)
    (hall : (backToKw pos (keywordEach [⟨some g, e2, k1⟩, ⟨some f, e, k2⟩] X.env)).all (·.1.isSome) = true := by rfl) (hks : (backToKw pos (keywordEach [⟨some g, e2, k1⟩, ⟨some f, e, k2⟩] X.env)).filterMap (·.1) = [g, f] := by rfl)
    (hpl : ((backTo pos (starEach [] X.env)).any (·.1) || (backToKw pos (keywordEach [⟨some g, e2, k1⟩, ⟨some f, e, k2⟩] X.env)).any (·.1.isNone)) = false := by rfl)
    (hxe : Passes CX0 X E0 := by exact pass0) : PE X (.Call (.Name x p) [] [⟨some g, e2, k1⟩, ⟨some f, e, k2⟩] pos) (tMk2r C f g te tg) := by
  obtain ⟨B, newId, initId, bmB, fI, fd, Y, T, iC, tI, F, pb, kb, kb2⟩ := Z.ex
  refine ⟨fun pins s σ H Q I h => ?_⟩
  refine wpAny_Call_Name_kw (ld_glob I hg Z.mgC ?_ hdb)
  refine PySem.W.callWith_KW0 (h₀ := X.base) I.ok.mod.kin T.kp hall ?_ hpl
  refine thn ((pk_cons (nm := some g) (kpos := k1) he2 (pk_cons (nm := some f) (kpos := k2) he pk_nil)).run pos pins s σ H (two fun z y H1 => ∀ a H2, H1 a = none → Same H1 H2 → ExcAt H2 a C [(g, z), (f, y)] → Q (.ref a) H2) I h) fun us s1 ⟨vs, H1, I1, r1, q1⟩ => ⟨I1.kIn, ?_⟩
  rw [hks]
  obtain ⟨z, y, rfl, q1⟩ := two_of q1
  obtain ⟨v, u, rfl, rz, ry⟩ := vals_two r1
  · skip
    refine run_xmk (ks := [g, f]) (ws := [v, u]) (us := []) (its := [u, v]) (zs := [y, z]) Y T iC tI F hr hxe I1 (Nat.zero_le _) (fun s a _ => kb s (.ref a) u v) (.cons ry (.cons rz .nil)) fun a na => ⟨a, y, z, rfl, upd_same, fun d nd ne => ⟨rfl, ?_⟩⟩
    rw [upd_over ne]
    obtain ⟨nd', _⟩ := none_of_upd nd
    obtain ⟨h1, h2⟩ := made_at (C := C) (fs := [(g, z), (f, y)]) na nd' ne
    exact q1 a _ na h1 h2
/-- C(f = e, g = e2) -/
theorem pe_mk2k (Z : XCl2 X.prog X.w X.K X.mg X.base x C f g) (hr : Room 2 X.A) (hg : Gl X x) (he : PE X e te) (he2 : PE X e2 tg)
    (hdb : (x == ("__debug__" : Str)) = false := by decide)
    (hall : (backToKw pos (keywordEach [⟨some f, e, k1⟩, ⟨some g, e2, k2⟩] X.env)).all (·.1.isSome) = true := by rfl) (hks : (backToKw pos (keywordEach [⟨some f, e, k1⟩, ⟨some g, e2, k2⟩] X.env)).filterMap (·.1) = [f, g] := by rfl)
    (hpl : ((backTo pos (starEach [] X.env)).any (·.1) || (backToKw pos (keywordEach [⟨some f, e, k1⟩, ⟨some g, e2, k2⟩] X.env)).any (·.1.isNone)) = false := by rfl)
    (hxe : Passes CX0 X E0 := by exact pass0) : PE X (.Call (.Name x p) [] [⟨some f, e, k1⟩, ⟨some g, e2, k2⟩] pos) (tMk2 C f g te tg) := by
  obtain ⟨B, newId, initId, bmB, fI, fd, Y, T, iC, tI, F, pb, kb, kb2⟩ := Z.ex
  refine ⟨fun pins s σ H Q I h => ?_⟩
  refine wpAny_Call_Name_kw (ld_glob I hg Z.mgC ?_ hdb)
  refine PySem.W.callWith_KW0 (h₀ := X.base) I.ok.mod.kin T.kp hall ?_ hpl
  refine thn ((pk_cons (nm := some f) (kpos := k1) he (pk_cons (nm := some g) (kpos := k2) he2 pk_nil)).run pos pins s σ H (two fun y z H1 => ∀ a H2, H1 a = none → Same H1 H2 → ExcAt H2 a C [(g, z), (f, y)] → Q (.ref a) H2) I h) fun us s1 ⟨vs, H1, I1, r1, q1⟩ => ⟨I1.kIn, ?_⟩
  rw [hks]
  obtain ⟨y, z, rfl, q1⟩ := two_of q1
  obtain ⟨u, v, rfl, ru, rv⟩ := vals_two r1
  · skip
    refine run_xmk (ks := [f, g]) (ws := [u, v]) (us := []) (its := [u, v]) (zs := [y, z]) Y T iC tI F hr hxe I1 (Nat.zero_le _) (fun s a _ => kb2 s (.ref a) u v) r1 fun a na => ⟨a, y, z, rfl, upd_same, fun d nd ne => ⟨rfl, ?_⟩⟩
    rw [upd_over ne]
    obtain ⟨nd', _⟩ := none_of_upd nd
    obtain ⟨h1, h2⟩ := made_at (C := C) (fs := [(g, z), (f, y)]) na nd' ne
    exact q1 a _ na h1 h2
end
end L2.TT

namespace L2.TT
open PySem PySem.Spec PyProof.Rows
section
variable {X : Cx} {pins : List (Addr × Obj)} {σ : List (Option V)} {H : Hp} {s : Shared}
/-- an object that is new since the def was entered, from now on tracked -/
theorem inv_track {a : Addr} {o : Obj} {u : HO} (I : Inv X pins σ H s) (ha : s.heap.get? a = some o) (na : H a = none) (new : X.s_0.heap.get? a = none) (nL : a ≠ X.env.locals) (hd : ∀ v, o.data ≠ .cell v) (hp : ∀ p ∈ X.pn ++ pins, p.1 ≠ a)
    (ok : ObjOk X.prog X.w (upd H a u) s.heap a u) : Inv X pins σ (upd H a u) s := by
  have nt : ∀ {b : Addr} {v : HO}, H b = some v → b ≠ a := fun {b v} e z => by rw [z, na] at e; cases e
  refine ⟨I.ok, I.os, I.bare, ⟨I.base.keep, I.base.slot, fun b ob e n hx => ?_, I.base.there, fun b xs e => ?_, fun b ob v e => ?_, fun b ps e => ?_⟩, I.loc, I.cell, ?_, fun x c e => ?_, fun p hp' => ?_, fun b v e => ?_, I.len⟩
  · have nb : b ≠ a := fun z => by rw [z, new] at e; cases e
    rw [upd_ne nb]
    exact I.base.free b ob e n hx
  · have h1 := I.base.tups b xs e
    rw [upd_ne (nt h1)]
    exact h1
  · have h1 := I.base.frzs b ob v e
    rw [upd_ne (nt h1)]
    exact h1
  · obtain ⟨more, h1⟩ := I.base.tbls b ps e
    exact ⟨more, by rw [upd_ne (nt h1)]; exact h1⟩
  · rw [upd_ne nL.symm]
    exact I.free
  · have nc : c ≠ a := fun z => by
      obtain ⟨v, hv⟩ := I.cell x c e
      obtain ⟨oc, hoc, hdc⟩ := hv
      rw [z, ha] at hoc
      cases hoc
      exact hd v hdc
    rw [upd_ne nc]
    exact I.freeC x c e
  · obtain ⟨h1, h2, h3⟩ := I.pin p hp'
    exact ⟨h1, by rw [upd_ne (hp p hp')]; exact h2, h3⟩
  · by_cases hb : b = a
    · subst hb
      rw [upd_same] at e
      cases e
      exact ok
    · rw [upd_ne hb] at e
      exact (I.hok b v e).stay (fun c w _ q => q) (fun c q => by rw [upd_ne (nt q)]; exact q) fun c xs q => by rw [upd_ne (nt q)]; exact q
end
end L2.TT

namespace L2
open PySem PySem.Spec PyProof.Rows
/-- an error that has flown: its class, its dict, some fields -/
def exq (a : Addr) (cls : Value) (d : Option Addr) : HO := .ext fun h => ∃ (o : Obj) (vs : Array Value), h.get? a = some o ∧ o.cls = cls ∧ o.dict = d ∧ o.data = .fields vs
theorem exq_ok {P : Program} {w : World} {H : Hp} {h : Heap} {a : Addr} {cls : Value} {d : Option Addr} {o : Obj} {vs : Array Value} (he : h.get? a = some o) (h1 : o.cls = cls) (h2 : o.dict = d) (h3 : o.data = .fields vs) : ObjOk P w H h a (exq a cls d) :=
  ⟨⟨o, vs, he, h1, h2, h3⟩, ⟨_, he⟩, fun _ _ ⟨o', vs', e, q⟩ k => ⟨o', vs', k _ e, q⟩⟩
theorem exq_at {P : Program} {w : World} {H : Hp} {h : Heap} {a : Addr} {cls : Value} {d : Option Addr} (hok : HOk P w H h) (he : H a = some (exq a cls d)) : ∃ (o : Obj) (vs : Array Value), h.get? a = some o ∧ o.cls = cls ∧ o.dict = d ∧ o.data = .fields vs := by
  obtain ⟨z, _⟩ : ObjOk P w H h a (exq a cls d) := hok a _ he
  exact z
theorem flyZ_keeps {B h h' : Heap} {l : List Env} {e : Addr} {Z : Obj → Prop} (R : HandSPX.FlyingZ B l e Z h) (k : ∀ b o, h.get? b = some o → h'.get? b = some o) : HandSPX.FlyingZ B l e Z h' := by
  obtain ⟨f1, f2, f3, oe, ws, T, oT, ts, he, hc, hd, h1, hn, hne, hT, hdT, h3⟩ := R
  exact ⟨fun b o q => k b o (f1 b o q), f2, f3.of_keeps fun b o q _ => ⟨o, k b o q, rfl⟩, oe, ws, T, oT, ts, k _ _ he, hc, hd, h1, hn, hne, k _ _ hT, hdT, h3⟩
/-- the test of an except clause -/
def TestC (X : Cx) (t : Expr) (cls : Value) (b : Bool) : Prop :=
  ∀ {a : Addr} {oe : Obj} {pn : List (Addr × Obj)} {σ : St} {H : Hp} {s : Shared} {E : Value → Shared → Prop} {Q : Bool → Shared → Prop}, Inv (X.suite a ((a, oe) :: pn)) [] σ H s →
    PySem.W.Looks (model X.prog X.w) s.heap (typeOf (.ref a)) cls → (∀ h', (∀ q o, s.heap.get? q = some o → h'.get? q = some o) → Q b { s with heap := h' }) →
    wpAny (model X.prog X.w) (X.A.mark (some (.ref a))) (eval t X.env) (fun c s₁ => wpAny (model X.prog X.w) (X.A.mark (some (.ref a))) (excMatches (.ref a) c) Q E s₁) E s
/-- a class that is named -/
theorem names_ld {X : Cx} {x : Str} {c : Value} {np : Pos} (hc : Names X x c) {a : Addr} {oe : Obj} {pn : List (Addr × Obj)} {σ : St} {H : Hp} {s : Shared} {E : Value → Shared → Prop} {Q : Value → Shared → Prop} (I : Inv (X.suite a ((a, oe) :: pn)) [] σ H s) (q : Q c s) :
    wpAny (model X.prog X.w) (X.A.mark (some (.ref a))) (eval (.Name x np) X.env) Q E s := by
  obtain ⟨hg, hdbg, hm | ⟨hm, hv, hnn⟩⟩ := hc
  · exact ld_glob (X := X.suite a ((a, oe) :: pn)) I hg hm q hdbg
  · exact ld_blt (X := X.suite a ((a, oe) :: pn)) I hg hm hv q hnn hdbg
theorem test1 {X : Cx} {x : Str} {c cls : Value} {np : Pos} {b : Bool} (hc : Names X x c) (he : PySem.W.exmAny X.K cls [c] = some b) : TestC X (.Name x np) cls b := fun I LT q => by
  obtain ⟨b1, d1, x1, y1, z1⟩ := PySem.W.exmAny_cons he
  have e1 : d1 = false := by
    unfold PySem.W.exmAny at y1
    cases y1; rfl
  subst e1
  rw [Bool.or_false] at z1
  subst z1
  exact names_ld hc I ((PySem.W.exm_one I.kIn LT x1).here (q _ fun _ _ z => z))
theorem test3 {X : Cx} {x1 x2 x3 : Str} {c1 c2 c3 cls : Value} {p1 p2 p3 tpos : Pos} {kk} {b : Bool} (n1 : Names X x1 c1) (n2 : Names X x2 c2) (n3 : Names X x3 c3) (he : PySem.W.exmAny X.K cls [c1, c2, c3] = some b) :
    TestC X (.Tuple [.Name x1 p1, .Name x2 p2, .Name x3 p3] kk tpos) cls b := fun {a oe pn σ H s E Q} I LT q => by
  refine wpAny_Tuple ?_
  refine wpAny_items_cons (names_ld n1 I ?_)
  refine wpAny_items_cons (names_ld n2 I ?_)
  refine wpAny_items_cons (names_ld n3 I ?_)
  refine wpAny_items_nil ⟨by size_fits, ?_⟩
  have kp : ∀ q o, s.heap.get? q = some o → (s.heap.push { cls := .type "tuple", data := .seq [c1, c2, c3].toArray }).get? q = some o := fun _ _ z => Heap.get?_push_of_some _ z
  have kin : X.K.In s.heap := I.kIn
  exact (PySem.W.exm_tup3 (kin.keeps kp) (LT.keeps kp) (Heap.get?_push_size s.heap rfl) he).here (q _ kp)

/-- what the clause 'except (..) as n' wishes of an exception of the body; the error is tracked behind it -/
def wKp (K : PySem.W.Frag) (cs : List Value) (i : Nat) (ts : Addr → Value → Option Addr → TS) (Wout : WX) (D : Ends) : WX := fun cls d σ H =>
  ∃ b, PySem.W.exmAny K cls cs = some b ∧ (b = true → ∀ a, H a = none → ts a cls d { nx := fun σ' H' => D.nx (σ'.set i none) (upd H' a (exq a cls d)), rt := fun v H' => D.rt v (upd H' a (exq a cls d)), bk := fun σ' H' => D.bk (σ'.set i none) (upd H' a (exq a cls d)), ct := fun σ' H' => D.ct (σ'.set i none) (upd H' a (exq a cls d)) } (σ.set i (some (.ref a))) H) ∧
    (b = false → Wout cls d σ H)

section
variable {X : Cx} {t : Expr} {n : Str} {cs : List Value} {i : Nat} {body suite : List Stmt} {b₀ : Stmt} {pos pos' : Pos} {tb : WX → TS} {ts : Addr → Value → Option Addr → TS} {Wout : WX}
theorem ps_try_kp (hs : X.stack = X.env :: X.outer) (hf : X.env.frame = some X.env.locals) (hex : X.ex = []) (hN : X.N.Nodup) (hi : X.N[i]? = some n) (hln : X.env.kindOf n = some .local) (hc : ∀ cls b, PySem.W.exmAny X.K cls cs = some b → TestC X t cls b) (tk : Takes X Wout)
    (hb : ∀ (W : WX) (pn : List (Addr × Obj)) (xe : Value → Shared → Prop), Takes (X.tr pn xe) W → PassesOwn (model X.prog X.w) X.A X.env xe → PSs (X.tr pn xe) body (tb W))
    (hsu : ∀ (a : Addr) (oe : Obj) (cls : Value) (d : Option Addr) (pn : List (Addr × Obj)), Zc cls d oe → (∃ vs, oe.data = .fields vs) → PSs (X.suite a ((a, oe) :: pn)) (b₀ :: suite) (ts a cls d)) :
    PS X (.Try body [.ExceptHandler (some t) (some n) (b₀ :: suite) pos'] [] [] pos) (fun D σ H => tb (wKp X.K cs i ts Wout D) D σ H) := by
  refine ⟨fun pins s σ H D I h => ?_⟩
  have ok := I.ok
  have hfr : X.A.frames = some (X.env :: X.outer) := by rw [ok.frames, hs]
  have hloc : Loc X.env.scope n := .inl hln
  refine wpAny_Try_except ?_
  refine wpAny_mono ((hb (wKp X.K cs i ts Wout D) (X.pn ++ pins) (fun e s₁ => wpAny (model X.prog X.w) X.A (noteFrame e X.env) (fun _ s₂ => wpAny (model X.prog X.w) X.A (setFlight e none) (fun _ s₃ =>
    wpAny (model X.prog X.w) X.A (handleBy e X.env [.ExceptHandler (some t) (some n) (b₀ :: suite) pos']) (SP X pins D) X.xe s₃) X.xe s₂) X.xe s₁) (fun u s' xx => ?_) PassesOwn.looking).run [] s σ H D (I.toTry _) h) (fun f s1 hsp => ?_) (fun e s1 he => he)
  · -- the catch
    obtain ⟨a, B, sI, pins', σ', H', cls, d, rfl, J', nb, up, sky, na, os, ag, b, hb1, hyes, hno⟩ := xx
    have J : Inv X pins σ' H' sI := J'.ofTry ok
    have sky' : Sky B (X.env :: X.outer) a (Zc cls d) X.env.locals s'.heap := by rw [← hs]; exact sky
    show wpAny (model X.prog X.w) X.A (noteFrame (.ref a) X.env) _ _ _
    refine Sky.land Zc.steady hfr hf sky' fun h3 fl3 up3 => ?_
    have J3 : Inv X pins σ' H' { s' with heap := h3 } := J.landed nb fl3.1 (up.trans up3) os ag
    obtain ⟨oe3, vs3, he3, hz3, hd3⟩ := fl3.there
    have notFr : ∀ {h : Heap} {o : Obj} {vs : Array Value}, h.FunFrames B (X.env :: X.outer) → h.get? a = some o → o.data = .fields vs → a ∉ frs (X.env :: X.outer) := fun {h o vs} ff e dd hm => by
      obtain ⟨_, o', e', hnf⟩ := ff.mem hm
      rw [e] at e'; cases e'
      exact hnf _ dd
    have nfr := notFr fl3.2.2.1 he3 hd3
    have nL : a ≠ X.env.locals := fun z => nfr (List.mem_filterMap.mpr ⟨X.env, List.mem_cons_self, by rw [hf, z]⟩)
    have nF : a ∉ X.fs := fun hm => by
      obtain ⟨e, he, q⟩ := List.mem_filterMap.mp hm
      exact nfr (List.mem_filterMap.mpr ⟨e, List.mem_cons_of_mem _ he, q⟩)
    have S3 := J3.suite he3 hd3 na nL nF
    refine wpAny_handleBy_cons (codeAny_handlers_test ?_) (by intro q; cases q)
    have LT : PySem.W.Looks (model X.prog X.w) h3 (typeOf (.ref a)) cls := fun A Q E s k q => wpAny_typeOf_ref (k _ _ he3) (by rw [hz3.1]; exact q)
    have notI : ∀ o, sI.heap.get? a ≠ some o := fun o e => by
      have hB := nb a o e (by rw [hs]; exact nfr)
      rw [fl3.2.1] at hB
      cases hB
    have new0 : X.s_0.heap.get? a = none := by
      cases e : X.s_0.heap.get? a with
      | none => rfl
      | some o =>
        exfalso
        obtain ⟨o', e'⟩ := J.base.there a o e (by rw [hex]; exact List.not_mem_nil)
        exact notI _ e'
    have npin : ∀ p ∈ X.pn ++ pins, p.1 ≠ a := fun p hp z => by
      have := (J.pin p hp).1
      rw [z] at this
      exact notI _ this
    refine hc cls b hb1 S3 LT fun h3' kp => ?_
    have fl3' := flyZ_keeps fl3 kp
    have upk : h3.UpToSlots h3' := Heap.UpToSlots.of_keeps kp
    cases b with
    | true =>
      refine codeAny_handlers_suite_as ?_
      refine HandSPX.lands_againZ fl3' fun h4 fl4 up4 => ?_
      have J4 : Inv X pins σ' H' { s' with heap := h4 } := J.landed nb fl4.1 (((up.trans up3).trans upk).trans up4) os ag
      obtain ⟨oe4, vs4, he4, hz4, hd4⟩ := fl4.there
      have S4 := J4.suite he4 hd4 na nL nF
      refine store_ok (X := X.suite a ((a, oe4) :: (X.pn ++ pins))) (v := .ref a) S4 hN hi hloc rfl (fun s5 S5 => ?_) (.inr hln)
      refine wpAny_mono ((hsu a oe4 cls d (X.pn ++ pins) hz4 ⟨_, hd4⟩).run [] s5 _ H' _ S5 (hyes rfl a na)) (fun f s6 hsp => ?_) (fun _ _ z => False.elim z)
      have end_ : ∀ {σ6 : St} {H6 : Hp} {Q : Shared → Prop}, Inv (X.suite a ((a, oe4) :: (X.pn ++ pins))) [] σ6 H6 s6 → (∀ s7, Inv X pins (σ6.set i none) (upd H6 a (exq a cls d)) s7 → Q s7) →
          wpAny (model X.prog X.w) X.A (do bindName X.env n .none; unbindBehindTheSuite X.env n pos') (fun _ s7 => Q s7) X.xe s6 := fun {σ6 H6 Q} S6 hq => gone_ok (X := X.suite a ((a, oe4) :: (X.pn ++ pins))) S6 hN hi hln fun s7 S7 => by
        obtain ⟨p1, p2, p3, p4, p5⟩ := S7.pin (a, oe4) (List.mem_append_left _ List.mem_cons_self)
        exact hq _ (TT.inv_track (S7.unsuite ok) p1 p2 new0 nL (fun v z => p5 v z) npin (exq_ok p1 hz4.1 hz4.2 hd4))
      cases f with
      | next =>
        obtain ⟨σ6, H6, S6, q6⟩ := hsp
        exact end_ S6 fun s7 J7 => ⟨_, _, J7, q6⟩
      | brk =>
        obtain ⟨σ6, H6, S6, q6⟩ := hsp
        exact end_ S6 fun s7 J7 => ⟨_, _, J7, q6⟩
      | cont =>
        obtain ⟨σ6, H6, S6, q6⟩ := hsp
        exact end_ S6 fun s7 J7 => ⟨_, _, J7, q6⟩
      | ret u =>
        obtain ⟨v6, σ6, H6, S6, r6, q6⟩ := hsp
        exact end_ S6 fun s7 J7 => ⟨_, _, _, J7, r6, q6⟩
    | false =>
      show wpAny _ X.A (handleBy (.ref a) X.env []) _ _ _
      refine wpAny_handleBy_nil ?_
      obtain ⟨k1, k2, k3, oe, vs, T, oT, ts', he, hz, hd, h1, hr⟩ := id fl3'
      unfold PySem.passOn
      refine wpAny_bind (wpAny_field he hd h1 ?_)
      rw [if_neg (show ¬ ((Value.ref T == Value.none) = true) from by simp)]
      have fin : wpAny (model X.prog X.w) X.A (setFlight (.ref a) X.env.frame) (fun _ s4 => wpAny (model X.prog X.w) X.A (throw (.ref a) : Sem Flow) (SP X pins D) X.xe s4) X.xe { s' with heap := h3' } := by
        rw [hf]
        refine HandSPX.setFlight_upZ fl3' fun h4 hh4 up4 => wpAny_throw (tk _ _ ?_)
        exact ⟨a, B, sI, pins, σ', H', cls, d, rfl, J, nb, ((up.trans up3).trans upk).trans up4, .inr (.inr (by rw [hs]; exact hh4)), na, os, ag, hno rfl⟩
      first
        | exact wpAny_bind (wpAny_pure (wpAny_bind fin))
        | exact wpAny_bind fin
  · cases f with
    | next =>
      obtain ⟨σ', H', J', q⟩ := hsp
      exact wpAny_execs_nil ⟨σ', H', J'.ofTry ok, q⟩
    | brk =>
      obtain ⟨σ', H', J', q⟩ := hsp
      exact ⟨σ', H', J'.ofTry ok, q⟩
    | cont =>
      obtain ⟨σ', H', J', q⟩ := hsp
      exact ⟨σ', H', J'.ofTry ok, q⟩
    | ret u =>
      obtain ⟨v, σ', H', J', r, q⟩ := hsp
      exact ⟨v, σ', H', J'.ofTry ok, r, q⟩
end
end L2

namespace L2.TT
open PySem PySem.Spec PyProof.Rows PySem.W
/-- an error that has flown, with its fields -/
def FlownAt (H : Hp) (a C : Addr) (fs : List (Str × V)) : Prop := ∃ d, H a = some (exq a (.ref C) (some d)) ∧ H d = some (.xd fs)
theorem FlownAt.mk {H : Hp} {a C d : Addr} {fs : List (Str × V)} (na : H a = none) (e : H d = some (.xd fs)) : FlownAt (upd H a (exq a (.ref C) (some d))) a C fs :=
  ⟨d, upd_same, by
    rw [upd_ne (fun z => by rw [z, na] at e; cases e)]
    exact e⟩
theorem FlownAt.same {H H' : Hp} {a C : Addr} {fs : List (Str × V)} (e : FlownAt H a C fs) (s : Same H H') : FlownAt H' a C fs := by
  obtain ⟨d, h1, h2⟩ := e
  exact ⟨d, s _ _ h1, s _ _ h2⟩
theorem inst_fl {P : Program} {w : World} {H : Hp} {h : Heap} {a C : Addr} {fs : List (Str × V)} (hok : HOk P w H h) (e : FlownAt H a C fs) : ∃ (ob : Obj) (dd : Addr) (od : Obj) (mA : Str → Option Value),
    InstAt h a ob C (some od) ∧ h.Ns1 dd mA ∧ (∀ f, RelO (fs.lookup f) (mA f)) ∧ (∀ f v, mA f = some v → lookIn f od = some (some v)) := by
  obtain ⟨d, h1, h2⟩ := e
  obtain ⟨ob, vs, ho, hc, hd, hf⟩ := exq_at hok h1
  obtain ⟨mA, hns, rel⟩ := (show ObjOk P w H h d (.xd fs) from hok d _ h2)
  obtain ⟨od, hod, hl⟩ := lookIn_ns hns
  refine ⟨ob, d, od, mA, ⟨ho, hc, by rw [notCls, hf], by rw [hd]; exact hod⟩, hns, rel, fun f v e => by rw [hl, e]⟩
/-- e.f, e an exception that stands there -/
def tFget (K : Frag) (te : TE) (n : Str) : TE := fun σ H Q => te σ H fun x H1 => ∃ (a C : Addr) (fs : List (Str × V)) (v : V) (newId : String) (bmB : List Value), x = .ref a ∧ XC K C bmB newId ∧ findIn K (.ref C) n = some none ∧ FlownAt H1 a C fs ∧ fs.lookup n = some v ∧ Q v H1
/-- isinstance(e, c) -/
def rFis (K : Frag) : List V → Hp → VK → Prop := fun xs H Q => ∃ (a C : Addr) (c : V) (u : Value) (fs : List (Str × V)) (newId : String) (bmB : List Value) (b : Bool), xs = [.ref a, c] ∧ ClsV c u ∧ XC K C bmB newId ∧ FlownAt H a C fs ∧ kitOne K (.ref C) u = some b ∧ Q (.bl b) H
/-- isinstance(e, (c1, c2, ..)) -/
def rFisT (K : Frag) : List V → Hp → VK → Prop := fun xs H Q => ∃ (a C tp : Addr) (cs : List V) (us : List Value) (fs : List (Str × V)) (newId : String) (bmB : List Value) (b : Bool), xs = [.ref a, .ref tp] ∧ H tp = some (.tup cs) ∧ Paired ClsV cs us ∧ XC K C bmB newId ∧ FlownAt H a C fs ∧ kitAny K (.ref C) us = some b ∧ Q (.bl b) H
section
variable {X : Cx} {e : Expr} {te : TE} {n : Str} {pos : Pos}
theorem pe_fget (he : PE X e te) (hb : attributeBase e n X.env (eval e X.env) = eval e X.env := by rfl) : PE X (.Attribute e n pos) (tFget X.K te n) := by
  refine ⟨fun pins s σ H Q I h => ?_⟩
  refine attr_of hb (thn (he.run pins s σ H _ I h) fun u s1 hh => ?_)
  obtain ⟨x, H1, I1, rx, a, C, fs, v, newId, bmB, ex, T, hno, ea, l, q⟩ := hh
  subst ex
  obtain rfl : u = Value.ref a := rx
  obtain ⟨t1, dd, od, mA, J, hns, rel, hl⟩ := inst_fl I1.hok ea
  obtain ⟨u, hu, ru⟩ := RelO.some_of (v := v) (o := mA n) (by rw [← l]; exact rel n)
  exact HandSPX.exc_get I1.kIn J T.ga T.gg T.sub (findObj_own T.hd hno rfl (hl n u hu)) (handed_of ru) ⟨v, H1, I1.tok _, ru, q⟩
theorem call_fis (Z : KCls X.K) : CallR X (.builtin "isinstance") (rFis X.K) := by
  intro pins s σ H xs us Q I r h
  obtain ⟨a, C, c, u, fs, newId, bmB, b, rfl, k, T, ea, e, q⟩ := h
  obtain ⟨u1, u2, rfl, r1, r2⟩ := vals2 r
  have e2 := k.eq r2
  subst e2
  obtain rfl : u1 = Value.ref a := r1
  obtain ⟨t1, dd, od, mA, J, _⟩ := inst_fl I.hok ea
  exact kia_one (kit_exc Z T) I.kIn J e (fun z => nomatch z) fun tk => ⟨.bl b, H, I.tok tk, rfl, q⟩
theorem call_fisT (Z : KCls X.K) : CallR X (.builtin "isinstance") (rFisT X.K) := by
  intro pins s σ H xs us Q I r h
  obtain ⟨a, C, tp, cs, ws, fs, newId, bmB, b, rfl, hT, k, T, ea, e, q⟩ := h
  obtain ⟨u1, u2, rfl, r1, r2⟩ := vals2 r
  obtain rfl : u1 = Value.ref a := r1
  cases (show u2 = Value.ref tp from r2)
  obtain ⟨t1, dd, od, mA, J, _⟩ := inst_fl I.hok ea
  obtain ⟨_, its, rv, o, h1, h2, n, h3⟩ := (show ObjOk X.prog X.w H s.heap tp (.tup cs) from I.hok tp _ hT)
  have e3 := ClsV.all k rv
  subst e3
  obtain ⟨oc, od', dt, sl⟩ := o
  simp only at h2 h3
  subst h2 h3
  exact kia_tup (kit_exc Z T) I.kIn J h1 e (fun z => nomatch z) fun tk => ⟨.bl b, H, I.tok tk, rfl, q⟩
end
end L2.TT

namespace TR
open PySem PySem.Spec PyProof.Rows L2 L2.TT StX ClX
/-- an exception class of the program that keeps one field, to be raised -/
structure RzC (P : Program) (w : World) (K : PySem.W.Frag) (mg : Str → Option Value) (base : Heap) (x : Str) (C : Addr) (f : Str) : Prop where
  ox : OexC K C
  mgC : mg x = some (.ref C)
  ex : ∃ (fI : Addr) (fd : FuncData), PySem.W.findIn K (.ref C) "__init__" = some (some (.ref fI)) ∧ PySem.W.typeIn K (.ref fI) = some (.type "function") ∧ FnOk P w K mg base CX0 1 fI fd ["self", f] (spI1 C f) ∧ Binds K fd ["self", f] []
theorem rz_end {C : Addr} {f : Str} {y : V} {H : Hp} {Q : XK} (h : ∀ d, H d = none → Q (.ref C) (some d) (upd H d (.xd [(f, y)]))) :
    [y].length ≤ 1000 ∧ ∀ a, H a = none → spI1 C f (.ref a :: ([y] ++ [])) (upd H a (exo a C none))
      (fun v H2 => v = .non ∧ ∃ (d : Addr) (fs : List (Str × V)), H2 a = some (exo a C (some d)) ∧ H2 d = some (exd d fs) ∧ H d = none ∧ Q (.ref C) (some d) (upd (del H2 a) d (.xd fs))) (fun _ _ _ => False) := by
  refine ⟨by show 1 ≤ 1000; decide, fun a na => ⟨a, y, rfl, upd_same, fun d nd ne => ⟨rfl, d, [(f, y)], upd_same, by rw [upd_ne ne, upd_same], by rw [upd_ne ne] at nd; exact nd, ?_⟩⟩⟩
  have hd : H d = none := by
    rw [upd_ne ne] at nd
    exact nd
  have e : upd (del (upd (upd (upd H a (exo a C none)) d (exd d [(f, y)])) a (exo a C (some d))) a) d (.xd [(f, y)]) = upd H d (.xd [(f, y)]) := by
    funext b
    by_cases h1 : b = d
    · rw [h1, upd_same, upd_same]
    · rw [upd_ne h1, upd_ne h1]
      by_cases h2 : b = a
      · rw [h2, del_same, na]
      · rw [del_ne h2, upd_ne h2, upd_ne h1, upd_ne h2]
  rw [e]
  exact h d hd
section
variable {X : Cx} {CX : CXT} {k : Nat} {f C : Addr} {fd : FuncData} {ps : List Str} {sp : Sp} {E : L2.St → XK} {m : Str} {apos pos' : Pos} {o e : Expr} {es : List Expr} {ta : TE} {t : TA}
/-- o.m(e, ..), the wish about exceptions by the slots -/
def tMethS (C : Addr) (m : Str) (sp : Sp) (E : L2.St → XK) (ta : TE) (t : TA) : TE := fun σ H Q => ta σ H fun x H1 => ∃ a dx fs, x = .ref a ∧ H1 a = some (.ins C dx fs) ∧ fs.lookup m = none ∧ t σ H1 fun vs H2 => sp (x :: vs) H2 Q (E σ)
theorem pe_methS {pl : Sem Bool} (he : PE X o ta) (c : Cls X.K C) (hm : Meth X.K C m f) (F : FnOk X.prog X.w X.K X.mg X.base CX k f fd ps sp) (hr : Room k X.A) (hb : Binds X.K fd ps []) (hx : ∀ σ, PassesAt CX X σ (E σ)) (ha : PA X (e :: es) t)
    (hst : starEach (e :: es) X.env = (false, eval e X.env) :: starEach es X.env := by rfl) (hpl : (backTo pos' (starEach es X.env)).any (·.1) = false := by rfl)
    (ht : eval (.Call (.Attribute o m apos) (e :: es) [] pos') X.env = (do
      let ov ← eval o X.env
      standAt apos.atName
      let (f, first) ← holding [ov] (getMethod ov m pl)
      callWith pos' f first (backTo pos' (starEach (e :: es) X.env)) (backToKw pos' (keywordEach [] X.env))) := by rfl) :
    PE X (.Call (.Attribute o m apos) (e :: es) [] pos') (tMethS C m sp E ta t) := by
  refine ⟨fun pins s σ H Q I h => ?_⟩
  refine PySem.W.methodCall_KW (pl := pl) (thn (he.run pins s σ H _ I h) fun u s1 ⟨x, H1, I1, rx, a, dx, fs, ex, ea, l, q⟩ => ?_) ht
  subst ex
  obtain rfl : u = Value.ref a := rx
  refine getmeth_ok I1 ea c hm l ?_
  refine PySem.W.callWith_K (first := [.ref a]) (h₀ := X.base) I.ok.mod.kin hm.kp (thn (ha.run pos' pins s1 σ H1 _ I1 q) fun us s2 ⟨vs, H2, I2, r, q2⟩ => ⟨I2.kIn, ?_⟩) hst hpl
  exact run_fnS (us := .ref a :: us) (vs := .ref a :: vs) F hr hb (hx σ) I2 (.cons rfl r) q2
end
def spChkX (C CI : Addr) (K : PySem.W.Frag) : Sp := fun vs H _ E => ∃ (r : Addr) (tr : List E2) (v : V), vs = [.ref r, v] ∧ RailAt C H r tr ∧ IV K H v ∧ inR v 0 tr.length = false ∧ ∀ d, H d = none → E (.ref CI) (some d) (upd H d (.xd [("value", v)]))
def spPathX (C CI : Addr) (K : PySem.W.Frag) : Sp := fun vs H _ E => ∃ (r : Addr) (tr : List E2) (u v : V), vs = [.ref r, u, v] ∧ RailAt C H r tr ∧
  ((IV K H u ∧ inR u 0 tr.length = false ∧ ∀ d, H d = none → E (.ref CI) (some d) (upd H d (.xd [("value", u)]))) ∨
    ∃ a : Nat, u = iv a ∧ a ≤ tr.length ∧ IV K H v ∧ inR v 0 tr.length = false ∧ ∀ d, H d = none → E (.ref CI) (some d) (upd H d (.xd [("value", v)])))
section
variable {P : Program} {w : World} {K : PySem.W.Frag} {mg : Str → Option Value} {base : Heap}
theorem ok_chkX {f fI C CI : Addr} {fd fdI : FuncData} (F : Fun K "check_station" "check_station" s_check_station f fd) (U : Use P w K mg base CX0 3 "is_station" fI fdI ["railway", "value"] (spIsSt C K)) (Z : RzC P w K mg base "InvalidStation" CI "value") :
    FnOk P w K mg base (L2.CX P w) 4 f fd ["railway", "station"] (spChkX C CI K) := by
  refine L2.Fun.okX F sc_chk (fun vs H Q E h => ?_) (fun cdv A outer s H vs Q E hr h => ?_)
  · obtain ⟨r, tr, v, rfl, _⟩ := h
    rfl
  · obtain ⟨r, tr, v, rfl, R, hv, hn, k⟩ := h
    obtain ⟨fI, fdI, i1, i2, F1, b1⟩ := Z.ex
    refine ⟨_, pss_one (ps_if (pt_not (pt_val (pe_use U hr rfl (pa_cons (pv 0) (pa_cons (pv 1) pa_nil))))) (pss_one (ps_raise rfl (takes_of rfl rfl rfl rfl) (pmk_oex Z.ox i1 i2 F1 (hr.mono (by decide)) b1 .nil pass0 rfl Z.mgC (pa_cons (pv 1) pa_nil)))) pss_nil), ?_⟩
    refine ⟨_, rfl, _, rfl, r, tr, _, rfl, R, hv, _, rfl, ?_⟩
    rw [hn]
    refine iteT ?_
    exact ⟨_, rfl, rz_end k⟩
theorem sc_nbr0 : FnScope ["self", "station"] ["self", "station"] (defScope s_Railway_neighbours) := ⟨rfl, rfl, rfl, by decide +kernel, rfl, by decide +kernel, by decide +kernel⟩
/-- check_station, as a def that may raise -/
structure UseX (P : Program) (w : World) (K : PySem.W.Frag) (mg : Str → Option Value) (base : Heap) (k : Nat) (x : Str) (f : Addr) (fd : FuncData) (ps : List Str) (sp : Sp) : Prop where
  G : FnOk P w K mg base (L2.CX P w) k f fd ps sp
  m : mg x = some (.ref f)
  kp : PySem.W.keepIn K (.ref f) = true
  b : Binds K fd ps []
theorem ok_nbrX {f fc C CI : Addr} {fd fdc : FuncData} (F : Fun K "neighbours" "Railway.neighbours" s_Railway_neighbours f fd) (U : UseX P w K mg base 4 "check_station" fc fdc ["railway", "station"] (spChkX C CI K)) : FnOk P w K mg base (L2.CX P w) 5 f fd ["self", "station"] (spChkX C CI K) := by
  refine L2.Fun.okX F sc_nbr0 (fun vs H Q E h => ?_) (fun cdv A outer s H vs Q E hr h => ?_)
  · obtain ⟨r, tr, v, rfl, _⟩ := h
    rfl
  · obtain ⟨r, tr, v, rfl, R, hv, hn, k⟩ := h
    refine ⟨_, pss_cons (ps_expr (pe_call U.G hr rfl U.m U.kp U.b .nil (passes_call (takes_of rfl rfl rfl rfl) (fun _ _ _ _ h => h)) (pa_cons (pv 0) (pa_cons (pv 1) pa_nil)))) L2.pss_never, ?_⟩
    exact ⟨_, rfl, _, rfl, r, tr, v, rfl, R, hv, hn, k⟩
theorem ok_pathX {f fc C CI : Addr} {fd fdc : FuncData} (F : Fun K "path" "Railway.path" s_Railway_path f fd) (U : UseX P w K mg base 4 "check_station" fc fdc ["railway", "station"] (spChkX C CI K)) (U0 : Use P w K mg base CX0 4 "check_station" fc fdc ["railway", "station"] (spChkSt C)) :
    FnOk P w K mg base (L2.CX P w) 5 f fd ["self", "one", "other"] (spPathX C CI K) := by
  refine L2.Fun.okX F sc_path (fun vs H Q E h => ?_) (fun cdv A outer s H vs Q E hr h => ?_)
  · obtain ⟨r, tr, u, v, rfl, _⟩ := h
    rfl
  · obtain ⟨r, tr, u, v, rfl, R, h | ⟨a, rfl, ha, hv, hn, k⟩⟩ := h
    · obtain ⟨hv, hn, k⟩ := h
      refine ⟨_, pss_cons (ps_expr (pe_call U.G hr rfl U.m U.kp U.b .nil (passes_call (takes_of rfl rfl rfl rfl) (fun _ _ _ _ h => h)) (pa_cons (pv 0) (pa_cons (pv 1) pa_nil)))) L2.pss_never, ?_⟩
      exact ⟨_, rfl, _, rfl, r, tr, u, rfl, R, hv, hn, k⟩
    · refine ⟨_, pss_cons (ps_expr (pe_use U0 hr rfl (pa_cons (pv 0) (pa_cons (pv 1) pa_nil)))) (pss_cons (ps_expr (pe_call U.G hr rfl U.m U.kp U.b .nil (passes_call (takes_of rfl rfl rfl rfl) (fun _ _ _ _ h => h)) (pa_cons (pv 0) (pa_cons (pv 2) pa_nil)))) L2.pss_never), ?_⟩
      refine ⟨_, rfl, _, rfl, r, tr, a, rfl, R, ha, ?_⟩
      exact ⟨_, rfl, _, rfl, r, tr, v, rfl, R, hv, hn, k⟩
theorem sc_dist : FnScope ["self", "one", "other"] ["self", "one", "other"] (defScope s_Railway_distance) := ⟨rfl, rfl, rfl, by decide +kernel, rfl, by decide +kernel, by decide +kernel⟩
def spDist (C : Addr) : Sp := fun vs H Q _ => ∃ (r : Addr) (tr : List E2) (a b : Nat), vs = [.ref r, iv a, iv b] ∧ RailAt C H r tr ∧ a ≤ tr.length ∧ b ≤ tr.length ∧
  ∀ (l : List Nat) (H' : Hp), SW tr a b l → Same H H' → Q (.int ((l.length : Int) - 1)) H'
theorem ok_dist {f fp C : Addr} {fd fdp : FuncData} (F : Fun K "distance" "Railway.distance" s_Railway_distance f fd) (N : Nm mg) (X : TxtR K mg C) (m : Meth K C "path" fp) (G : FnOk P w K mg base CX0 5 fp fdp ["self", "one", "other"] (spPath C)) (bp : Binds K fdp ["self", "one", "other"] []) :
    FnOk P w K mg base CX0 6 f fd ["self", "one", "other"] (spDist C) := by
  refine F.ok sc_dist (fun vs H Q E h => ?_) (fun cdv A outer s H vs Q E hr h => ?_)
  · obtain ⟨r, tr, a, b, rfl, _⟩ := h
    rfl
  · obtain ⟨r, tr, a, b, rfl, R, ha, hb, k⟩ := h
    refine ⟨_, pss_one (ps_ret (pe_op op_sub (pe_callB call_len_seq (by rfl) N.len PySem.boot_len (pa_cons (pe_meth (pv 0) X.cl m G hr bp .nil pass0 (pa_cons (pv 1) (pa_cons (pv 2) pa_nil))) pa_nil)) pe_int)), ?_⟩
    obtain ⟨T, few, dx, tt, na, Aa, L, ps, ts, h1, h2⟩ := id R
    refine ⟨_, rfl, r, dx, _, rfl, h1, flR_no (by decide +kernel) (by decide +kernel) (by decide +kernel) (by decide +kernel), _, rfl, _, rfl, r, tr, a, b, rfl, R, ha, hb, fun l p H' sw s1 np hp => ?_⟩
    refine ⟨p, _, rfl, .inr (SqT.of hp), _, _, rfl, rfl, ?_⟩
    have q := k l H' sw s1
    rw [List.length_map]
    exact q
theorem ok_distX {f fp C CI : Addr} {fd fdp : FuncData} (F : Fun K "distance" "Railway.distance" s_Railway_distance f fd) (N : Nm mg) (X : TxtR K mg C) (m : Meth K C "path" fp) (G : FnOk P w K mg base (L2.CX P w) 5 fp fdp ["self", "one", "other"] (spPathX C CI K)) (bp : Binds K fdp ["self", "one", "other"] []) :
    FnOk P w K mg base (L2.CX P w) 6 f fd ["self", "one", "other"] (spPathX C CI K) := by
  refine L2.Fun.okX F sc_dist (fun vs H Q E h => ?_) (fun cdv A outer s H vs Q E hr h => ?_)
  · obtain ⟨r, tr, u, v, rfl, _⟩ := h
    rfl
  · obtain ⟨r, tr, u, v, rfl, R, h⟩ := h
    refine ⟨_, pss_one (ps_ret (pe_op op_sub (pe_callB call_len_seq (by rfl) N.len PySem.boot_len (pa_cons (pe_meth (pv 0) X.cl m G hr bp .nil (passes_call (takes_of rfl rfl rfl rfl) (fun _ _ _ _ h => h)) (pa_cons (pv 1) (pa_cons (pv 2) pa_nil))) pa_nil)) pe_int)), ?_⟩
    obtain ⟨T, few, dx, tt, na, Aa, L, ps, ts, h1, h2⟩ := id R
    exact ⟨_, rfl, r, dx, _, rfl, h1, flR_no (by decide +kernel) (by decide +kernel) (by decide +kernel) (by decide +kernel), _, rfl, _, rfl, r, tr, u, v, rfl, R, h⟩
end
end TR

namespace L2.TT
open PySem PySem.Spec PyProof.Rows PySem.W

/-! ### data that may be shown: dicts too -/
def keyD : Key → PyData
  | .inl i => .int i
  | .inr x => .str x
/-- a flat value -/
inductive FlatD : V → PyData → Prop
  | non : FlatD .non .none
  | bl (b : Bool) : FlatD (.bl b) (.bool b)
  | int (i : Int) : FlatD (.int i) (.int i)
  | str (x : Str) : FlatD (.str x) (.str x)
abbrev KvD : List (Key × V) → List (PyData × PyData) → Prop := Paired fun p q => q.1 = keyD p.1 ∧ FlatD p.2 q.2
/-- flat, or a dict of flat things -/
inductive FD (H : Hp) : V → PyData → Prop
  | flat {v : V} {d : PyData} : FlatD v d → FD H v d
  | dic {a : Addr} {kvs : List (Key × V)} {es : List (PyData × PyData)} : H a = some (.dK kvs) → KvD kvs es → FD H (.ref a) (.dict es)
inductive DS (K : Frag) (H : Hp) : V → PyData → Prop
  | fd {v : V} {d : PyData} : FD H v d → DS K H v d
  | tup {a : Addr} {xs : List V} {ds : List PyData} : SqT K H a xs → Paired (FD H) xs ds → DS K H (.ref a) (.tuple ds)
/-- the items of a list that may be shown -/
def DL (K : Frag) (H : Hp) (vs : List V) (ds : List PyData) : Prop := (DpAll K H vs ds ∧ PyData.canLayAll0 ds = true) ∨ Paired (DS K H) vs ds

section
variable {X : Cx} {pins : List (Addr × Obj)} {σ : St} {H : Hp} {s : Shared}
theorem FlatD.reads {v : V} {d : PyData} {u : Value} (f : FlatD v d) (r : RelV v u) (h : Heap) : Reads h u d [] := by
  cases f with
  | non => cases r; exact .none
  | bl b => cases r; exact .bool b
  | int i => obtain ⟨t, rfl⟩ := r; exact .int i t
  | str x => obtain ⟨t, rfl⟩ := r; exact .str x t
theorem reads_vals : ∀ {kvs : List (Key × V)} {es : List (PyData × PyData)} {vs : List (Key × Value)} {ds : List DictEntry} {h : Heap} {P : Program} {w : World}, KvD kvs es → KV kvs vs → Pairs (mixKind P w) ds vs →
    ReadsAll h (ds.map (·.key)) (es.map (·.1)) [] ∧ ReadsAll h (ds.map (·.val)) (es.map (·.2)) []
  | _, _, _, _, _, _, _, .nil, .nil, .nil => ⟨.nil, .nil⟩
  | _, _, _, _, h, _, _, .cons (a := p) (b := q) ⟨e1, f⟩ t, .cons (b := z) ⟨e2, r⟩ t2, .cons (e := e) (kv := _) i v t3 => by
    obtain ⟨h1, h2⟩ := reads_vals (h := h) t t2 t3
    have rk : Reads h e.key q.1 [] := by
      rw [e1, e2]
      have i' : keyIs z.1 e.key = true := i
      rcases keyIs_shape i' with ⟨n, tk, ek, ev⟩ | ⟨x, tk, ek, ev⟩
      · rw [ek, ev]; exact .int n tk
      · rw [ek, ev]; exact .str x tk
    have rv : Reads h e.val q.2 [] := by rw [v]; exact f.reads r h
    exact ⟨ReadsAll.cons rk h1, ReadsAll.cons rv h2⟩
theorem FD.reads (I : Inv X pins σ H s) {v : V} {d : PyData} {u : Value} (f : FD H v d) (r : RelV v u) : ∃ as, Reads s.heap u d as ∧ sysModules ∉ as := by
  cases f with
  | flat f => exact ⟨[], f.reads r _, fun z => nomatch z⟩
  | dic e k =>
    rename_i a kvs es
    cases r
    obtain ⟨_, hs, vs, rel, o, eo, ep, ho, hx, hd, _, hp, _⟩ := dk_of I.hok e
    obtain ⟨h1, h2⟩ := reads_vals (h := s.heap) k rel hp
    refine ⟨_, Reads.dict ho hx.1 hd h1 h2, ?_⟩
    intro z
    have z' : sysModules = a := by simpa using z
    rw [← z'] at hs
    simp at hs
theorem FD.readsAll (I : Inv X pins σ H s) : ∀ {vs : List V} {ds : List PyData} {us : List Value}, Paired (FD H) vs ds → Vals vs us → ∃ as, ReadsAll s.heap us ds as ∧ sysModules ∉ as
  | _, _, _, .nil, .nil => ⟨[], .nil, fun z => nomatch z⟩
  | _, _, _, .cons f t, .cons r t2 => by
    obtain ⟨as, h1, n1⟩ := f.reads I r
    obtain ⟨bs, h2, n2⟩ := FD.readsAll I t t2
    exact ⟨as ++ bs, .cons h1 h2, fun z => (List.mem_append.mp z).elim n1 n2⟩
theorem DS.reads (I : Inv X pins σ H s) {v : V} {d : PyData} {u : Value} (f : DS X.K H v d) (r : RelV v u) : ∃ as, Reads s.heap u d as ∧ sysModules ∉ as := by
  cases f with
  | fd f => exact f.reads I r
  | tup hs ha =>
    cases r
    obtain ⟨its, rv, ⟨o, ho, hc, n, hd⟩, _⟩ := I.tuple hs
    obtain ⟨as, q, n⟩ := FD.readsAll I ha rv
    exact ⟨_, .tuple ho hc hd q, n⟩
theorem DS.readsAll (I : Inv X pins σ H s) : ∀ {vs : List V} {ds : List PyData} {us : List Value}, Paired (DS X.K H) vs ds → Vals vs us → ∃ as, ReadsAll s.heap us ds as ∧ sysModules ∉ as
  | _, _, _, .nil, .nil => ⟨[], .nil, fun z => nomatch z⟩
  | _, _, _, .cons f t, .cons r t2 => by
    obtain ⟨as, h1, n1⟩ := f.reads I r
    obtain ⟨bs, h2, n2⟩ := DS.readsAll I t t2
    exact ⟨as ++ bs, .cons h1 h2, fun z => (List.mem_append.mp z).elim n1 n2⟩
theorem DL.reads (I : Inv X pins σ H s) {vs : List V} {ds : List PyData} {us : List Value} (f : DL X.K H vs ds) (r : Vals vs us) : ∃ as, ReadsAll s.heap us ds as ∧ (PyData.hasDictAll ds = true → sysModules ∉ as) := by
  rcases f with ⟨f, c⟩ | f
  · obtain ⟨as, q⟩ := Dp.readsAll I ds vs us f r
    refine ⟨as, q, fun z => ?_⟩
    rw [PyData.hasDictAll_of_canLayAll ds c] at z
    exact absurd z Bool.false_ne_true
  · obtain ⟨as, q, n⟩ := DS.readsAll I f r
    exact ⟨as, q, fun _ => n⟩
/-- repr(xs), xs a list -/
def rRepr (K : Frag) : List V → Hp → VK → Prop := fun xs H Q => ∃ (a : Addr) (vs : List V) (ds : List PyData), xs = [.ref a] ∧ SqL K H a vs ∧ DL K H vs ds ∧ PyData.showableAll ds = true ∧ PyData.leavesShortAll 13 ds = true ∧ PyData.weightAll ds ≤ 1000000 ∧ PyData.depthAll ds ≤ 20 ∧
  Q (.str (PyData.shown (.list ds))) H
theorem call_repr (hg : X.A.guards = some []) (hu : X.A.units + 64 < cLine) : CallR X (.builtin "repr") (rRepr X.K) := by
  intro pins s σ H xs us Q I r h
  obtain ⟨a, vs, ds, rfl, hl, hd, hs, hb, hw, hp, q⟩ := h
  obtain rfl := Vals.ref1 r
  obtain ⟨its, rv, ⟨o, n, ho, hc, hdn, hda⟩, hz⟩ := I.list hl
  obtain ⟨as, h4, hsm⟩ := hd.reads I rv
  have fit : (PyData.shown (.list ds)).length ≤ sizeLine := PyData.shown_fits (B := 13) (by decide) (by decide) (by simpa only [PyData.leavesShort] using hb) (by
    simp only [PyData.weight]
    omega)
  have hz' : (listText (PyData.shownAll ds)).length ≤ sizeLine := by simpa only [PyData.shown] using fit
  obtain ⟨bs, hbs, hk⟩ := ReprAllK.of_readsAll (prog := X.prog) (w := X.w) h4 hs hsm (fun t ht => Nat.le_trans (listText_mem_le ht) hz')
  have hna : a ∉ bs := not_mem_of_deeper (.list ho hc hda h4) (by simp only [PyData.depth]; omega) hbs
  simp only [PyData.shown] at q
  refine call_repr_slot (by omega) ⟨o, ho, hc⟩ F.slot_list_repr.toG ?_
  cases its with
  | nil =>
    cases h4
    simp only [PyData.shownAll, listText_nil] at q
    refine call_list_repr_empty (s := s) ⟨o, ho, hc⟩ ho hda ?_
    exact ⟨_, _, rfl, .str "[]", H, I.tok _, ⟨_, rfl⟩, q⟩
  | cons x l =>
    refine call_list_reprK ho hc hda hna (by simpa using hk.length_eq) (fun i y e => hk.item i y (by simpa using e)) hg (fun b _ => Clear.nil b) (by show X.A.units + 1 + _ < cLine; omega) (fun _ _ e => e) (fun h' u tk k => ?_) hz'
    exact ⟨_, _, rfl, .str (listText (PyData.shownAll ds)), H, I.kept k, ⟨u, rfl⟩, q⟩
end
end L2.TT

namespace TR
open PySem PySem.Spec PyProof.Rows L2 L2.TT
abbrev sBegin : Stmt := s_law_begin
abbrev sMixed : Stmt := s_law_mixed
abbrev sNext : Stmt := s_law_next
/-- the drawn values' state: a dict, its list of cells; no counter beyond n -/
def drawKvs (cl : Addr) (i j k : Int) : List (Key × V) := [(Sum.inr "cells", .ref cl), (Sum.inr "at", .int i), (Sum.inr "left", .int j), (Sum.inr "used", .int k)]
def DrawAt (H : Hp) (dr cl : Addr) (n : Nat) : Prop := ∃ (cs : List Int) (i j k : Int), H dr = some (.dK (drawKvs cl i j k)) ∧ H cl = some (.lst (cs.map V.int)) ∧ cs ≠ [] ∧ cs.length ≤ 64 ∧ 0 ≤ i ∧ i ≤ n ∧ 0 ≤ j ∧ 0 ≤ k ∧ k ≤ n
def spBegin (K : PySem.W.Frag) : Sp := fun vs H Q _ => ∃ (a : Addr) (ns : List Int), vs = [.ref a] ∧ SqL K H a (ns.map V.int) ∧ ns.length ≤ 63 ∧ ∀ (p c : Addr) (H' : Hp), H p = none → H c = none → Same H H' → DrawAt H' p c 0 → Q (.ref p) H'
def spMixed : Sp := fun vs H Q _ => ∃ (c k : Int), vs = [.int c, .int k] ∧ 0 ≤ k ∧ k ≤ 1000000000 ∧ ∀ r : Int, Q (.int r) H
def spNext : Sp := fun vs H Q _ => ∃ (dr cl : Addr) (b : Int) (n : Nat), vs = [.ref dr, .int b] ∧ DrawAt H dr cl n ∧ n ≤ 900000000 ∧ 0 < b ∧ b < 1073741824 ∧
  ∀ (r : Int) (H' : Hp), 0 ≤ r → r < b → DrawAt H' dr cl (n + 1) → (∀ q, q ≠ dr → H' q = H q) → Q (.int r) H'
theorem modb (x : Int) {m : Int} (h : 0 < m) : 0 ≤ x % m ∧ x % m < m := ⟨Int.emod_nonneg _ (by omega), Int.emod_lt_of_pos _ h⟩
theorem n1 : ¬ (("cells" : Str) = "at") := by decide +kernel
theorem n2 : ¬ (("cells" : Str) = "left") := by decide +kernel
theorem n3 : ¬ (("cells" : Str) = "used") := by decide +kernel
theorem n4 : ¬ (("at" : Str) = "left") := by decide +kernel
theorem n5 : ¬ (("at" : Str) = "used") := by decide +kernel
theorem n6 : ¬ (("left" : Str) = "used") := by decide +kernel
theorem dg_cells {cl : Addr} {i j k : Int} : valV (drawKvs cl i j k) (Sum.inr "cells") = some (.ref cl) := by simp [valV, drawKvs]
theorem dg_at {cl : Addr} {i j k : Int} : valV (drawKvs cl i j k) (Sum.inr "at") = some (.int i) := by simp [valV, drawKvs, n1]
theorem dg_left {cl : Addr} {i j k : Int} : valV (drawKvs cl i j k) (Sum.inr "left") = some (.int j) := by simp [valV, drawKvs, n2, n4]
theorem dg_used {cl : Addr} {i j k : Int} : valV (drawKvs cl i j k) (Sum.inr "used") = some (.int k) := by simp [valV, drawKvs, n3, n5, n6]
theorem dp_at {cl : Addr} {i j k x : Int} : putK (drawKvs cl i j k) (Sum.inr "at") (.int x) = drawKvs cl x j k := by simp [putK, drawKvs, n1, n4, n5, Ne.symm n4, Ne.symm n5]
theorem dp_left {cl : Addr} {i j k x : Int} : putK (drawKvs cl i j k) (Sum.inr "left") (.int x) = drawKvs cl i x k := by simp [putK, drawKvs, n2, n4, n6, Ne.symm n6]
theorem dp_used {cl : Addr} {i j k x : Int} : putK (drawKvs cl i j k) (Sum.inr "used") (.int x) = drawKvs cl i j x := by simp [putK, drawKvs, n3, n5, n6]
theorem atI_pos {α : Type} {xs : List α} {i : Int} {v : α} (h0 : 0 ≤ i) (h : xs[i.toNat]? = some v) : atI xs i = some v := by
  have := atI_nat h
  rwa [Int.toNat_of_nonneg h0] at this
structure TxtD (K : PySem.W.Frag) (mg : Str → Option Value) (fM : Addr) : Prop where
  len : mg "len" = none
  gM : mg "_law_mixed" = some (.ref fM)
section
variable {P : Program} {w : World} {K : PySem.W.Frag} {mg : Str → Option Value} {base : Heap}
theorem scB : FnScope ["script"] ["script"] (defScope sBegin) := ⟨rfl, rfl, rfl, by decide +kernel, rfl, by decide +kernel, by decide +kernel⟩
theorem ok_begin {f : Addr} {fd : FuncData} (F : Fun K "_law_begin" "_law_begin" sBegin f fd) : FnOk P w K mg base CX0 1 f fd ["script"] (spBegin K) := by
  refine F.ok scB (fun vs H Q E h => ?_) (fun cdv A outer s H vs Q E hr h => ?_)
  · obtain ⟨a, ns, rfl, _⟩ := h
    rfl
  · obtain ⟨a, ns, rfl, hS, hl, k⟩ := h
    refine ⟨_, pss_one (ps_ret (pe_disp (pps_cons pe_str (pe_op op_catL (pv 0) (pe_lst (pa_cons pe_int pa_nil))) (pps_cons pe_str pe_int (pps_cons pe_str pe_int (pps_cons pe_str pe_int pps_nil)))) (by rfl) (by rfl) (fun z => by cases z) (by decide))), ?_⟩
    intro p hp
    have s1 : Same H (upd H p (.dK [])) := fun b o e => by rw [upd_ne (ne_of_none e hp)]; exact e
    refine ⟨_, rfl, by rw [sizeLine_eq]; decide, fun l hl2 => ?_⟩
    have npl : p ≠ l := ne_of_none upd_same hl2
    have s2 : Same H (upd (upd H p (.dK [])) l (.lst [V.int 0])) := fun b o e => by rw [upd_ne (ne_of_none (s1 b o e) hl2)]; exact s1 b o e
    refine ⟨a, l, ns.map V.int, [V.int 0], rfl, rfl, s2.seq hS, .inl (.inl upd_same), ?_⟩
    rw [sizeLine_eq, List.length_map]
    refine ⟨by simp only [List.length_singleton]; omega, fun c hc => ?_⟩
    have ncp : p ≠ c := ne_of_none (by rw [upd_ne npl]; exact upd_same) hc
    have s3 : Same H (upd (upd (upd H p (.dK [])) l (.lst [V.int 0])) c (.lst (ns.map V.int ++ [V.int 0]))) := fun b o e => by rw [upd_ne (ne_of_none (s2 b o e) hc)]; exact s2 b o e
    refine ⟨by rw [upd_ne ncp, upd_ne npl, upd_same], drawKvs c 0 0 0, rfl, (by show 4 ≤ 15; decide), ?_⟩
    refine k p c _ hp (s2.free hc) (fun b o e => by rw [upd_ne (ne_of_none e hp)]; exact s3 b o e) ⟨ns ++ [0], 0, 0, 0, ?_, ?_, by simp, by simp; omega, by decide, by decide, by decide, by decide, by decide⟩
    · rw [upd_same]
      rfl
    · rw [upd_ne ncp.symm, upd_same, List.map_append]
      rfl
theorem scM : FnScope ["cell", "k", "mixed"] ["cell", "k"] (defScope sMixed) := ⟨rfl, rfl, rfl, by decide +kernel, rfl, by decide +kernel, by decide +kernel⟩
theorem ok_mixed {f : Addr} {fd : FuncData} (F : Fun K "_law_mixed" "_law_mixed" sMixed f fd) : FnOk P w K mg base CX0 1 f fd ["cell", "k"] spMixed := by
  refine F.ok scM (fun vs H Q E h => ?_) (fun cdv A outer s H vs Q E hr h => ?_)
  · obtain ⟨a, ns, rfl, _⟩ := h
    rfl
  · obtain ⟨c, n, rfl, h0, hn, k⟩ := h
    refine ⟨_, pss_cons (ps_set (i := 2) scM.nd rfl (Or.inl rfl) (pe_op op_mod (pe_op op_add (pe_op op_add (pe_op op_add (pe_op op_mod (pv 0) pe_int) (pe_op op_mul (pe_op op_mul pe_int (pv 1)) (pv 1))) (pe_op op_mul pe_int (pv 1))) pe_int) pe_int))
      (pss_cons (ps_set (i := 2) scM.nd rfl (Or.inl rfl) (pe_op op_mod (pe_op op_mul (pe_op op_mod (pe_op op_mul (pv 2) (pv 2)) pe_int) (pv 2)) pe_int))
      (pss_one (ps_ret (pe_op op_fdiv (pe_op op_mod (pe_op op_mul (pv 2) (pe_op op_add pe_int (pe_op op_mul pe_int (pe_op op_mod (pv 1) pe_int)))) pe_int) pe_int)))), ?_⟩
    refine ⟨_, rfl, _, _, rfl, rfl, (by show (0 : Int) < 1000000007; decide), ?_⟩
    refine ⟨_, rfl, _, _, rfl, rfl, .inl ⟨by decide, by decide⟩, _, rfl, _, _, rfl, rfl, .inr ⟨by omega, by omega⟩, _, _, rfl, rfl, ?_⟩
    refine ⟨_, rfl, _, _, rfl, rfl, .inl ⟨by decide, by decide⟩, _, _, rfl, rfl, _, _, rfl, rfl, _, _, rfl, rfl, (by show (0 : Int) < 2147483647; decide), ?_⟩
    have hm := modb (c % 1000000007 + 7919 * n * n + 31 * n + 7) (m := 2147483647) (by decide)
    generalize (c % 1000000007 + 7919 * n * n + 31 * n + 7) % 2147483647 = m at hm
    refine ⟨_, rfl, _, rfl, _, _, rfl, rfl, .inl ⟨by omega, by omega⟩, _, _, rfl, rfl, (by show (0 : Int) < 2147483647; decide), ?_⟩
    have hm2 := modb (m * m) (m := 2147483647) (by decide)
    generalize (m * m) % 2147483647 = m2 at hm2
    refine ⟨_, rfl, _, _, rfl, rfl, .inl ⟨by omega, by omega⟩, _, _, rfl, rfl, (by show (0 : Int) < 2147483629; decide), ?_⟩
    have hm3 := modb (m2 * m) (m := 2147483629) (by decide)
    generalize (m2 * m) % 2147483629 = m3 at hm3
    refine ⟨_, rfl, _, rfl, _, _, rfl, rfl, (by show (0 : Int) < 1000; decide), _, _, rfl, rfl, .inl ⟨by decide, by decide⟩, _, _, rfl, rfl, _, _, rfl, rfl, .inl ⟨by omega, by omega⟩, _, _, rfl, rfl, (by show (0 : Int) < 2147483647; decide), _, _, rfl, rfl, ⟨by decide, by decide⟩, ?_⟩
    exact k _
theorem scN : FnScope ["draw", "bound", "found", "cells", "cell"] ["draw", "bound"] (defScope sNext) := ⟨rfl, rfl, rfl, by decide +kernel, rfl, by decide +kernel, by decide +kernel⟩
theorem ok_next {f fM : Addr} {fd fdM : FuncData} (F : Fun K "_law_next" "_law_next" sNext f fd) (T : TxtD K mg fM) (FM : Fun K "_law_mixed" "_law_mixed" sMixed fM fdM) (bM : Binds K fdM ["cell", "k"] []) : FnOk P w K mg base CX0 2 f fd ["draw", "bound"] spNext := by
  have GM : FnOk P w K mg base CX0 1 fM fdM ["cell", "k"] spMixed := ok_mixed FM
  refine F.ok scN (fun vs H Q E h => ?_) (fun cdv A outer s H vs Q E hr h => ?_)
  · obtain ⟨a, cl0, ns, n, rfl, _⟩ := h
    rfl
  · obtain ⟨dr, cl, b, n, rfl, ⟨cs, i, j, k, hd, hc, hne, hcl, hi0, hin, hj0, hk0, hkn⟩, hn, hb0, hb1, q⟩ := h
    have hu := hu_of hr
    refine ⟨_, pss_cons (ps_if (pt_cmpR op_gt (pe_dget hu (pv 0) pe_str (fun _ _ => rfl)) pe_int (nomark _))
        (pss_cons (ps_set (i := 2) scN.nd rfl (Or.inl rfl) (pe_op op_modN (pe_dget hu (pv 0) pe_str (fun _ _ => rfl)) (pv 1)))
        (pss_cons (ps_dput hu (pv 0) pe_str (pe_op op_fdivN (pe_dget hu (pv 0) pe_str (fun _ _ => rfl)) (pv 1)) rfl)
        (pss_one (ps_ret (pv 2))))) pss_nil)
      (pss_cons (ps_set (i := 3) scN.nd rfl (Or.inl rfl) (pe_dget hu (pv 0) pe_str (fun _ _ => rfl)))
      (pss_cons (ps_set (i := 4) scN.nd rfl (Or.inl rfl) (pe_ix ix_list (pv 3) (pe_op op_modN (pe_dget hu (pv 0) pe_str (fun _ _ => rfl)) (pe_callB call_len_seq (by rfl) T.len PySem.boot_len (pa_cons (pv 3) pa_nil))) (fun _ _ => rfl)))
      (pss_cons (ps_dput hu (pv 0) pe_str (pe_op op_add (pe_dget hu (pv 0) pe_str (fun _ _ => rfl)) pe_int) rfl)
      (pss_cons (ps_if (PW.pt (pw_and (pt_cmpR op_ge (pv 4) (pe_op op_pow pe_int pe_int) (nomark _)) (pw_and1 (pt_cmpR op_le (pe_dget hu (pv 0) pe_str (fun _ _ => rfl)) (pe_callB call_len_seq (by rfl) T.len PySem.boot_len (pa_cons (pv 3) pa_nil)) (nomark _)))))
        (pss_cons (ps_dput hu (pv 0) pe_str (pe_op op_fdivN (pv 4) (pv 1)) rfl)
        (pss_one (ps_ret (pe_op op_modN (pv 4) (pv 1))))) pss_nil)
      (pss_cons (ps_dput hu (pv 0) pe_str (pe_op op_add (pe_dget hu (pv 0) pe_str (fun _ _ => rfl)) pe_int) rfl)
      (pss_one (ps_ret (pe_op op_modN (pe_call GM hr rfl T.gM FM.kp bM .nil pass0 (pa_cons (pe_call GM hr rfl T.gM FM.kp bM .nil pass0 (pa_cons (pv 4) (pa_cons (pe_dget hu (pv 0) pe_str (fun _ _ => rfl)) pa_nil))) (pa_cons (pe_dget hu (pv 0) pe_str (fun _ _ => rfl)) pa_nil))) (pv 1))))))))), ?_⟩
    have gA : DGet H dr (kV (Sum.inr "at")) (some (.int i)) := by rw [← dg_at]; exact DGet.k hd
    have gL : DGet H dr (kV (Sum.inr "left")) (some (.int j)) := by rw [← dg_left]; exact DGet.k hd
    have gC : DGet H dr (kV (Sum.inr "cells")) (some (.ref cl)) := by rw [← dg_cells]; exact DGet.k hd
    have ncd : cl ≠ dr := ne_of hc hd (by intro z; cases z)
    -- if draw["left"] > 0
    refine ⟨_, rfl, dr, _, rfl, gL, _, _, rfl, rfl, _, rfl, ?_⟩
    refine ite2 (fun hj => ?_) (fun hj => ?_)
    · refine ⟨_, rfl, dr, _, rfl, gL, _, rfl, _, _, rfl, rfl, by omega, ?_⟩
      refine ⟨_, rfl, dr, _, rfl, gL, _, rfl, _, _, rfl, rfl, ⟨by omega, by omega⟩, _, rfl, dr, _, rfl, DPut.k (k := Sum.inr "left") hd (by show 4 < sizeLine; rw [sizeLine_eq]; decide), ?_⟩
      refine ⟨_, rfl, ?_⟩
      rw [dp_left]
      refine q _ _ ?_ ?_ ⟨cs, i, _, k, upd_same, by rw [upd_ne ncd]; exact hc, hne, hcl, hi0, by omega, ?_, hk0, by omega⟩ fun z hz => upd_ne hz
      · rw [Int.fmod_eq_emod_of_nonneg _ (by omega)]
        exact (modb _ hb0).1
      · rw [Int.fmod_eq_emod_of_nonneg _ (by omega)]
        exact (modb _ hb0).2
      · rw [Int.fdiv_eq_ediv_of_nonneg _ (by omega)]
        exact Int.ediv_nonneg hj0 (by omega)
    · -- the next cell
      have hlp : 0 < cs.length := List.length_pos_iff.mpr hne
      have hmz : (0 : Int) ≤ i.fmod (cs.length : Int) ∧ i.fmod (cs.length : Int) < cs.length := by
        rw [Int.fmod_eq_emod_of_nonneg _ (by omega)]
        exact modb _ (by omega)
      obtain ⟨c, hcx⟩ : ∃ c, (cs.map V.int)[(i.fmod (cs.length : Int)).toNat]? = some (V.int c) := by
        have hlt : (i.fmod (cs.length : Int)).toNat < cs.length := by omega
        exact ⟨cs[(i.fmod (cs.length : Int)).toNat], by rw [List.getElem?_map, List.getElem?_eq_getElem hlt]; rfl⟩
      refine ⟨_, rfl, dr, _, rfl, gC, ?_⟩
      refine ⟨_, rfl, _, rfl, dr, _, rfl, gA, _, rfl, cl, _, rfl, .inl (SqL.of hc), _, _, rfl, rfl, by rw [List.length_map]; omega, ?_⟩
      rw [List.length_map]
      refine ⟨cl, _, _, _, rfl, rfl, SqL.of hc, atI_pos hmz.1 hcx, ?_⟩
      -- draw["at"] = draw["at"] + 1
      refine ⟨_, rfl, dr, _, rfl, gA, _, _, rfl, rfl, _, rfl, dr, _, rfl, DPut.k (k := Sum.inr "at") hd (by show 4 < sizeLine; rw [sizeLine_eq]; decide), ?_⟩
      rw [dp_at]
      have hd1 : upd H dr (.dK (drawKvs cl (i + 1) j k)) dr = some (.dK (drawKvs cl (i + 1) j k)) := upd_same
      have hc1 : upd H dr (.dK (drawKvs cl (i + 1) j k)) cl = some (.lst (cs.map V.int)) := by rw [upd_ne ncd]; exact hc
      have ke1 : ∀ z, z ≠ dr → upd H dr (.dK (drawKvs cl (i + 1) j k)) z = H z := fun z hz => upd_ne hz
      generalize upd H dr (.dK (drawKvs cl (i + 1) j k)) = H1 at hd1 hc1 ke1
      have gA1 : DGet H1 dr (kV (Sum.inr "at")) (some (.int (i + 1))) := by rw [← dg_at]; exact DGet.k hd1
      have gU1 : DGet H1 dr (kV (Sum.inr "used")) (some (.int k)) := by rw [← dg_used]; exact DGet.k hd1
      refine ⟨_, rfl, _, _, rfl, rfl, ⟨by decide, by decide, by decide⟩, _, _, rfl, rfl, _, rfl, ?_⟩
      refine ite2 (fun hg => ?_) (fun hg => ?_)
      · refine ⟨_, rfl, dr, _, rfl, gA1, _, rfl, cl, _, rfl, .inl (SqL.of hc1), _, _, rfl, rfl, _, rfl, ?_⟩
        refine ite2 (fun hg2 => ?_) (fun hg2 => ?_)
        · have hc0 : (0 : Int) ≤ c := by
            have := of_decide_eq_true hg
            have e : (10 : Int) ^ (18 : Int).toNat = 1000000000000000000 := by decide
            rw [e] at this
            omega
          refine ⟨_, rfl, _, rfl, _, _, rfl, rfl, ⟨by omega, by omega⟩, _, rfl, dr, _, rfl, DPut.k (k := Sum.inr "left") hd1 (by show 4 < sizeLine; rw [sizeLine_eq]; decide), ?_⟩
          rw [dp_left]
          refine ⟨_, rfl, _, rfl, _, _, rfl, rfl, by omega, ?_⟩
          show Q (.int (Int.fmod c b)) _
          rw [Int.fmod_eq_emod_of_nonneg _ (by omega)]
          refine q _ _ (modb _ hb0).1 (modb _ hb0).2 ⟨cs, i + 1, _, k, upd_same, by rw [upd_ne ncd]; exact hc1, hne, hcl, by omega, by omega, ?_, hk0, by omega⟩ fun z hz => by rw [upd_ne hz]; exact ke1 z hz
          rw [Int.fdiv_eq_ediv_of_nonneg _ (by omega)]
          exact Int.ediv_nonneg hc0 (by omega)
        · skip
          refine ⟨_, rfl, dr, _, rfl, gU1, _, _, rfl, rfl, _, rfl, dr, _, rfl, DPut.k (k := Sum.inr "used") hd1 (by show 4 < sizeLine; rw [sizeLine_eq]; decide), ?_⟩
          rw [dp_used]
          have hd2 : upd H1 dr (.dK (drawKvs cl (i + 1) j (k + 1))) dr = some (.dK (drawKvs cl (i + 1) j (k + 1))) := upd_same
          have hc2 : upd H1 dr (.dK (drawKvs cl (i + 1) j (k + 1))) cl = some (.lst (cs.map V.int)) := by rw [upd_ne ncd]; exact hc1
          have ke2 : ∀ z, z ≠ dr → upd H1 dr (.dK (drawKvs cl (i + 1) j (k + 1))) z = H z := fun z hz => by rw [upd_ne hz]; exact ke1 z hz
          generalize upd H1 dr (.dK (drawKvs cl (i + 1) j (k + 1))) = H2 at hd2 hc2 ke2
          have gA2 : DGet H2 dr (kV (Sum.inr "at")) (some (.int (i + 1))) := by rw [← dg_at]; exact DGet.k hd2
          have gU2 : DGet H2 dr (kV (Sum.inr "used")) (some (.int (k + 1))) := by rw [← dg_used]; exact DGet.k hd2
          refine ⟨_, rfl, _, rfl, dr, _, rfl, gA2, c, i + 1, rfl, by omega, by omega, fun r1 => ?_⟩
          refine ⟨_, rfl, dr, _, rfl, gU2, r1, k + 1, rfl, by omega, by omega, fun r2 => ?_⟩
          refine ⟨_, rfl, _, _, rfl, rfl, by omega, ?_⟩
          have hr2 := modb r2 hb0
          show Q (.int (Int.fmod r2 b)) _
          rw [Int.fmod_eq_emod_of_nonneg _ (by omega)]
          exact q _ _ hr2.1 hr2.2 ⟨cs, i + 1, j, k + 1, hd2, hc2, hne, hcl, by omega, by omega, hj0, by omega, by omega⟩ ke2
      · refine iteF ?_
        refine ⟨_, rfl, dr, _, rfl, gU1, _, _, rfl, rfl, _, rfl, dr, _, rfl, DPut.k (k := Sum.inr "used") hd1 (by show 4 < sizeLine; rw [sizeLine_eq]; decide), ?_⟩
        rw [dp_used]
        have hd2 : upd H1 dr (.dK (drawKvs cl (i + 1) j (k + 1))) dr = some (.dK (drawKvs cl (i + 1) j (k + 1))) := upd_same
        have hc2 : upd H1 dr (.dK (drawKvs cl (i + 1) j (k + 1))) cl = some (.lst (cs.map V.int)) := by rw [upd_ne ncd]; exact hc1
        have ke2 : ∀ z, z ≠ dr → upd H1 dr (.dK (drawKvs cl (i + 1) j (k + 1))) z = H z := fun z hz => by rw [upd_ne hz]; exact ke1 z hz
        generalize upd H1 dr (.dK (drawKvs cl (i + 1) j (k + 1))) = H2 at hd2 hc2 ke2
        have gA2 : DGet H2 dr (kV (Sum.inr "at")) (some (.int (i + 1))) := by rw [← dg_at]; exact DGet.k hd2
        have gU2 : DGet H2 dr (kV (Sum.inr "used")) (some (.int (k + 1))) := by rw [← dg_used]; exact DGet.k hd2
        refine ⟨_, rfl, _, rfl, dr, _, rfl, gA2, c, i + 1, rfl, by omega, by omega, fun r1 => ?_⟩
        refine ⟨_, rfl, dr, _, rfl, gU2, r1, k + 1, rfl, by omega, by omega, fun r2 => ?_⟩
        refine ⟨_, rfl, _, _, rfl, rfl, by omega, ?_⟩
        have hr2 := modb r2 hb0
        show Q (.int (Int.fmod r2 b)) _
        rw [Int.fmod_eq_emod_of_nonneg _ (by omega)]
        exact q _ _ hr2.1 hr2.2 ⟨cs, i + 1, j, k + 1, hd2, hc2, hne, hcl, by omega, by omega, hj0, by omega, by omega⟩ ke2
end
end TR

namespace TR
open PySem PySem.Spec PyProof.Rows L2 L2.TT StX ClX
theorem DrawAt.mono {H : Hp} {dr cl : Addr} {n m : Nat} (d : DrawAt H dr cl n) (h : n ≤ m) : DrawAt H dr cl m := by
  obtain ⟨cs, i, j, k, h1, h2, h3, h4, h5, h6, h7, h8, h9⟩ := d
  exact ⟨cs, i, j, k, h1, h2, h3, h4, h5, by omega, h7, h8, by omega⟩
theorem DrawAt.keep {H H' : Hp} {dr cl : Addr} {n : Nat} (d : DrawAt H dr cl n) (e1 : H' dr = H dr) (e2 : H' cl = H cl) : DrawAt H' dr cl n := by
  obtain ⟨cs, i, j, k, h1, h2, r⟩ := d
  exact ⟨cs, i, j, k, e1.trans h1, e2.trans h2, r⟩
theorem DrawAt.same {H H' : Hp} {dr cl : Addr} {n : Nat} (d : DrawAt H dr cl n) (s : Same H H') : DrawAt H' dr cl n := by
  obtain ⟨cs, i, j, k, h1, h2, r⟩ := d
  exact ⟨cs, i, j, k, s _ _ h1, s _ _ h2, r⟩
theorem DrawAt.some1 {H : Hp} {dr cl : Addr} {n : Nat} (d : DrawAt H dr cl n) : ∃ kvs, H dr = some (.dK kvs) := by
  obtain ⟨cs, i, j, k, h1, h2, r⟩ := d
  exact ⟨_, h1⟩
theorem DrawAt.some2 {H : Hp} {dr cl : Addr} {n : Nat} (d : DrawAt H dr cl n) : ∃ xs, H cl = some (.lst xs) := by
  obtain ⟨cs, i, j, k, h1, h2, r⟩ := d
  exact ⟨_, h2⟩
/-- all but the draw stands as before -/
def Fr (dr : Addr) (H H' : Hp) : Prop := ∀ b o, H b = some o → b ≠ dr → H' b = some o
theorem Fr.refl {dr : Addr} {H : Hp} : Fr dr H H := fun _ _ e _ => e
theorem Fr.trans {dr : Addr} {H H1 H2 : Hp} (a : Fr dr H H1) (b : Fr dr H1 H2) : Fr dr H H2 := fun c o e n => b _ _ (a _ _ e n) n
theorem Fr.of {dr : Addr} {H H' : Hp} (h : ∀ q, q ≠ dr → H' q = H q) : Fr dr H H' := fun b o e n => by rw [h b n]; exact e
theorem Fr.sm {dr : Addr} {H H' : Hp} (h : Same H H') : Fr dr H H' := fun b o e _ => h b o e
theorem Prs.fr {dr : Addr} {H H' : Hp} {ps : List Addr} {tr : List E2} {kvs : List (Key × V)} (h : Prs H ps tr) (k : Fr dr H H') (hd : H dr = some (.dK kvs)) : Prs H' ps tr :=
  ⟨h.1, fun i p e a b => k _ _ (h.2 i p e a b) (ne_of (h.2 i p e a b) hd (by intro z; cases z))⟩
theorem Fr.free {dr : Addr} {H H' : Hp} (k : Fr dr H H') {b : Addr} (hb : b ≠ dr) (h : H' b = none) : H b = none := by
  cases e : H b with
  | none => rfl
  | some o =>
    rw [k _ _ e hb] at h
    cases h
structure TI (H H' : Hp) (dr cl fl : Addr) (i n : Nat) (ps : List Addr) (tr : List E2) : Prop where
  D : DrawAt H' dr cl n
  fr : Fr dr H H'
  hf : H' fl = some (.lst (ps.map V.ref))
  P : Prs H' ps tr
  len : tr.length = i
  mxs : tr.map mx = List.range' 1 i
  ne : ∀ e ∈ tr, e.1 ≠ e.2
theorem TI.step {H H' : Hp} {dr cl fl : Addr} {i n m : Nat} {ps : List Addr} {tr : List E2} (t : TI H H' dr cl fl i n ps tr) (nf : H fl = none) (fd : fl ≠ dr) (fc : fl ≠ cl) {H3 : Hp} (D3 : DrawAt H3 dr cl m) (k : Fr dr H' H3) {p : Addr} (np : H3 p = none)
    {e : E2} (he : mx e = i + 1) (hne : e.1 ≠ e.2) : TI H (upd (upd H3 p (.tup [iv e.1, iv e.2])) fl (.lst (ps.map V.ref ++ [.ref p]))) dr cl fl (i + 1) m (ps ++ [p]) (tr ++ [e]) := by
  obtain ⟨kvs, hd0⟩ := t.D.some1
  obtain ⟨kv3, hd3⟩ := D3.some1
  obtain ⟨xs3, hc3⟩ := D3.some2
  have hf3 := k _ _ t.hf fd
  have npf : p ≠ fl := fun z => by rw [z, hf3] at np; cases np
  have npd : p ≠ dr := fun z => by rw [z, hd3] at np; cases np
  have npc : p ≠ cl := fun z => by rw [z, hc3] at np; cases np
  have P3 := t.P.fr k hd0
  refine ⟨D3.keep (by rw [upd_ne fd.symm, upd_ne npd.symm]) (by rw [upd_ne fc.symm, upd_ne npc.symm]), fun b o eb nb => ?_, by rw [upd_same, List.map_append]; rfl, ?_, by rw [List.length_append, t.len]; rfl, ?_, ?_⟩
  · have h1 := k _ _ (t.fr _ _ eb nb) nb
    rw [upd_ne (ne_of_none eb nf), upd_ne (ne_of_none h1 np)]
    exact h1
  · have P4 : Prs (upd H3 p (.tup [iv e.1, iv e.2])) (ps ++ [p]) (tr ++ [e]) := (P3.same (same_upd np _)).snoc upd_same
    refine ⟨P4.1, fun j q d hq hd => ?_⟩
    have h1 := P4.2 j q d hq hd
    have hf4 : upd H3 p (.tup [iv e.1, iv e.2]) fl = some (.lst (ps.map V.ref)) := by rw [upd_ne npf.symm]; exact hf3
    rw [upd_ne (ne_of h1 hf4 (by intro z; cases z))]
    exact h1
  · rw [List.map_append, t.mxs, List.range'_concat]
    show _ ++ [mx e] = _ ++ [1 + 1 * i]
    rw [he]
    congr 2
    omega
  · intro d hd
    rcases List.mem_append.mp hd with hd | hd
    · exact t.ne d hd
    · rw [List.mem_singleton] at hd
      rw [hd]
      exact hne
theorem pick5 {r i : Int} (h0 : 0 ≤ r) (h1 : r < 5) {a b c d e : Int} (ha : 0 ≤ a ∧ a ≤ i) (hb : 0 ≤ b ∧ b ≤ i) (hc : 0 ≤ c ∧ c ≤ i) (hd : 0 ≤ d ∧ d ≤ i) (he : 0 ≤ e ∧ e ≤ i) : ∃ x, atI [V.int a, V.int b, V.int c, V.int d, V.int e] r = some (.int x) ∧ 0 ≤ x ∧ x ≤ i := by
  have : r = 0 ∨ r = 1 ∨ r = 2 ∨ r = 3 ∨ r = 4 := by omega
  rcases this with rfl | rfl | rfl | rfl | rfl
  · exact ⟨a, rfl, ha⟩
  · exact ⟨b, rfl, hb⟩
  · exact ⟨c, rfl, hc⟩
  · exact ⟨d, rfl, hd⟩
  · exact ⟨e, rfl, he⟩
theorem Prs.rot {H : Hp} {ps : List Addr} {tr : List E2} (h : Prs H ps tr) (k : Nat) : Prs H (ps.drop k ++ ps.take k) (tr.drop k ++ tr.take k) := by
  have hl : (ps.drop k).length = (tr.drop k).length := by rw [List.length_drop, List.length_drop, h.1]
  refine ⟨by rw [List.length_append, List.length_append, hl, List.length_take, List.length_take, h.1], fun i p e hp he => ?_⟩
  by_cases c : i < (ps.drop k).length
  · rw [List.getElem?_append_left c, List.getElem?_drop] at hp
    rw [List.getElem?_append_left (by omega), List.getElem?_drop] at he
    exact h.2 _ p e hp he
  · rw [List.getElem?_append_right (by omega)] at hp
    rw [List.getElem?_append_right (by omega)] at he
    rw [← hl] at he
    have c2 : i - (ps.drop k).length < k := by
      have := (List.getElem?_eq_some_iff.mp hp).1
      rw [List.length_take] at this
      omega
    rw [List.getElem?_take_of_lt c2] at hp he
    exact h.2 _ p e hp he
theorem tree_rot {tr : List E2} (ne : ∀ e ∈ tr, e.1 ≠ e.2) (hm : tr.map mx = List.range' 1 tr.length) (k : Nat) : TreeL (tr.drop k ++ tr.take k) := by
  have hp : (tr.drop k ++ tr.take k).Perm tr := by
    have h1 : (tr.drop k ++ tr.take k).Perm (tr.take k ++ tr.drop k) := List.perm_append_comm
    rw [List.take_append_drop] at h1
    exact h1
  refine ⟨fun e he => ne e (hp.mem_iff.mp he), ?_⟩
  rw [hp.length_eq, ← hm]
  exact hp.map mx
def spTracks : Sp := fun vs H Q _ => ∃ (dr cl : Addr) (m : Int) (n : Nat), vs = [.ref dr, .int m] ∧ DrawAt H dr cl n ∧ n ≤ 800000000 ∧ 0 < m ∧ m ≤ 100 ∧
  ∀ (a : Addr) (ps : List Addr) (tr : List E2) (H' : Hp), DrawAt H' dr cl (n + 400) → Fr dr H H' → H' a = some (.tup (ps.map V.ref)) → Prs H' ps tr → TreeL tr → (tr.length : Int) < m → Q (.ref a) H'
section
variable {P : Program} {w : World} {K : PySem.W.Frag} {mg : Str → Option Value} {base : Heap}
abbrev NTr : List Str := ["draw", "most", "count", "shape", "found", "spot", "back", "other", "at"]
theorem sc_trk : FnScope NTr ["draw", "most"] (defScope s_law_tracks) := ⟨rfl, rfl, rfl, by decide +kernel, rfl, by decide +kernel, by decide +kernel⟩
theorem ok_trk {f fn : Addr} {fd fdn : FuncData} (F : Fun K "_law_tracks" "_law_tracks" s_law_tracks f fd) (N : Nm mg) (U : Use P w K mg base CX0 2 "_law_next" fn fdn ["draw", "bound"] spNext) : FnOk P w K mg base CX0 3 f fd ["draw", "most"] spTracks := by
  refine F.ok sc_trk (fun vs H Q E h => ?_) (fun cdv A outer s H vs Q E hr h => ?_)
  · obtain ⟨dr, cl, m, n, rfl, _⟩ := h
    rfl
  · obtain ⟨dr, cl, m, n, rfl, D, hn, hm0, hm1, k⟩ := h
    refine ⟨_, pss_cons (ps_par3 (i := 2) (j := 3) (l := 4) (by rfl) sc_trk.nd rfl rfl rfl (by decide) (by decide) (by decide) rfl rfl rfl (pa_cons (pe_op op_add pe_int (pe_use U hr rfl (pa_cons (pv 0) (pa_cons (pv 1) pa_nil)))) (pa_cons (pe_use U hr rfl (pa_cons (pv 0) (pa_cons pe_int pa_nil))) (pa_cons (pe_lst pa_nil) pa_nil))) (by rfl))
      (pss_cons (ps_for PassesOwn.never rfl (pi_range2 (by rfl) N.range (pa_cons pe_int (pa_cons (pv 2) pa_nil))) (pg_name (i := 5) sc_trk.nd rfl (.inl rfl))
        (pss_cons (ps_set (i := 6) sc_trk.nd rfl (.inl rfl) (pe_ix ix_list (pe_lst (pa_cons (pe_op op_sub (pv 5) pe_int) (pa_cons pe_int (pa_cons (pe_callB (call_max2 rfl) (by rfl) N.max PyProof.Rows.boot_max (pa_cons pe_int (pa_cons (pe_op op_sub (pv 5) pe_int) pa_nil)))
            (pa_cons (pe_callB (call_max2 rfl) (by rfl) N.max PyProof.Rows.boot_max (pa_cons pe_int (pa_cons (pe_op op_sub (pv 5) pe_int) pa_nil))) (pa_cons (pe_op op_fdiv (pv 5) pe_int) pa_nil)))))) (pv 3) (fun _ _ => rfl)))
        (pss_cons (ps_set (i := 7) sc_trk.nd rfl (.inl rfl) (pe_ifExp (pt_cmpR op_gt (pe_use U hr rfl (pa_cons (pv 0) (pa_cons pe_int pa_nil))) pe_int (nomark _)) (pv 6) (pe_use U hr rfl (pa_cons (pv 0) (pa_cons (pv 5) pa_nil)))))
        (pss_one (ps_expr (pe_bm PySem.F.plainAttrs_list PySem.F.slot_list_append PySem.F.type_list_append mt_append (pv 4) (pa_cons
          (pe_ifExp (pt_cmpR op_eq (pe_use U hr rfl (pa_cons (pv 0) (pa_cons pe_int pa_nil))) pe_int (nomark _)) (pe_tup (pa_cons (pv 7) (pa_cons (pv 5) pa_nil))) (pe_tup (pa_cons (pv 5) (pa_cons (pv 7) pa_nil)))) pa_nil))))))
      )
      (pss_cons (ps_set (i := 8) sc_trk.nd rfl (.inl rfl) (pe_use U hr rfl (pa_cons (pv 0) (pa_cons (pe_op op_add (pe_callB call_len_seq (by rfl) N.len PySem.boot_len (pa_cons (pv 4) pa_nil)) pe_int) pa_nil))))
      (pss_one (ps_ret (pe_callTy call_tuple_of (by rfl) N.tuple boot_tuple (pa_cons (pe_op op_cat (pe_slice sl_list (pv 4) (po_some (pv 8)) po_none) (pe_slice sl_list (pv 4) po_none (po_some (pv 8)))) pa_nil)))))), ?_⟩
    obtain ⟨kvs0, hd0⟩ := D.some1
    obtain ⟨xs0, hc0⟩ := D.some2
    refine ⟨_, rfl, _, rfl, dr, cl, m, n, rfl, D, by omega, hm0, by omega, fun c0 Ha c00 c01 Da ka => ?_⟩
    refine ⟨_, _, rfl, rfl, _, rfl, dr, cl, 5, _, rfl, Da, by omega, by decide, by decide, fun sh Hb sh0 sh1 Db kb => ?_⟩
    refine ⟨by show 0 ≤ sizeLine; exact Nat.zero_le _, fun fl nfl => ?_⟩
    have frb : Fr dr H Hb := (Fr.of ka).trans (Fr.of kb)
    obtain ⟨kvb, hdb⟩ := Db.some1
    obtain ⟨xsb, hcb⟩ := Db.some2
    have fd : fl ≠ dr := fun z => by rw [z, hdb] at nfl; cases nfl
    have fc : fl ≠ cl := fun z => by rw [z, hcb] at nfl; cases nfl
    have nf : H fl = none := frb.free fd nfl
    refine ⟨_, _, _, rfl, ?_⟩
    have T0 : TI H (upd Hb fl (.lst [])) dr cl fl 0 (n + 2) [] [] := ⟨Db.same (same_upd nfl _), frb.trans (Fr.sm (same_upd nfl _)), upd_same, ⟨rfl, fun _ _ _ h => nomatch h⟩, rfl, rfl, fun _ h => nomatch h⟩
    have e62 : (2 : Int) ^ 62 = 4611686018427387904 := by decide
    refine ⟨_, rfl, 1, _, rfl, ⟨by rw [e62]; omega, by rw [e62]; omega, by rw [e62]; omega, by rw [e62]; omega⟩, ?_⟩
    refine for_range (lo := 1) (fun i σ H1 => ∃ (ps : List Addr) (tr : List E2) (x5 x6 x7 x8 : Option V) (q : Nat), σ = [some (.ref dr), some (.int m), some (.int (1 + c0)), some (.int sh), some (.ref fl), x5, x6, x7, x8] ∧ q ≤ n + 2 + 3 * i ∧ TI H H1 dr cl fl i q ps tr) ⟨[], [], _, _, _, _, _, rfl, by omega, T0⟩ ?_ ?_
    · rintro i σ H1 hi ⟨ps, tr, x5, x6, x7, x8, q, rfl, hq, t⟩
      have hi2 : (i : Int) < 1 + c0 - 1 := by omega
      have lenb : (ps.map V.ref).length < sizeLine := by
        rw [List.length_map, t.P.1, t.len, sizeLine_eq]
        omega
      obtain ⟨b, hb, b0, b1⟩ := pick5 (r := sh) (i := i) sh0 sh1 (a := 1 + (i : Int) - 1) (b := 0) (c := if 1 + (i : Int) - 2 > 0 then 1 + (i : Int) - 2 else 0) (d := if 1 + (i : Int) - 3 > 0 then 1 + (i : Int) - 3 else 0) (e := (1 + (i : Int)) / 2) (by omega) (by omega) (by split <;> omega) (by split <;> omega) (by omega)
      refine ⟨_, rfl, _, _, rfl, rfl, _, rfl, _, _, rfl, rfl, _, _, rfl, _, rfl, _, _, rfl, rfl, _, _, rfl, _, rfl, _, _, rfl, rfl, ⟨by decide, by decide⟩, by show 5 ≤ sizeLine; rw [sizeLine_eq]; decide, fun lq nlq => ?_⟩
      refine ⟨_, rfl, lq, _, _, _, rfl, rfl, SqL.of upd_same, hb, ?_⟩
      have sL := same_upd (H := H1) nlq
      -- other
      refine ⟨_, rfl, dr, cl, 4, q, rfl, t.D.same (sL _), by omega, by decide, by decide, fun r4 H4 r40 r41 D4 k4 => ?_⟩
      have fr4 : Fr dr H1 H4 := (Fr.sm (sL _)).trans (Fr.of k4)
      refine ⟨_, _, rfl, rfl, _, rfl, ?_⟩
      refine ite2 (fun _ => ?_) (fun _ => ?_)
      · refine ⟨_, rfl, ?_⟩
        have o0 := b0
        have D2 := D4
        have k2 := fr4
        obtain ⟨on, rfl⟩ := Int.eq_ofNat_of_zero_le o0
        have fr2 : Fr dr H1 H4 := k2
        have hf2 := fr2 _ _ t.hf fd
        refine ⟨_, rfl, .inl ⟨rfl, _, SqL.of hf2⟩, _, rfl, dr, cl, 2, _, rfl, D2, by omega, by decide, by decide, fun z H3 z0 z1 D3 k3 => ?_⟩
        have fr3 : Fr dr H1 H3 := fr2.trans (Fr.of k3)
        have hf3 := fr3 _ _ t.hf fd
        refine ⟨rfl, _, rfl, ?_⟩
        refine ite2 (fun _ => ?_) (fun _ => ?_)
        · refine ⟨_, rfl, _, rfl, by show 2 ≤ sizeLine; rw [sizeLine_eq]; decide, fun p np => ⟨fl, _, _, rfl, rfl, same_upd np _ _ _ hf3, lenb, ?_⟩⟩
          have es : V.int (1 + (i : Int)) = iv (i + 1) := by show V.int _ = V.int _; congr 1; omega
          rw [es]
          exact ⟨_, _, _, _, _, _, q + 3, rfl, by omega, t.step nf fd fc (D3.mono (by omega)) fr3 np (e := (on, i + 1)) (by unfold mx; simp only; omega) (by show on ≠ i + 1; omega)⟩
        · refine ⟨_, rfl, _, rfl, by show 2 ≤ sizeLine; rw [sizeLine_eq]; decide, fun p np => ⟨fl, _, _, rfl, rfl, same_upd np _ _ _ hf3, lenb, ?_⟩⟩
          have es : V.int (1 + (i : Int)) = iv (i + 1) := by show V.int _ = V.int _; congr 1; omega
          rw [es]
          exact ⟨_, _, _, _, _, _, q + 3, rfl, by omega, t.step nf fd fc (D3.mono (by omega)) fr3 np (e := (i + 1, on)) (by unfold mx; simp only; omega) (by show i + 1 ≠ on; omega)⟩
      · refine ⟨_, rfl, _, rfl, dr, cl, _, _, rfl, D4, by omega, by omega, by omega, fun o H2 o0 o1 D2 k2' => ?_⟩
        have k2 : Fr dr H1 H2 := fr4.trans (Fr.of k2')
        obtain ⟨on, rfl⟩ := Int.eq_ofNat_of_zero_le o0
        have fr2 : Fr dr H1 H2 := k2
        have hf2 := fr2 _ _ t.hf fd
        refine ⟨_, rfl, .inl ⟨rfl, _, SqL.of hf2⟩, _, rfl, dr, cl, 2, _, rfl, D2, by omega, by decide, by decide, fun z H3 z0 z1 D3 k3 => ?_⟩
        have fr3 : Fr dr H1 H3 := fr2.trans (Fr.of k3)
        have hf3 := fr3 _ _ t.hf fd
        refine ⟨rfl, _, rfl, ?_⟩
        refine ite2 (fun _ => ?_) (fun _ => ?_)
        · refine ⟨_, rfl, _, rfl, by show 2 ≤ sizeLine; rw [sizeLine_eq]; decide, fun p np => ⟨fl, _, _, rfl, rfl, same_upd np _ _ _ hf3, lenb, ?_⟩⟩
          have es : V.int (1 + (i : Int)) = iv (i + 1) := by show V.int _ = V.int _; congr 1; omega
          rw [es]
          exact ⟨_, _, _, _, _, _, q + 3, rfl, by omega, t.step nf fd fc (D3.mono (by omega)) fr3 np (e := (on, i + 1)) (by unfold mx; simp only; omega) (by show on ≠ i + 1; omega)⟩
        · refine ⟨_, rfl, _, rfl, by show 2 ≤ sizeLine; rw [sizeLine_eq]; decide, fun p np => ⟨fl, _, _, rfl, rfl, same_upd np _ _ _ hf3, lenb, ?_⟩⟩
          have es : V.int (1 + (i : Int)) = iv (i + 1) := by show V.int _ = V.int _; congr 1; omega
          rw [es]
          exact ⟨_, _, _, _, _, _, q + 3, rfl, by omega, t.step nf fd fc (D3.mono (by omega)) fr3 np (e := (i + 1, on)) (by unfold mx; simp only; omega) (by show i + 1 ≠ on; omega)⟩
    · rintro σ H1 ⟨ps, tr, x5, x6, x7, x8, q, rfl, hq, t⟩
      have hcl : ((1 + c0 - 1).toNat : Int) = c0 := by omega
      have lps : (ps.map V.ref).length = ps.length := List.length_map _
      have lpt : ps.length = tr.length := t.P.1
      have ltr : tr.length = (1 + c0 - 1).toNat := t.len
      refine ⟨_, rfl, _, rfl, fl, _, rfl, .inl (SqL.of t.hf), _, _, rfl, rfl, dr, cl, _, q, rfl, t.D, by omega, by omega, by omega, fun z H2 z0 z1 D2 k2 => ?_⟩
      obtain ⟨zn, rfl⟩ := Int.eq_ofNat_of_zero_le z0
      obtain ⟨kv1, hd1⟩ := t.D.some1
      have hf2 := Fr.of k2 _ _ t.hf fd
      have P2 := t.P.fr (Fr.of k2) hd1
      have zl : zn ≤ ps.length := by omega
      refine ⟨_, rfl, _, rfl, _, rfl, fl, _, rfl, SqL.of hf2, fun p np => ?_⟩
      have s3 := same_upd np (.lst (cutV (ps.map V.ref) (some (zn : Int)) none))
      refine ⟨_, rfl, _, rfl, _, rfl, fl, _, rfl, SqL.of (s3 _ _ hf2), fun p2 np2 => ?_⟩
      have s4 := same_upd np2 (.lst (cutV (ps.map V.ref) none (some (zn : Int))))
      have e1 : cutV (ps.map V.ref) (some (zn : Int)) none = (ps.drop zn).map V.ref := by
        unfold cutV
        rw [HT.sIx_nat, HT.sIx_none, Nat.min_eq_left (by omega), List.map_drop]
        exact List.take_of_length_le (by rw [List.length_drop]; exact Nat.le_refl _)
      have e2 : cutV (ps.map V.ref) none (some (zn : Int)) = (ps.take zn).map V.ref := by
        unfold cutV
        rw [HT.sIx_nat, HT.sIx_none, Nat.min_eq_left (by omega), List.drop_zero, Nat.sub_zero, List.map_take]
      refine ⟨p, p2, _, _, rfl, rfl, s4 _ _ upd_same, upd_same, by rw [e1, e2, List.length_map, List.length_map, List.length_drop, List.length_take, sizeLine_eq]; omega, fun p3 np3 => ?_⟩
      have s5 := same_upd np3 (.lst (cutV (ps.map V.ref) (some (zn : Int)) none ++ cutV (ps.map V.ref) none (some (zn : Int))))
      refine ⟨p3, _, rfl, .inl ⟨SqL.of upd_same, fun p4 np4 => ?_⟩⟩
      have s6 := ((s3.trans s4).trans s5).trans (same_upd np4 (.tup (cutV (ps.map V.ref) (some (zn : Int)) none ++ cutV (ps.map V.ref) none (some (zn : Int)))))
      have e3 : cutV (ps.map V.ref) (some (zn : Int)) none ++ cutV (ps.map V.ref) none (some (zn : Int)) = (ps.drop zn ++ ps.take zn).map V.ref := by rw [e1, e2, List.map_append]
      have hl2 : (tr.drop zn ++ tr.take zn).length = tr.length := by
        rw [List.length_append, List.length_drop, List.length_take]
        omega
      refine k p4 (ps.drop zn ++ ps.take zn) (tr.drop zn ++ tr.take zn) _ ((D2.same s6).mono (by omega)) ((t.fr.trans (Fr.of k2)).trans (Fr.sm s6)) ?_ ((P2.rot zn).same s6) (tree_rot t.ne (by rw [t.mxs, t.len]) zn) (by rw [hl2]; omega)
      rw [upd_same, e3]
end
end TR

namespace L2.TT
open PySem PySem.Spec PyProof.Rows HT
section
variable {prog : Program} {w : World} {A : Around} {E : Value → Shared → Prop} {s : Shared}
theorem adjust_rev (n : Nat) : Builtin.Slice.sliceAdjust none none (-1) (n : Int) = ((n : Int) - 1, -1) := by
  unfold Builtin.Slice.sliceAdjust
  have h1 : ((-1 : Int) < 0) := by decide
  simp only [h1, if_true]
theorem places_rev (n : Nat) : Builtin.Slice.slicePlaces ((n : Int) - 1) (-1) (-1) = n := by
  unfold Builtin.Slice.slicePlaces
  have h1 : ¬ ((-1 : Int) > 0) := by decide
  have e : ((n : Int) - 1 - -1 - 1) / (- -1) = (n : Int) - 1 := by
    rw [show (- -1 : Int) = 1 by decide, Int.ediv_one]
    omega
  simp only [h1, if_false, e]
  split <;> omega
theorem applied_rev {sl : Addr} {vl vu vs : Value} {n : Nat} {Q : Int × Int × Nat → Shared → Prop} (hs : s.heap.IsSliceOf sl vl vu vs) (pl : IsPart vl none) (pu : IsPart vu none) (ps : IsPart vs (some (-1)))
    (h : Q ((n : Int) - 1, -1, n) s) : wpAny (model prog w) A (Builtin.Slice.sliceApplied (.ref sl) (pure (n : Int))) Q E s := by
  obtain ⟨os, hos, hcs, hds⟩ := id hs
  unfold Builtin.Slice.sliceApplied Builtin.Slice.sliceFields
  refine wpAny_bind (wpAny_bind (wpAny_field hos hds (x := vl) rfl (wpAny_bind (wpAny_field hos hds (x := vu) rfl (wpAny_bind (wpAny_field hos hds (x := vs) rfl (wpAny_pure ?_)))))))
  refine wpAny_bind (slicePart_ ps ?_)
  show wpAny _ _ (if ((-1 : Int) == 0) = true then _ else _) _ _ s
  rw [if_neg (by decide)]
  refine wpAny_bind (slicePart_ pl (wpAny_bind (slicePart_ pu (wpAny_bind (wpAny_pure ?_)))))
  show wpAny _ _ (match Builtin.Slice.sliceAdjust none none (-1) (n : Int) with | (lo, hi) => pure (lo, (-1 : Int), Builtin.Slice.slicePlaces lo hi (-1))) _ _ s
  rw [adjust_rev n]
  show wpAny _ _ (pure ((n : Int) - 1, (-1 : Int), Builtin.Slice.slicePlaces ((n : Int) - 1) (-1) (-1))) _ _ s
  rw [places_rev]
  exact wpAny_pure h
theorem fm_congr {α β : Type} {f g : α → Option β} : ∀ {l : List α}, (∀ x ∈ l, f x = g x) → l.filterMap f = l.filterMap g
  | [], _ => rfl
  | a :: l, h => by
    have ih := fm_congr (l := l) fun x hx => h x (List.mem_cons_of_mem _ hx)
    have ha := h a (by simp)
    cases e : g a with
    | none => rw [List.filterMap_cons_none (ha.trans e), List.filterMap_cons_none e, ih]
    | some b => rw [List.filterMap_cons_some (ha.trans e), List.filterMap_cons_some e, ih]
theorem pick_rev (xs : Array Value) : ((List.range xs.size).filterMap fun (m : Nat) => xs[(((xs.size : Nat) : Int) - 1 + (m : Int) * -1).toNat]?).toArray = xs.toList.reverse.toArray := by
  have e : (List.range xs.size).filterMap (fun (m : Nat) => xs[(((xs.size : Nat) : Int) - 1 + (m : Int) * -1).toNat]?) = ((List.range xs.size).map fun k => xs.size - 1 - k).filterMap (xs[·]?) := by
    rw [List.filterMap_map]
    apply fm_congr
    intro m hm
    have := List.mem_range.mp hm
    have e2 : (((xs.size : Nat) : Int) - 1 + (m : Int) * -1).toNat = xs.size - 1 - m := by omega
    rw [e2]
    rfl
  rw [e, PySem.W.krv_range, List.filterMap_reverse, PySem.W.krv_all]
theorem getItem_tuple_rev {t sl : Addr} {items : Array Value} {vl vu vs : Value} {Q : Value → Shared → Prop} (ht : IsTup s.heap t items) (hs : s.heap.IsSliceOf sl vl vu vs) (pl : IsPart vl none) (pu : IsPart vu none) (ps : IsPart vs (some (-1)))
    (h : Q (.ref s.heap.objs.size) { s with heap := s.heap.push { cls := .type "tuple", data := .seq items.toList.reverse.toArray } })
    (hsz : items.size ≤ sizeLine) : wpAny (model prog w) A (getItem (.ref t) (.ref sl)) Q E s := by
  have htake : sizeOk (.seq items.toList.reverse.toArray) := by
    show items.toList.reverse.toArray.size ≤ sizeLine
    rw [List.size_toArray, List.length_reverse, Array.length_toList]
    exact hsz
  obtain ⟨os, hos, hcs, hds⟩ := id hs
  have hTs : s.TypeIs (.ref sl) "slice" := ⟨os, hos, hcs⟩
  unfold getItem
  try with_reducible refine wpAny_holding ?_
  first | refine wpAny_bind (wpAny_pure ?_) | skip
  refine wpAny_bind (wpAny_sequenceKey ht.typeIs (by decide) ?_)
  refine wpAny_bind (wpAny_callSpecial?_slot (name := Str.ofString "__getitem__") ht.typeIs PyProof.Rows.slot_tuple_getitem
    (wpAny_call_entry PyProof.Rows.slot_tuple_getitem ht.typeIs entry_tuple_getitem ?_ (args_tuple_getitem _ _)))
  show wpAny _ _ (Builtin.Tuple.tupleItemsOf (.ref t) >>= _) _ _ s
  refine wpAny_bind (tupleItemsOf_ ht ?_)
  refine wpAny_bind (wpAny_typeOf hTs ?_)
  rw [if_pos (by decide)]
  refine wpAny_bind (applied_rev hs pl pu ps ?_)
  have hno : ¬ ((((items.size : Nat) : Int) - 1 == 0 && (-1 : Int) == 1 && items.size == items.size) = true) := by
    intro q
    rw [Bool.and_eq_true, Bool.and_eq_true] at q
    exact absurd q.1.2 (by decide)
  show wpAny _ _ (if (((items.size : Nat) : Int) - 1 == 0 && (-1 : Int) == 1 && items.size == items.size) = true then _ else _) _ _ s
  rw [if_neg hno, pick_rev]
  first
    | exact wpAny_bind (m := Builtin.Tuple.tupleExact _) (wpAny_newObj_type (wpAny_pure ⟨_, rfl, wpAny_pure h⟩) htake)
    | exact wpAny_bind (m := Builtin.Tuple.tupleExact _) (wpAny_newObj_type (wpAny_bind (wpAny_pure (wpAny_pure ⟨_, rfl, wpAny_pure h⟩))) htake)
    | exact wpAny_bind (wpAny_bind (m := Builtin.Tuple.tupleExact _) (wpAny_newObj_type (wpAny_pure (wpAny_pure ⟨_, rfl, wpAny_pure h⟩)) htake))
    | exact wpAny_bind (wpAny_bind (m := Builtin.Tuple.tupleExact _) (wpAny_newObj_type (wpAny_pure ⟨_, rfl, wpAny_pure h⟩) htake))
end
section
variable {X : Cx}
/-- t[::-1] -/
def tRevT (K : PySem.W.Frag) (te : TE) : TE := fun σ H Q => te σ H fun x H1 => ∃ a xs, x = .ref a ∧ SqT K H1 a xs ∧ ∀ p, H1 p = none → Q (.ref p) (upd H1 p (.tup xs.reverse))
theorem pe_revT {e : Expr} {te : TE} {k : Nat} {p1 p2 p3 pos : Pos} (he : PE X e te) : PE X (.Subscript e (.Slice none none (some (.UnaryOp .USub (.Constant (.int 1) k p1) p2)) p3) pos) (tRevT X.K te) := by
  refine ⟨fun pins s σ H Q I h => ?_⟩
  refine Subscript_ (thn (he.run pins s σ H _ I h) fun v s1 ⟨x, H1, I1, r1, q1⟩ => ?_)
  obtain ⟨a, xs, ex, hx, q⟩ := q1
  subst ex
  cases r1
  have hst : PO X (some (.UnaryOp .USub (.Constant (.int 1) k p1) p2)) (tPart (tUn (rU fun i => .int (-i)) (tC (.int 1)))) := po_some (pe_un un_neg pe_int)
  refine wpAny_Slice (thn (po_none.run pins s1 σ H1 (fun o H2 => o = none ∧ H2 = H1) I1 ⟨rfl, rfl⟩) fun vl s2 ⟨l, H2, I2, pl, el, e2⟩ => ?_)
  subst el e2
  refine thn (po_none.run pins s2 σ H2 (fun o H3 => o = none ∧ H3 = H2) I2 ⟨rfl, rfl⟩) fun vu s3 ⟨u, H3, I3, pu, eu, e3⟩ => ?_
  subst eu e3
  refine thn (hst.run pins s3 σ H3 (fun o H4 => o = some (-1) ∧ H4 = H3) I3 ⟨1, rfl, -1, rfl, rfl, rfl⟩) fun vs s4 ⟨o, H4, I4, ps, eo, e4⟩ => ?_
  subst eo e4
  have I5 : Inv X pins σ H4 { s4 with heap := s4.heap.push { cls := .type "slice", data := .fields #[vl, vu, vs] } } := I4.kept (t' := s4.toks) fun b ob q => Heap.get?_push_of_some _ q
  obtain ⟨its, r, ht, hz⟩ := I5.tuple hx
  have hlen := r.length
  show wpAny (model X.prog X.w) X.A (subscriptTail e (.Slice none none (some (.UnaryOp .USub (.Constant (.int 1) k p1) p2)) p3) (.ref a) (.ref s4.heap.objs.size)) (EP X pins σ Q) X.xe { s4 with heap := s4.heap.push { cls := .type "slice", data := .fields #[vl, vu, vs] } }
  refine tail_any (ops := [.ref a, .ref s4.heap.objs.size]) ht.typeIs PyProof.Rows.slot_tuple_getitem.lookup ?_ (by with_unfolding_all rfl)
  refine getItem_tuple_rev ht (Heap.IsSliceOf.new _ vl vu vs) pl pu ps ?_ (by rw [List.size_toArray]; omega)
  refine ⟨.ref _, _, I5.laid (t' := s4.toks) (o := .tup xs.reverse) (fun b ob q => Heap.get?_push_of_some _ q) (Nat.le_refl _) ?_, rfl, q _ (I5.hok.fresh (Nat.le_refl _))⟩
  exact ⟨by rw [List.length_reverse]; exact hz, _, r.reverse, IsTup.new _ _⟩
end
end L2.TT

namespace L2.TT
open PySem PySem.Spec PyProof.Rows PySem.W StX
section
variable {X : Cx} {CX : CXT} {k : Nat} {f C : Addr} {fd : FuncData} {ps ks : List Str} {sp : Sp} {E : XK} {x : Str} {p pos : Pos} {e : Expr} {es : List Expr} {kws : List Keyword} {t tk : TA}
/-- f(k = v, ..), all by name -/
def tKW (m : Nat) (sp : Sp) (gV : List V → List V) (E : XK) (tk : TA) : TE := fun σ H Q => tk σ H fun zs H1 => zs.length = m ∧ sp (gV zs) H1 Q E
theorem pe_callKW0 {gg : List Value → List Value} {hV : List V → List V} (F : FnOk X.prog X.w X.K X.mg X.base CX k f fd ps sp) (hr : Room k X.A)
    (hb : ∀ (s : Shared) (ws : List Value), X.K.In s.heap → ws.length = ks.length → BindsTo s fd ⟨[], ks.zip ws⟩ (ps.zip (gg ws))) (hrel : ∀ {zs : List V} {ws : List Value}, zs.length = ks.length → Vals zs ws → Vals (hV zs) (gg ws))
    (hx : Passes CX X E) (hg : Gl X x) (hm : X.mg x = some (.ref f)) (hk : keepIn X.K (.ref f) = true) (hkw : PK X kws tk)
    (hall : (backToKw pos (keywordEach kws X.env)).all (·.1.isSome) = true := by rfl) (hks : (backToKw pos (keywordEach kws X.env)).filterMap (·.1) = ks := by rfl) (hdb : (x == ("__debug__" : Str)) = false := by decide)
    (hpl : ((backTo pos (starEach [] X.env)).any (·.1) || (backToKw pos (keywordEach kws X.env)).any (·.1.isNone)) = false := by rfl) :
    PE X (.Call (.Name x p) [] kws pos) (tKW ks.length sp hV E tk) := by
  refine ⟨fun pins s σ H Q I h => ?_⟩
  refine wpAny_Call_Name_kw (ld_glob I hg hm ?_ hdb)
  refine callWith_KW0 (h₀ := X.base) I.ok.mod.kin hk hall ?_ hpl
  refine thn (hkw.run pos pins s σ H _ I h) fun ws s2 ⟨zs, H2, I2, rz, l2, q2⟩ => ⟨I2.kIn, ?_⟩
  rw [hks]
  have lw : ws.length = ks.length := rz.length.symm.trans l2
  refine wpAny_call (codeAny_mono (F.run X.A X.stack s2 H2 ⟨[], ks.zip ws⟩ (gg ws) (hV zs) Q E hr I2.env0 (hb s2 ws I2.kIn lw) (hrel l2 rz) q2) fun r s' hq => ?_)
  cases r with
  | error er => exact hx pins σ H2 s2 er s' I2 hq
  | ok fl =>
    cases fl with
    | ret u => exact I2.after hq
    | next => exact False.elim hq
    | brk => exact False.elim hq
    | cont => exact False.elim hq
/-- f(e, ..), f a def that asks that no repr is under way -/
theorem pe_callG (F : FnG X.prog X.w X.K X.mg X.base CX k f fd ps sp) (hG : NoGuard X.A) (hr : Room k X.A) (hg : Gl X x) (hm : X.mg x = some (.ref f)) (hk : keepIn X.K (.ref f) = true) (hb : Binds X.K fd ps []) (hx : Passes CX X E) (ha : PA X (e :: es) t)
    (hdb : (x == ("__debug__" : Str)) = false := by decide) (he : starEach (e :: es) X.env = (false, eval e X.env) :: starEach es X.env := by rfl) (hpl : (backTo pos (starEach es X.env)).any (·.1) = false := by rfl) :
    PE X (.Call (.Name x p) (e :: es) [] pos) (fun σ H Q => t σ H fun vs H1 => sp vs H1 Q E) := by
  refine ⟨fun pins s σ H Q I h => ?_⟩
  refine wpAny_Call_Name_kw (ld_glob I hg hm ?_ hdb)
  refine callWith_K (h₀ := X.base) I.ok.mod.kin hk (thn (ha.run pos pins s σ H _ I h) fun us s1 ⟨vs, H1, I1, r, q⟩ => ⟨I1.kIn, ?_⟩) he hpl
  have hl : (us ++ []).length = ps.length := by rw [List.append_nil, ← r.length]; exact F.len _ _ _ _ q
  have hb1 := hb s1 us I1.kIn hl
  rw [List.append_nil] at hb1
  refine wpAny_call (codeAny_mono (F.run X.A X.stack s1 H1 ⟨us, []⟩ us vs Q E hG hr I1.env0 hb1 r q) fun r s' hq => ?_)
  cases r with
  | error er => exact hx pins σ H1 s1 er s' I1 hq
  | ok fl =>
    cases fl with
    | ret u => exact I1.after hq
    | next => exact False.elim hq
    | brk => exact False.elim hq
    | cont => exact False.elim hq
/-- C(), C's __init__ told by its positional promise -/
theorem pe_makeR0 (M : Mk X.K C f) (F : FnR X.prog X.w X.K X.mg X.base CX k f sp) (hr : Room (k + 1) X.A) (hg : Gl X x) (hm : X.mg x = some (.ref C)) (hx : Passes CX X E) (hdb : (x == ("__debug__" : Str)) = false := by decide) :
    PE X (.Call (.Name x p) [] [] pos) (tMakeR C sp E tNil) := by
  refine ⟨fun pins s σ H Q I h => ?_⟩
  refine wpAny_Call_Name_kw (ld_glob I hg hm ?_ hdb)
  refine callWith_K0 I.kIn M.kp ?_
  exact run_makeR M F hr hx I .nil h
end
theorem Fun.kb {K : PySem.W.Frag} {x qual : Str} {st : Stmt} {f : Addr} {fd : FuncData} {ps ks : List Str} {gg : List Value → List Value} (F : Fun K x qual st f fd)
    (h : ∀ (kV doc pm : Value) (an : Option Addr) (cdv ct : Value) (ws : List Value), ws.length = ks.length → bindArgs (PySem.W.fnOf x qual (defArgs st) (defBody st) (defScope st) .none kV doc pm an cdv ct) ⟨[], ks.zip ws⟩ = pure (ps.zip (gg ws))) :
    ∀ (s : Shared) (ws : List Value), K.In s.heap → ws.length = ks.length → BindsTo s fd ⟨[], ks.zip ws⟩ (ps.zip (gg ws)) := by
  obtain ⟨oc, od, kV, doc, pm, an, cdv, ct, osl, rfl, lk, hcd⟩ := F.ex
  exact fun s ws _ hl => .of_eq (h kV doc pm an cdv ct ws hl)
end L2.TT

namespace L2.TT
open PySem PySem.Spec PyProof.Rows PySem.W
theorem sqT_same {K : Frag} {H H' : Hp} {a : Addr} {xs : List V} (h : SqT K H a xs) (e : Same H H') : SqT K H' a xs := by
  rcases h with (h | ⟨o, h⟩) | h
  · exact .inl (.inl (e _ _ h))
  · exact .inl (.inr ⟨o, e _ _ h⟩)
  · exact .inr h
section
variable {K : Frag} {H H' : Hp}
mutual
theorem dp_same (e : Same H H') : ∀ (d : PyData) (v : V), Dp K H v d → Dp K H' v d
  | .none, _, h => by cases h; exact .non
  | .bool b, _, h => by cases h; exact .bl b
  | .int i, _, h => by cases h; exact .int i
  | .str x, _, h => by cases h; exact .str x
  | .list ds, _, h => by
    cases h with
    | lst hs ha => exact .lst (e.seq hs) (dpAll_same e ds _ ha)
  | .tuple ds, _, h => by
    cases h with
    | tup hs ha => exact .tup (sqT_same hs e) (dpAll_same e ds _ ha)
  | .dict _, _, h => by cases h
theorem dpAll_same (e : Same H H') : ∀ (ds : List PyData) (vs : List V), DpAll K H vs ds → DpAll K H' vs ds
  | [], _, h => by cases h; exact .nil
  | d :: ds, _, h => by
    cases h with
    | cons h1 h2 => exact .cons (dp_same e d _ h1) (dpAll_same e ds _ h2)
end
theorem fd_same {v : V} {d : PyData} (e : Same H H') (f : FD H v d) : FD H' v d := by
  cases f with
  | flat f => exact .flat f
  | dic h k => exact .dic (e _ _ h) k
/-- a value that may be shown, by what it holds -/
structure ShowOk (K : Frag) (H : Hp) (v : V) (d : PyData) : Prop where
  is : (Dp K H v d ∧ d.canLay0 = true) ∨ FD H v d
  sh : d.showable = true
  lv : d.leavesShort 13 = true
  wt : d.weight ≤ 100
  dp : d.depth ≤ 10
theorem ShowOk.same {v : V} {d : PyData} (s : ShowOk K H v d) (e : Same H H') : ShowOk K H' v d :=
  ⟨s.is.elim (fun z => .inl ⟨dp_same e d v z.1, z.2⟩) fun z => .inr (fd_same e z), s.sh, s.lv, s.wt, s.dp⟩
theorem rep_dp {v : V} {d : PyData} (h : Dp K H v d) : ∀ n, DpAll K H (List.replicate n v) (List.replicate n d)
  | 0 => .nil
  | n + 1 => .cons h (rep_dp h n)
theorem rep_ds {v : V} {d : PyData} (h : FD H v d) : ∀ n, Paired (DS K H) (List.replicate n v) (List.replicate n d)
  | 0 => .nil
  | n + 1 => .cons (.fd h) (rep_ds h n)
theorem rep_lay {d : PyData} (h : d.canLay0 = true) : ∀ n, PyData.canLayAll0 (List.replicate n d) = true
  | 0 => by simp [PyData.canLayAll0]
  | n + 1 => by simp [List.replicate_succ, PyData.canLayAll0, h, rep_lay h n]
theorem rep_sh {d : PyData} (h : d.showable = true) : ∀ n, PyData.showableAll (List.replicate n d) = true
  | 0 => by simp [PyData.showableAll]
  | n + 1 => by simp [List.replicate_succ, PyData.showableAll, h, rep_sh h n]
theorem rep_lv {d : PyData} (h : d.leavesShort 13 = true) : ∀ n, PyData.leavesShortAll 13 (List.replicate n d) = true
  | 0 => by simp [PyData.leavesShortAll]
  | n + 1 => by simp [List.replicate_succ, PyData.leavesShortAll, h, rep_lv h n]
theorem rep_wt {d : PyData} (h : d.weight ≤ 100) : ∀ n, PyData.weightAll (List.replicate n d) ≤ 101 * n
  | 0 => by simp [PyData.weightAll]
  | n + 1 => by
    have := rep_wt h n
    simp only [List.replicate_succ, PyData.weightAll]
    omega
theorem rep_depth {d : PyData} (h : d.depth ≤ 10) : ∀ n, PyData.depthAll (List.replicate n d) ≤ 10
  | 0 => by simp [PyData.depthAll]
  | n + 1 => by
    have := rep_depth h n
    simp only [List.replicate_succ, PyData.depthAll]
    omega
/-- n times the same: what repr asks -/
theorem ShowOk.rep {v : V} {d : PyData} (s : ShowOk K H v d) {n : Nat} (hn : n ≤ 1000) : DL K H (List.replicate n v) (List.replicate n d) ∧ PyData.showableAll (List.replicate n d) = true ∧ PyData.leavesShortAll 13 (List.replicate n d) = true ∧ PyData.weightAll (List.replicate n d) ≤ 1000000 ∧ PyData.depthAll (List.replicate n d) ≤ 20 := by
  refine ⟨?_, rep_sh s.sh n, rep_lv s.lv n, ?_, ?_⟩
  · rcases s.is with ⟨z, c⟩ | z
    · exact .inl ⟨rep_dp z n, rep_lay c n⟩
    · exact .inr (rep_ds z n)
  · have := rep_wt s.wt n
    omega
  · have := rep_depth s.dp n
    omega
theorem flat_rep (v : V) (n : Nat) : (List.replicate n [v]).flatten = List.replicate n v := by
  induction n with
  | zero => rfl
  | succ n ih => rw [List.replicate_succ, List.flatten_cons, ih]; rfl
end
end L2.TT

namespace TR
open PySem PySem.Spec PyProof.Rows L2 L2.TT StX ClX
abbrev di (n : Nat) : PyData := .int (n : Int)
theorem dpAll_ints {K : PySem.W.Frag} {H : Hp} : ∀ (l : List Nat), DpAll K H (l.map iv) (l.map di)
  | [] => .nil
  | _ :: l => .cons (.int _) (dpAll_ints l)
theorem canLay_ints : ∀ (l : List Nat), PyData.canLayAll0 (l.map di) = true
  | [] => rfl
  | a :: l => by
    show (PyData.canLay0 (di a) && PyData.canLayAll0 (l.map di)) = true
    rw [canLay_ints l]
    rfl
theorem depth_ints : ∀ (l : List Nat), PyData.depthAll (l.map di) = 0
  | [] => rfl
  | a :: l => by
    show max (PyData.depth (di a)) (PyData.depthAll (l.map di)) = 0
    rw [depth_ints l]
    rfl
theorem shaped_ints (l : List Nat) : SeqAt.shaped (.list (l.map di)) = true := by
  unfold SeqAt.shaped
  rw [Bool.and_eq_true]
  refine ⟨canLay_ints l, decide_eq_true ?_⟩
  show PyData.depthAll (l.map di) + 1 ≤ 64
  rw [depth_ints]
  decide
theorem rg_iv (n : Nat) : rgV 0 (n : Int) = (List.range n).map iv := by
  unfold rgV
  have e : ((n : Int) - 0).toNat = n := by omega
  rw [e]
  refine List.map_congr_left fun i _ => ?_
  show V.int (0 + (i : Int)) = V.int (i : Int)
  rw [Int.zero_add]
theorem RailAt.fr {C dr : Addr} {H H' : Hp} {r : Addr} {tr : List E2} {kvs : List (Key × V)} (R : RailAt C H r tr) (k : Fr dr H H') (hd : H dr = some (.dK kvs)) : RailAt C H' r tr := by
  obtain ⟨T, few, dx, tt, na, A, L, ps, ts, h1, h2, h3, h4, h5, h6, h7, h8⟩ := R
  refine ⟨T, few, dx, tt, na, A, L, ps, ts, k _ _ h1 (ne_of h1 hd (by intro z; cases z)), k _ _ h2 (ne_of h2 hd (by intro z; cases z)), h3.fr k hd, k _ _ h4 (ne_of h4 hd (by intro z; cases z)), h5, fun v t h => k _ _ (h6 v t h) (ne_of (h6 v t h) hd (by intro z; cases z)), k _ _ h7 (ne_of h7 hd (by intro z; cases z)), k _ _ h8 (ne_of h8 hd (by intro z; cases z))⟩
theorem SW.unnorm {tr tr2 : List E2} (n : Norm tr tr2) {a b : Nat} {l : List Nat} (s : SW tr a b l) : SW tr2 a b l := by
  refine ⟨?_, s.nd, s.hd, s.lt⟩
  have : ∀ {l : List Nat}, Wk tr l → Wk tr2 l := by
    intro l
    induction l with
    | nil => exact fun _ => trivial
    | cons a r ih =>
      cases r with
      | nil => exact fun _ => trivial
      | cons b r => exact fun h => ⟨n.adj.mpr h.1, ih h.2⟩
  exact this s.wk
def swp {α : Type} : List α → List α
  | [a, b] => [b, a]
  | l => l
theorem swp_vals {zs : List V} {ws : List Value} (hl : zs.length = 2) (r : Vals zs ws) : Vals (swp zs) (swp ws) := by
  match zs, ws, hl, r with
  | [_, _], [_, _], _, .cons r1 (.cons r2 .nil) => exact .cons r2 (.cons r1 .nil)
theorem SW.rev {tr : List E2} {a b : Nat} {l : List Nat} (s : SW tr a b l) : SW tr b a l.reverse :=
  ⟨s.wk.rev, (List.reverse_perm l).nodup_iff.mpr s.nd, by rw [List.head?_reverse]; exact s.lt, by rw [List.getLast?_reverse]; exact s.hd⟩
theorem eqvAll_ints : ∀ (l : List Nat), PyData.eqvAll (l.map di) (l.map di) = true
  | [] => rfl
  | a :: l => by
    show (PyData.eqv (di a) (di a) && PyData.eqvAll (l.map di) (l.map di)) = true
    rw [eqvAll_ints l, Bool.and_true]
    show ((a : Int) == (a : Int)) = true
    simp
theorem shaped_tup (l : List Nat) : SeqAt.shaped (.tuple (l.map di)) = true := by
  unfold SeqAt.shaped
  rw [Bool.and_eq_true]
  refine ⟨canLay_ints l, decide_eq_true ?_⟩
  show PyData.depthAll (l.map di) + 1 ≤ 64
  rw [depth_ints]
  decide
theorem sw_le {tr : List E2} (T : TreeL tr) {a b : Nat} {l : List Nat} (s : SW tr a b l) (ha : a ≤ tr.length) : ∀ z ∈ l, z ≤ tr.length := by
  have key : ∀ {l : List Nat} {a : Nat}, Wk tr (a :: l) → a ≤ tr.length → ∀ z ∈ a :: l, z ≤ tr.length := by
    intro l
    induction l with
    | nil =>
      intro a _ h z hz
      rw [List.mem_singleton] at hz
      omega
    | cons c r ih =>
      intro a w h z hz
      rcases List.mem_cons.mp hz with rfl | hz
      · exact h
      · refine ih w.2 ?_ z hz
        rcases adj_par T w.1 with ⟨h1, h2, h3⟩ | ⟨h1, h2, h3⟩
        · have := T.par_lt h1
          omega
        · exact h3
  cases l with
  | nil => cases s.hd
  | cons c r =>
    have e : c = a := Option.some.inj s.hd
    subst e
    exact key s.wk ha
theorem int_show {i : Int} (h1 : -1000 ≤ i) (h2 : i ≤ 1000) : (PyData.int i).showable = true ∧ (PyData.int i).leavesShort 13 = true ∧ (PyData.int i).weight ≤ 10 ∧ (PyData.int i).depth = 0 := by
  have hn : i.natAbs ≤ 1000 := by omega
  have hl : i.natAbs.log2 < 10 := by
    by_cases h0 : i.natAbs = 0
    · rw [h0]; decide
    · exact (Nat.log2_lt h0).mpr (by omega)
  refine ⟨?_, ?_, ?_, ?_⟩
  · simp only [PyData.showable, decide_eq_true_eq]
    omega
  · simp only [PyData.leavesShort, decide_eq_true_eq]
    exact PyData.shown_int_le (by omega)
  · simp only [PyData.weight]
    split <;> omega
  · simp only [PyData.depth]
structure Shw (l : List Nat) : Prop where
  sh : PyData.showableAll (l.map di) = true
  lv : PyData.leavesShortAll 13 (l.map di) = true
  wt : PyData.weightAll (l.map di) ≤ 11 * l.length
  dp : PyData.depthAll (l.map di) = 0
theorem shw_of : ∀ {l : List Nat}, (∀ z ∈ l, z ≤ 999) → Shw l
  | [], _ => ⟨rfl, rfl, Nat.le_refl _, rfl⟩
  | a :: l, h => by
    have ih := shw_of (l := l) fun z hz => h z (List.mem_cons_of_mem _ hz)
    have ha := h a (by simp)
    obtain ⟨i1, i2, i3, i4⟩ := int_show (i := (a : Int)) (by omega) (by omega)
    refine ⟨?_, ?_, ?_, ?_⟩
    · show (PyData.showable (di a) && PyData.showableAll (l.map di)) = true
      rw [ih.sh, i1]
      rfl
    · show (PyData.leavesShort 13 (di a) && PyData.leavesShortAll 13 (l.map di)) = true
      rw [ih.lv, i2]
      rfl
    · show PyData.weight (di a) + 1 + PyData.weightAll (l.map di) ≤ 11 * (l.length + 1)
      have := ih.wt
      have i3' : PyData.weight (di a) ≤ 10 := i3
      omega
    · show max (PyData.depth (di a)) (PyData.depthAll (l.map di)) = 0
      rw [ih.dp, i4]
      rfl
theorem pickAll {P : V → Prop} {xs : List V} {r : Int} (h0 : 0 ≤ r) (h1 : r < xs.length) (h : ∀ x ∈ xs, P x) : ∃ v, atI xs r = some v ∧ P v := by
  obtain ⟨n, rfl⟩ := Int.eq_ofNat_of_zero_le h0
  have hl : n < xs.length := by omega
  exact ⟨xs[n], atI_nat (List.getElem?_eq_getElem hl), h _ (List.getElem_mem hl)⟩
section
variable {tr : List E2}
theorem sw_climb (T : TreeL tr) {a b : Nat} : ∀ (n x y : Nat) (F B : List Nat), dep tr x + dep tr y = n → Clb tr a b x y F B → ∃ l, SW tr a b l ∧ l.length ≤ F.length + B.length + n + 1 := by
  intro n
  induction n using Nat.strongRecOn with
  | ind n ih =>
    intro x y F B e c
    by_cases h : x = y
    · subst h
      refine ⟨_, c.done, ?_⟩
      simp
      omega
    · by_cases h2 : dep tr y < dep tr x
      · obtain ⟨h3, h4, c2⟩ := c.up1 T h h2
        have d := dep_succ T h3
        obtain ⟨l, s, hl⟩ := ih (dep tr (par tr x) + dep tr y) (by omega) _ _ _ _ rfl c2
        refine ⟨l, s, ?_⟩
        rw [List.length_append] at hl
        have : [x].length = 1 := rfl
        omega
      · obtain ⟨h3, h4, c2⟩ := c.up2 T h h2
        have d := dep_succ T h3
        obtain ⟨l, s, hl⟩ := ih (dep tr x + dep tr (par tr y)) (by omega) _ _ _ _ rfl c2
        refine ⟨l, s, ?_⟩
        rw [List.length_append] at hl
        have : [y].length = 1 := rfl
        omega
theorem sw_ex (T : TreeL tr) {a b : Nat} (ha : a ≤ tr.length) (hb : b ≤ tr.length) : ∃ l, SW tr a b l ∧ l.length ≤ dep tr a + dep tr b + 1 := by
  obtain ⟨l, s, h⟩ := sw_climb T _ a b [] [] rfl (Clb.start ha hb)
  refine ⟨l, s, ?_⟩
  simp at h
  omega
theorem wk_pre : ∀ {l r : List Nat}, Wk tr (l ++ r) → Wk tr l
  | [], _, _ => trivial
  | [_], _, _ => trivial
  | a :: b :: l, r, h => ⟨h.1, wk_pre (l := b :: l) (r := r) h.2⟩
theorem wk_adj : ∀ {l : List Nat} {x g : Nat}, Wk tr (l ++ [x] ++ [g]) → Adj tr x g
  | [], _, _, h => h.1
  | [a], x, g, h => wk_adj (l := []) h.2
  | a :: b :: l, x, g, h => wk_adj (l := b :: l) h.2
theorem SW.cut {s g : Nat} {l : List Nat} (w : SW tr s g (l ++ [g])) (h : l ≠ []) : ∃ x, SW tr s x l ∧ Adj tr x g ∧ g ∉ l := by
  obtain ⟨p, x, rfl⟩ : ∃ p x, l = p ++ [x] := ⟨l.dropLast, l.getLast h, (List.dropLast_concat_getLast h).symm⟩
  refine ⟨x, ⟨wk_pre w.wk, ?_, ?_, by simp⟩, wk_adj w.wk, fun m => ?_⟩
  · have := w.nd
    exact (List.nodup_append.mp this).1
  · have := w.hd
    rw [List.head?_append] at this
    cases e : (p ++ [x]).head? with
    | none => simp at e
    | some z =>
      rw [e] at this
      exact this
  · exact (List.nodup_append.mp w.nd).2.2 g m g (by simp) rfl
noncomputable def pl (tr : List E2) (s g : Nat) : List Nat := open Classical in if h : ∃ l, SW tr s g l then h.choose else []
theorem pl_eq (T : TreeL tr) {s g : Nat} {l : List Nat} (w : SW tr s g l) : pl tr s g = l := by
  unfold pl
  rw [dif_pos ⟨l, w⟩]
  exact SW.uniq T (Exists.choose_spec (⟨l, w⟩ : ∃ l, SW tr s g l)) w
theorem SW.pre {a b v : Nat} {p r : List Nat} (s : SW tr a b (p ++ v :: r)) : SW tr a v (p ++ [v]) := by
  have e : p ++ v :: r = (p ++ [v]) ++ r := by simp
  refine ⟨?_, ?_, ?_, by simp⟩
  · have h := s.wk
    rw [e] at h
    exact wk_pre h
  · have h := s.nd
    rw [e] at h
    exact (List.nodup_append.mp h).1
  · have h := s.hd
    cases p with
    | nil => exact h
    | cons c p => exact h
/-- the distance of a station -/
noncomputable def dst (tr : List E2) (s v : Nat) : Nat := (pl tr s v).length - 1
theorem dst_eq (T : TreeL tr) {s v : Nat} {l : List Nat} (w : SW tr s v l) : dst tr s v + 1 = l.length := by
  unfold dst
  rw [pl_eq T w]
  have : l ≠ [] := by
    rintro rfl
    cases w.hd
  have := List.length_pos_iff.mpr this
  omega
theorem dst_self (T : TreeL tr) (s : Nat) : dst tr s s = 0 := by
  have := dst_eq T (SW.one (tr := tr) s)
  simp at this
  exact this
theorem dst_zero (T : TreeL tr) {s v : Nat} (hs : s ≤ tr.length) (hv : v ≤ tr.length) (h : dst tr s v = 0) : v = s := by
  obtain ⟨l, w, _⟩ := sw_ex T hs hv
  have e := dst_eq T w
  rw [h] at e
  obtain ⟨x, rfl⟩ := List.length_eq_one_iff.mp e.symm
  have e1 : x = s := Option.some.inj w.hd
  have e2 : x = v := Option.some.inj w.lt
  exact e2.symm.trans e1
theorem dst_le (T : TreeL tr) {s v : Nat} (hs : s ≤ tr.length) (hv : v ≤ tr.length) : dst tr s v ≤ tr.length := by
  obtain ⟨l, w, _⟩ := sw_ex T hs hv
  have e := dst_eq T w
  have := nd_len w.nd (sw_le T w hs)
  omega
theorem dst_adj (T : TreeL tr) {s u v : Nat} (hs : s ≤ tr.length) (hu : u ≤ tr.length) (h : Adj tr u v) : dst tr s v = dst tr s u + 1 ∨ dst tr s u = dst tr s v + 1 := by
  obtain ⟨l, w, _⟩ := sw_ex T hs hu
  have e := dst_eq T w
  by_cases c : v ∈ l
  · obtain ⟨p, r, rfl⟩ := List.append_of_mem c
    have wv := w.pre
    have hr : r ≠ [] := by
      rintro rfl
      have h2 := w.lt
      rw [List.getLast?_append] at h2
      have : v = u := by simpa using h2
      subst this
      rcases h with h | h
      · exact T.ne _ h rfl
      · exact T.ne _ h rfl
    have hu2 : u ∉ p ++ [v] := by
      intro hm
      have h3 : p ++ v :: r = (p ++ [v]) ++ r := by simp
      have nd := w.nd
      rw [h3] at nd
      have hl : r.getLast? = some u := by
        have := w.lt
        rw [h3, List.getLast?_append] at this
        cases e : r.getLast? with
        | none => exact absurd (List.getLast?_eq_none_iff.mp e) hr
        | some z => rw [e] at this; exact this
      exact (List.nodup_append.mp nd).2.2 u hm u (List.mem_of_getLast? hl) rfl
    have w2 := wv.snoc h.sym hu2
    have e2 := dst_eq T w2
    have e3 := dst_eq T wv
    rw [List.length_append] at e2
    right
    have : [u].length = 1 := rfl
    omega
  · have w2 := w.snoc h c
    have e2 := dst_eq T w2
    rw [List.length_append] at e2
    left
    have : [v].length = 1 := rfl
    omega
theorem dst_prev (T : TreeL tr) {s v : Nat} (hs : s ≤ tr.length) (hv : v ≤ tr.length) (ne : v ≠ s) : ∃ u, u ≤ tr.length ∧ Adj tr u v ∧ dst tr s u + 1 = dst tr s v := by
  obtain ⟨l, w, _⟩ := sw_ex T hs hv
  obtain ⟨l', rfl⟩ : ∃ l', l = l' ++ [v] := List.getLast?_eq_some_iff.mp w.lt
  have hl : l' ≠ [] := by
    rintro rfl
    exact ne (Option.some.inj w.hd)
  obtain ⟨x, w', adj, ng⟩ := w.cut hl
  have e1 := dst_eq T w
  have e2 := dst_eq T w'
  rw [List.length_append] at e1
  refine ⟨x, sw_le T w' hs x w'.mem, adj, ?_⟩
  have : [v].length = 1 := rfl
  omega
/-- the law's own list under way: round k, i tracks seen -/
structure Far (tr : List E2) (s k i : Nat) (g : Nat → Option Nat) : Prop where
  low : ∀ v, v ≤ tr.length → dst tr s v ≤ k → g v = some (dst tr s v)
  val : ∀ v x, v ≤ tr.length → g v = some x → x = dst tr s v ∧ x ≤ k + 1
  up : ∀ (j : Nat) (e : E2), j < i → tr[j]? = some e → (dst tr s e.1 = k → dst tr s e.2 = k + 1 → g e.2 = some (k + 1)) ∧ (dst tr s e.2 = k → dst tr s e.1 = k + 1 → g e.1 = some (k + 1))
theorem Far.start (T : TreeL tr) {s : Nat} (hs : s ≤ tr.length) : Far tr s 0 0 (fun v => if v = s then some 0 else none) := by
  refine ⟨fun v hv h => ?_, fun v x hv h => ?_, fun j e h => absurd h (Nat.not_lt_zero _)⟩
  · have := dst_zero T hs hv (by omega)
    subst this
    rw [if_pos rfl, dst_self T]
  · by_cases c : v = s
    · subst c
      rw [if_pos rfl] at h
      cases h
      exact ⟨(dst_self T _).symm, by omega⟩
    · rw [if_neg c] at h
      cases h
theorem Far.round (T : TreeL tr) {s k : Nat} {g : Nat → Option Nat} (hs : s ≤ tr.length) (f : Far tr s k tr.length g) : Far tr s (k + 1) 0 g := by
  refine ⟨fun v hv h => ?_, fun v x hv h => ?_, fun j e h => absurd h (Nat.not_lt_zero _)⟩
  · by_cases c : dst tr s v ≤ k
    · exact f.low v hv c
    · have hd : dst tr s v = k + 1 := by omega
      obtain ⟨u, hu, adj, e⟩ := dst_prev T hs hv (fun z => by rw [z, dst_self T] at hd; omega)
      have hdu : dst tr s u = k := by omega
      rcases adj with h | h
      · obtain ⟨j, hj, ej⟩ := List.mem_iff_getElem.mp h
        have := (f.up j _ hj (List.getElem?_eq_some_iff.mpr ⟨hj, ej⟩)).1 hdu hd
        rw [hd]
        exact this
      · obtain ⟨j, hj, ej⟩ := List.mem_iff_getElem.mp h
        have := (f.up j _ hj (List.getElem?_eq_some_iff.mpr ⟨hj, ej⟩)).2 hdu hd
        rw [hd]
        exact this
  · obtain ⟨h1, h2⟩ := f.val v x hv h
    exact ⟨h1, by omega⟩
/-- a track that sets the one end v from the other end u -/
theorem Far.set (T : TreeL tr) {s k i u v : Nat} {g : Nat → Option Nat} (hs : s ≤ tr.length) (f : Far tr s k i g) {e : E2} (he : tr[i]? = some e) (hu : u ≤ tr.length) (hv : v ≤ tr.length) (h : (e.1 = u ∧ e.2 = v) ∨ (e.1 = v ∧ e.2 = u)) (h1 : g u = some k) (h2 : g v = none) :
    Far tr s k (i + 1) (fun w => if w = v then some (k + 1) else g w) := by
  have hm := List.mem_of_getElem? he
  have du : dst tr s u = k := ((f.val u k hu h1).1).symm
  have adj : Adj tr u v := by
    rcases h with ⟨a, b⟩ | ⟨a, b⟩
    · exact .inl (by rw [← a, ← b]; exact hm)
    · exact .inr (by rw [← a, ← b]; exact hm)
  have dv : dst tr s v = k + 1 := by
    rcases dst_adj T hs hu adj with q | q
    · omega
    · have := f.low v hv (by omega)
      rw [h2] at this
      cases this
  refine ⟨fun w hw hd => ?_, fun w x hw hx => ?_, fun j e' hj he' => ?_⟩
  · by_cases c : w = v
    · subst c
      omega
    · show (if w = v then some (k + 1) else g w) = _
      rw [if_neg c]
      exact f.low w hw hd
  · have hx : (if w = v then some (k + 1) else g w) = some x := hx
    by_cases c : w = v
    · subst c
      rw [if_pos rfl] at hx
      cases hx
      exact ⟨dv.symm, Nat.le_refl _⟩
    · rw [if_neg c] at hx
      exact f.val w x hw hx
  · by_cases c : j = i
    · subst c
      rw [he] at he'
      cases he'
      rcases h with ⟨a, b⟩ | ⟨a, b⟩
      · refine ⟨fun _ _ => by show (if e.2 = v then some (k + 1) else g e.2) = _; rw [if_pos b], fun q1 q2 => ?_⟩
        rw [b, dv] at q1
        omega
      · refine ⟨fun q1 q2 => ?_, fun _ _ => by show (if e.1 = v then some (k + 1) else g e.1) = _; rw [if_pos a]⟩
        rw [a, dv] at q1
        omega
    · obtain ⟨q1, q2⟩ := f.up j e' (by omega) he'
      refine ⟨fun z1 z2 => ?_, fun z1 z2 => ?_⟩
      · show (if e'.2 = v then some (k + 1) else g e'.2) = _
        split
        · rfl
        · exact q1 z1 z2
      · show (if e'.1 = v then some (k + 1) else g e'.1) = _
        split
        · rfl
        · exact q2 z1 z2
/-- a track that sets nothing -/
theorem Far.keep (T : TreeL tr) {s k i : Nat} {g : Nat → Option Nat} (hs : s ≤ tr.length) (f : Far tr s k i g) {e : E2} (he : tr[i]? = some e) (h1 : ¬ (g e.1 = some k ∧ g e.2 = none)) (h2 : ¬ (g e.2 = some k ∧ g e.1 = none)) : Far tr s k (i + 1) g := by
  have hm := List.mem_of_getElem? he
  obtain ⟨b1, b2⟩ := T.lt1 hm
  refine ⟨f.low, f.val, fun j e' hj he' => ?_⟩
  by_cases c : j = i
  · subst c
    rw [he] at he'
    cases he'
    refine ⟨fun q1 q2 => ?_, fun q1 q2 => ?_⟩
    · have := f.low e.1 (by omega) (by omega)
      rw [q1] at this
      cases hg : g e.2 with
      | none => exact absurd ⟨this, hg⟩ h1
      | some x =>
        have := (f.val e.2 x (by omega) hg).1
        rw [this, q2]
    · have := f.low e.2 (by omega) (by omega)
      rw [q1] at this
      cases hg : g e.1 with
      | none => exact absurd ⟨this, hg⟩ h2
      | some x =>
        have := (f.val e.1 x (by omega) hg).1
        rw [this, q2]
  · exact f.up j e' (by omega) he'
theorem Far.done (T : TreeL tr) {s : Nat} {g : Nat → Option Nat} (hs : s ≤ tr.length) (f : Far tr s tr.length 0 g) {v : Nat} (hv : v ≤ tr.length) : g v = some (dst tr s v) := f.low v hv (dst_le T hs hv)
end
end TR

namespace L2.TT
open PySem PySem.Spec PyProof.Rows PySem.W
/-- repr(t), t a tuple -/
def rReprT (K : Frag) : List V → Hp → VK → Prop := fun xs H Q => ∃ (a : Addr) (vs : List V) (ds : List PyData), xs = [.ref a] ∧ SqT K H a vs ∧ DL K H vs ds ∧ PyData.showableAll ds = true ∧ PyData.leavesShortAll 13 ds = true ∧ PyData.weightAll ds ≤ 1000000 ∧ PyData.depthAll ds ≤ 20 ∧
  Q (.str (PyData.shown (.tuple ds))) H
theorem call_reprT {X : Cx} (hg : X.A.guards = some []) (hu : X.A.units + 64 < cLine) : CallR X (.builtin "repr") (rReprT X.K) := by
  intro pins s σ H xs us Q I r h
  obtain ⟨a, vs, ds, rfl, hl, hd, hs, hb, hw, hp, q⟩ := h
  obtain rfl := Vals.ref1 r
  obtain ⟨its, rv, ⟨o, ho, hc, n, hda⟩, hz⟩ := I.tuple hl
  obtain ⟨as, h4, hsm⟩ := hd.reads I rv
  have fit : (PyData.shown (.tuple ds)).length ≤ sizeLine := PyData.shown_fits (B := 13) (by decide) (by decide) (by simpa only [PyData.leavesShort] using hb) (by
    simp only [PyData.weight]
    omega)
  have hz' : (tupleText (PyData.shownAll ds)).length ≤ sizeLine := by simpa only [PyData.shown] using fit
  obtain ⟨bs, hbs, hk⟩ := ReprAllK.of_readsAll (prog := X.prog) (w := X.w) h4 hs hsm (fun t ht => Nat.le_trans (tupleText_mem_le ht) hz')
  have hna : a ∉ bs := not_mem_of_deeper (.tuple ho hc hda h4) (by simp only [PyData.depth]; omega) hbs
  simp only [PyData.shown] at q
  refine call_repr_slot (by omega) ⟨o, ho, hc⟩ F.slot_tuple_repr ?_
  refine call_tuple_reprK ho hc hda hna (by simpa using hk) hg (fun b _ => Clear.nil b) (by show X.A.units + 1 + _ < cLine; omega) (fun _ _ e => e) (fun h' u tk k => ?_) hz'
  exact ⟨_, _, rfl, .str (tupleText (PyData.shownAll ds)), H, I.kept k, ⟨u, rfl⟩, q⟩
/-- repr(xs), xs a short list with longer leaves -/
def rRepr60 (K : Frag) : List V → Hp → VK → Prop := fun xs H Q => ∃ (a : Addr) (vs : List V) (ds : List PyData), xs = [.ref a] ∧ SqL K H a vs ∧ DL K H vs ds ∧ PyData.showableAll ds = true ∧ PyData.leavesShortAll 60 ds = true ∧ PyData.weightAll ds ≤ 1000 ∧ PyData.depthAll ds ≤ 20 ∧
  Q (.str (PyData.shown (.list ds))) H
theorem call_repr60 {X : Cx} (hg : X.A.guards = some []) (hu : X.A.units + 64 < cLine) : CallR X (.builtin "repr") (rRepr60 X.K) := by
  intro pins s σ H xs us Q I r h
  obtain ⟨a, vs, ds, rfl, hl, hd, hs, hb, hw, hp, q⟩ := h
  obtain rfl := Vals.ref1 r
  obtain ⟨its, rv, ⟨o, n, ho, hc, hdn, hda⟩, hz⟩ := I.list hl
  obtain ⟨as, h4, hsm⟩ := hd.reads I rv
  have fit : (PyData.shown (.list ds)).length ≤ sizeLine := by
    have h := PyData.shown_le 60 (by decide) (.list ds) (by simpa only [PyData.leavesShort] using hb)
    have hw2 : (PyData.list ds).weight ≤ 1010 := by
      simp only [PyData.weight]
      omega
    rw [sizeLine_eq]
    omega
  have hz' : (listText (PyData.shownAll ds)).length ≤ sizeLine := by simpa only [PyData.shown] using fit
  obtain ⟨bs, hbs, hk⟩ := ReprAllK.of_readsAll (prog := X.prog) (w := X.w) h4 hs hsm (fun t ht => Nat.le_trans (listText_mem_le ht) hz')
  have hna : a ∉ bs := not_mem_of_deeper (.list ho hc hda h4) (by simp only [PyData.depth]; omega) hbs
  simp only [PyData.shown] at q
  refine call_repr_slot (by omega) ⟨o, ho, hc⟩ F.slot_list_repr.toG ?_
  cases its with
  | nil =>
    cases h4
    simp only [PyData.shownAll, listText_nil] at q
    refine call_list_repr_empty (s := s) ⟨o, ho, hc⟩ ho hda ?_
    exact ⟨_, _, rfl, .str "[]", H, I.tok _, ⟨_, rfl⟩, q⟩
  | cons x l =>
    refine call_list_reprK ho hc hda hna (by simpa using hk.length_eq) (fun i y e => hk.item i y (by simpa using e)) hg (fun b _ => Clear.nil b) (by show X.A.units + 1 + _ < cLine; omega) (fun _ _ e => e) (fun h' u tk k => ?_) hz'
    exact ⟨_, _, rfl, .str (listText (PyData.shownAll ds)), H, I.kept k, ⟨u, rfl⟩, q⟩
/-- len(set(t)), t a tuple of different ints -/
def tLenSetT (K : Frag) (ta : TE) : TE := fun σ H Q => ta σ H fun x H1 => ∃ (l : Addr) (ns : List Int), x = .ref l ∧ SqT K H1 l (ns.map V.int) ∧ ns.Nodup ∧ ns.length ≤ 4000 ∧ Q (.int (ns.length : Nat)) H1
theorem pe_lenSetT {X : Cx} {a : Expr} {ta : TE} {p p2 q pos : Pos} (hg : Gl X "len") (hm : X.mg "len" = none) (hg2 : Gl X "set") (hm2 : X.mg "set" = none) (ha : PE X a ta) (hc : X.calm = true := by rfl)
    (na : starEach [a] X.env = (false, eval a X.env) :: starEach [] X.env := by rfl) : PE X (.Call (.Name "len" p) [.Call (.Name "set" p2) [a] [] q] [] pos) (tLenSetT X.K ta) := by
  refine ⟨fun pins s σ H Q I h => ?_⟩
  refine Call_ (ld_blt I hg hm boot_len ?_)
  refine PyProof.Rows.callWith_builtin1 (PyProof.Rows.args_cons ?_ rfl) rfl rfl
  refine Call_ (ld_blt I hg2 hm2 boot_set ?_)
  refine PyProof.Rows.callWith_type1 (PyProof.Rows.args_cons (thn (ha.run pins s σ H _ I h) fun v s1 ⟨x, H1, I1, r1, q1⟩ => PyProof.Rows.args_nil ?_) na) na rfl
  obtain ⟨l, ns, rfl, hq, hnd, hl, q1⟩ := q1
  cases r1
  obtain ⟨its, r, pt, hz⟩ := I1.tuple hq
  refine call_set_tupI ns (I1.ok.hd hc) (show s1.heap.IsTuple l its.toArray from pt) (by simpa using RZ.intsAre_vals r) (by unfold scanBound; omega) fun h' tk c R1 hcn hk => ?_
  refine PyProof.Rows.args_nil ?_
  obtain ⟨o, es, ep, t, ho, hex, hd, g, nd, hm3, hb, hf, hn, hr, hl2⟩ := R1
  have I2 : Inv X pins σ H1 { s1 with heap := h', toks := tk } := I1.kept fun b o e => hk b o e
  have he : es.size = ns.length := by
    have hp : (es.toList.map keyOf).Perm ns := (List.perm_ext_iff_of_nodup nd hnd).mpr fun j => by rw [← hm3 j, decide_eq_true_eq]
    have := hp.length_eq
    rw [List.length_map, Array.length_toList] at this
    exact this
  exact call_len_set ho hex hd hf (by rw [he] <;> omega) ⟨.int ns.length, H1, I2.tok _, ⟨_, by rw [he]⟩, q1⟩
section
variable {X : Cx} {CX : CXT} {k : Nat} {f C : Addr} {fd : FuncData} {ps ks : List Str} {sp : Sp} {E : XK} {m : Str} {apos pos : Pos} {o : Expr} {kws : List Keyword} {ta : TE} {tk : TA}
/-- o.m(k = v, ..), all by name -/
def tMethKW (C : Addr) (m : Str) (mm : Nat) (sp : Sp) (gV : List V → List V) (E : XK) (ta : TE) (tk : TA) : TE := fun σ H Q => ta σ H fun x H1 => ∃ a dx fs, x = .ref a ∧ H1 a = some (.ins C dx fs) ∧ fs.lookup m = none ∧ tk σ H1 fun zs H2 => zs.length = mm ∧ sp (x :: gV zs) H2 Q E
theorem pe_methKW0 {pl : Sem Bool} {gg : List Value → List Value} {hV : List V → List V} (he : PE X o ta) (c : Cls X.K C) (hm : Meth X.K C m f) (F : FnOk X.prog X.w X.K X.mg X.base CX k f fd ps sp) (hr : Room k X.A)
    (hb : ∀ (s : Shared) (a : Value) (ws : List Value), X.K.In s.heap → ws.length = ks.length → BindsTo s fd ⟨[a], ks.zip ws⟩ (ps.zip (a :: gg ws))) (hrel : ∀ {zs : List V} {ws : List Value}, zs.length = ks.length → Vals zs ws → Vals (hV zs) (gg ws))
    (hx : Passes CX X E) (hkw : PK X kws tk)
    (hall : (backToKw pos (keywordEach kws X.env)).all (·.1.isSome) = true := by rfl) (hks : (backToKw pos (keywordEach kws X.env)).filterMap (·.1) = ks := by rfl)
    (hpl : ((backTo pos (starEach [] X.env)).any (·.1) || (backToKw pos (keywordEach kws X.env)).any (·.1.isNone)) = false := by rfl)
    (ht : eval (.Call (.Attribute o m apos) [] kws pos) X.env = (do
      let ov ← eval o X.env
      standAt apos.atName
      let (f, first) ← holding [ov] (getMethod ov m pl)
      callWith pos f first (backTo pos (starEach [] X.env)) (backToKw pos (keywordEach kws X.env))) := by rfl) :
    PE X (.Call (.Attribute o m apos) [] kws pos) (tMethKW C m ks.length sp hV E ta tk) := by
  refine ⟨fun pins s σ H Q I h => ?_⟩
  refine PySem.W.methodCall_KW (pl := pl) (thn (he.run pins s σ H _ I h) fun u s1 ⟨x, H1, I1, rx, a, dx, fs, ex, ea, l, q⟩ => ?_) ht
  subst ex
  obtain rfl : u = Value.ref a := rx
  refine getmeth_ok I1 ea c hm l ?_
  refine PySem.W.callWith_KW0 (first := [.ref a]) (h₀ := X.base) I.ok.mod.kin hm.kp hall ?_ hpl
  refine thn (hkw.run pos pins s1 σ H1 _ I1 q) fun ws s2 ⟨zs, H2, I2, rz, l2, q2⟩ => ⟨I2.kIn, ?_⟩
  rw [hks]
  have lw : ws.length = ks.length := rz.length.symm.trans l2
  refine wpAny_call (codeAny_mono (F.run X.A X.stack s2 H2 ⟨[.ref a], ks.zip ws⟩ (.ref a :: gg ws) (.ref a :: hV zs) Q E hr I2.env0 (hb s2 _ ws I2.kIn lw) (.cons rfl (hrel l2 rz)) q2) fun r s' hq => ?_)
  cases r with
  | error er => exact hx pins σ H2 s2 er s' I2 hq
  | ok fl =>
    cases fl with
    | ret u => exact I2.after hq
    | next => exact False.elim hq
    | brk => exact False.elim hq
    | cont => exact False.elim hq
end
theorem Fun.kbM {K : PySem.W.Frag} {x qual : Str} {st : Stmt} {f : Addr} {fd : FuncData} {ps ks : List Str} {gg : List Value → List Value} (F : Fun K x qual st f fd)
    (h : ∀ (kV doc pm : Value) (an : Option Addr) (cdv ct : Value) (a : Value) (ws : List Value), ws.length = ks.length → bindArgs (PySem.W.fnOf x qual (defArgs st) (defBody st) (defScope st) .none kV doc pm an cdv ct) ⟨[a], ks.zip ws⟩ = pure (ps.zip (a :: gg ws))) :
    ∀ (s : Shared) (a : Value) (ws : List Value), K.In s.heap → ws.length = ks.length → BindsTo s fd ⟨[a], ks.zip ws⟩ (ps.zip (a :: gg ws)) := by
  obtain ⟨oc, od, kV, doc, pm, an, cdv, ct, osl, rfl, lk, hcd⟩ := F.ex
  exact fun s a ws _ hl => .of_eq (h kV doc pm an cdv ct a ws hl)
end L2.TT

namespace TR
open PySem PySem.Spec PyProof.Rows L2 L2.TT StX ClX
def BadS (K : PySem.W.Frag) (H : Hp) (n : Nat) (v : V) : Prop := IV K H v ∧ inR v 0 n = false
/-- no length -/
def BadL (K : PySem.W.Frag) (H : Hp) (v : V) : Prop := (NI K H v) ∨ ∃ i : Int, v = .int i ∧ i < 1
def spChkLen : Sp := fun vs H Q _ => ∃ m : Nat, vs = [iv m] ∧ 1 ≤ m ∧ Q .non H
def spChkLX (CL : Addr) (K : PySem.W.Frag) : Sp := fun vs H _ E => ∃ v : V, vs = [v] ∧ BadL K H v ∧ ∀ d, H d = none → E (.ref CL) (some d) (upd H d (.xd [("value", v)]))
def spLBX (C CI CP : Addr) (K : PySem.W.Frag) : Sp := fun vs H _ E => ∃ (r : Addr) (tr : List E2) (u v : V), vs = [.ref r, u, v] ∧ RailAt C H r tr ∧
  ((BadS K H tr.length u ∧ ∀ d, H d = none → E (.ref CI) (some d) (upd H d (.xd [("value", u)]))) ∨
    (∃ a : Nat, u = iv a ∧ a ≤ tr.length ∧ BadS K H tr.length v ∧ ∀ d, H d = none → E (.ref CI) (some d) (upd H d (.xd [("value", v)]))) ∨
    (∃ a : Nat, u = iv a ∧ v = iv a ∧ a ≤ tr.length ∧ ∀ t H' d, Same H H' → H t = none → H' t = some (.tup [iv a, iv a]) → H' d = none → E (.ref CP) (some d) (upd H' d (.xd [("value", .ref t)]))))
def spLB (C : Addr) : Sp := fun vs H Q _ => ∃ (r : Addr) (tr : List E2) (a b : Nat), vs = [.ref r, iv a, iv b] ∧ RailAt C H r tr ∧ a ≤ tr.length ∧ b ≤ tr.length ∧ a ≠ b ∧
  ∀ (fl : Addr) (fs : List Addr) (H' : Hp), Same H H' → H' fl = some (.lst (fs.map V.ref)) → 1 ≤ fs.length → fs.length ≤ 2 * tr.length + 3 → Q (.ref fl) H'
def spDB (C : Addr) : Sp := fun vs H Q _ => ∃ (r : Addr) (tr : List E2) (a b : Nat), vs = [.ref r, iv a, iv b] ∧ RailAt C H r tr ∧ a ≤ tr.length ∧ b ≤ tr.length ∧ a ≠ b ∧ ∀ (m : Nat) (H' : Hp), Same H H' → m ≤ 2 * tr.length + 2 → Q (iv m) H'
section
variable {P : Program} {w : World} {K : PySem.W.Frag} {mg : Str → Option Value} {base : Heap}
theorem sc_chklen : FnScope ["length"] ["length"] (defScope s_check_length) := ⟨rfl, rfl, rfl, by decide +kernel, rfl, by decide +kernel, by decide +kernel⟩
theorem ok_chklen {f fI : Addr} {fd fdI : FuncData} (F : Fun K "check_length" "check_length" s_check_length f fd) (U : Use P w K mg base CX0 1 "is_integer" fI fdI ["value"] (spIsInt K)) : FnOk P w K mg base CX0 2 f fd ["length"] spChkLen := by
  refine F.ok sc_chklen (fun vs H Q E h => ?_) (fun cdv A outer s H vs Q E hr h => ?_)
  · obtain ⟨m, rfl, _⟩ := h
    rfl
  · obtain ⟨m, rfl, hm, k⟩ := h
    refine ⟨_, pss_one (ps_if (PW.pt (pw_or (pt_not (pt_val (pe_use U hr rfl (pa_cons (pv 0) pa_nil)))) (pw_or1 (pt_cmpR op_lt (pv 0) pe_int (nomark _))))) pss_never pss_nil), ?_⟩
    refine ⟨_, rfl, _, rfl, .inl ⟨_, rfl⟩, _, rfl, ?_⟩
    refine iteF ?_
    refine ⟨_, rfl, _, _, rfl, rfl, _, rfl, ?_⟩
    rw [show decide ((m : Int) < 1) = false from decide_eq_false (by omega)]
    exact iteF k
theorem ok_chklenX {f fI CL : Addr} {fd fdI : FuncData} (F : Fun K "check_length" "check_length" s_check_length f fd) (U : Use P w K mg base CX0 1 "is_integer" fI fdI ["value"] (spIsInt K)) (Z : RzC P w K mg base "InvalidLength" CL "value") :
    FnOk P w K mg base (L2.CX P w) 3 f fd ["length"] (spChkLX CL K) := by
  refine L2.Fun.okX F sc_chklen (fun vs H Q E h => ?_) (fun cdv A outer s H vs Q E hr h => ?_)
  · obtain ⟨v, rfl, _⟩ := h
    rfl
  · obtain ⟨v, rfl, hv, k⟩ := h
    obtain ⟨fI', fdI', i1, i2, F1, b1⟩ := Z.ex
    refine ⟨_, pss_one (ps_if (PW.pt (pw_or (pt_not (pt_val (pe_use U (hr.mono (by decide)) rfl (pa_cons (pv 0) pa_nil)))) (pw_or1 (pt_cmpR op_lt (pv 0) pe_int (nomark _))))) (pss_one (ps_raise rfl (takes_of rfl rfl rfl rfl) (pmk_oex Z.ox i1 i2 F1 hr b1 .nil pass0 rfl Z.mgC (pa_cons (pv 0) pa_nil)))) pss_nil), ?_⟩
    rcases hv with hv | ⟨i, rfl, hi⟩
    · refine ⟨_, rfl, v, rfl, .inr hv, _, rfl, ?_⟩
      have e : (asInt v).isSome = false := by
        rcases hv with ⟨b, rfl⟩ | ⟨n, ty, hk⟩
        · rfl
        · cases v with
          | int i =>
            cases ty with
            | base b =>
              cases b
              exact absurd hk (by decide +kernel)
          | _ => rfl
      rw [e]
      refine iteT ?_
      exact ⟨_, rfl, rz_end k⟩
    · refine ⟨_, rfl, _, rfl, .inl ⟨_, rfl⟩, _, rfl, ?_⟩
      refine iteF ?_
      refine ⟨_, rfl, _, _, rfl, rfl, _, rfl, ?_⟩
      rw [show decide ((i : Int) < 1) = true from decide_eq_true hi]
      refine iteT ?_
      exact ⟨_, rfl, rz_end k⟩
theorem sc_lb : FnScope ["railway", "station", "seen_from"] ["railway", "station", "seen_from"] (defScope s_layers_behind) := ⟨rfl, rfl, rfl, by decide +kernel, rfl, by decide +kernel, by decide +kernel⟩
theorem ok_lbX {f fc C CI CP : Addr} {fd fdc : FuncData} (F : Fun K "_layers_behind" "_layers_behind" s_layers_behind f fd) (U : UseX P w K mg base 4 "check_station" fc fdc ["railway", "station"] (spChkX C CI K)) (U0 : Use P w K mg base CX0 4 "check_station" fc fdc ["railway", "station"] (spChkSt C)) (Z : RzC P w K mg base "InvalidPair" CP "value") :
    FnOk P w K mg base (L2.CX P w) 5 f fd ["railway", "station", "seen_from"] (spLBX C CI CP K) := by
  refine L2.Fun.okX F sc_lb (fun vs H Q E h => ?_) (fun cdv A outer s H vs Q E hr h => ?_)
  · obtain ⟨r, tr, u, v, rfl, _⟩ := h
    rfl
  · obtain ⟨r, tr, u, v, rfl, R, h | ⟨a, rfl, ha, hv, k⟩ | ⟨a, rfl, rfl, ha, k⟩⟩ := h
    · obtain ⟨hv, k⟩ := h
      refine ⟨_, pss_cons (ps_expr (pe_call U.G hr rfl U.m U.kp U.b .nil (passes_call (takes_of rfl rfl rfl rfl) (fun _ _ _ _ h => h)) (pa_cons (pv 0) (pa_cons (pv 1) pa_nil)))) L2.pss_never, ?_⟩
      exact ⟨_, rfl, _, rfl, r, tr, u, rfl, R, hv.1, hv.2, k⟩
    · refine ⟨_, pss_cons (ps_expr (pe_use U0 hr rfl (pa_cons (pv 0) (pa_cons (pv 1) pa_nil)))) (pss_cons (ps_expr (pe_call U.G hr rfl U.m U.kp U.b .nil (passes_call (takes_of rfl rfl rfl rfl) (fun _ _ _ _ h => h)) (pa_cons (pv 0) (pa_cons (pv 2) pa_nil)))) L2.pss_never), ?_⟩
      exact ⟨_, rfl, _, rfl, r, tr, a, rfl, R, ha, _, rfl, _, rfl, r, tr, v, rfl, R, hv.1, hv.2, k⟩
    · obtain ⟨fI', fdI', i1, i2, F1, b1⟩ := Z.ex
      have two : (2 : Nat) ≤ sizeLine := by rw [sizeLine_eq]; decide
      refine ⟨_, pss_cons (ps_expr (pe_use U0 hr rfl (pa_cons (pv 0) (pa_cons (pv 1) pa_nil)))) (pss_cons (ps_expr (pe_use U0 hr rfl (pa_cons (pv 0) (pa_cons (pv 2) pa_nil))))
        (pss_cons (ps_if (pt_cmpR op_eq (pv 1) (pv 2) (nomark _)) (pss_one (ps_raise rfl (takes_of rfl rfl rfl rfl) (pmk_oex Z.ox i1 i2 F1 (hr.mono (by decide)) b1 .nil pass0 rfl Z.mgC (pa_cons (pe_tup (pa_cons (pv 1) (pa_cons (pv 2) pa_nil))) pa_nil)))) pss_nil) L2.pss_never)), ?_⟩
      refine ⟨_, rfl, _, rfl, r, tr, a, rfl, R, ha, _, rfl, _, rfl, r, tr, a, rfl, R, ha, _, rfl, _, rfl, rfl, _, rfl, ?_⟩
      rw [show decide (iv a = iv a) = true from decide_eq_true rfl]
      refine iteT ?_
      refine ⟨_, rfl, _, rfl, two, fun t nt => rz_end fun d hd => ?_⟩
      exact k t _ d (same_upd nt _) nt upd_same hd
theorem ok_lb {f fc fp fl C : Addr} {fd fdc fdp fdl : FuncData} (F : Fun K "_layers_behind" "_layers_behind" s_layers_behind f fd) (X : TxtR K mg C) (U0 : Use P w K mg base CX0 4 "check_station" fc fdc ["railway", "station"] (spChkSt C)) (UL : Use P w K mg base CX0 6 "layers" fl fdl ["railway", "station", "barred"] (spLayers C))
    (m : Meth K C "path" fp) (G : FnOk P w K mg base CX0 5 fp fdp ["self", "one", "other"] (spPath C)) (bp : Binds K fdp ["self", "one", "other"] []) : FnOk P w K mg base CX0 7 f fd ["railway", "station", "seen_from"] (spLB C) := by
  refine F.ok sc_lb (fun vs H Q E h => ?_) (fun cdv A outer s H vs Q E hr h => ?_)
  · obtain ⟨r, tr, a, b, rfl, _⟩ := h
    rfl
  · obtain ⟨r, tr, a, b, rfl, R, ha, hb, ne, k⟩ := h
    have hr4 : Room 4 (A.deeper (envOfC "_layers_behind" (defScope s_layers_behind) s.heap.objs.size f cdv)) := hr.mono (by decide)
    have hr5 : Room 5 (A.deeper (envOfC "_layers_behind" (defScope s_layers_behind) s.heap.objs.size f cdv)) := hr.mono (by decide)
    refine ⟨_, pss_cons (ps_expr (pe_use U0 hr4 rfl (pa_cons (pv 0) (pa_cons (pv 1) pa_nil)))) (pss_cons (ps_expr (pe_use U0 hr4 rfl (pa_cons (pv 0) (pa_cons (pv 2) pa_nil))))
      (pss_cons (ps_if (pt_cmpR op_eq (pv 1) (pv 2) (nomark _)) pss_never pss_nil)
      (pss_one (ps_ret (pe_use UL hr rfl (pa_cons (pv 0) (pa_cons (pv 1) (pa_cons (pe_ix ix_tup (pe_meth (pv 0) X.cl m G hr5 bp .nil pass0 (pa_cons (pv 1) (pa_cons (pv 2) pa_nil))) pe_int (fun _ _ => rfl)) pa_nil)))))))), ?_⟩
    obtain ⟨T, few, dx, tt, na, Aa, L, ps, ts, h1, h2⟩ := id R
    refine ⟨_, rfl, _, rfl, r, tr, a, rfl, R, ha, _, rfl, _, rfl, r, tr, b, rfl, R, hb, _, rfl, _, rfl, rfl, _, rfl, ?_⟩
    rw [show decide (iv a = iv b) = false from decide_eq_false fun z => ne (iv_inj.mp z)]
    refine iteF ?_
    refine ⟨_, rfl, _, rfl, _, rfl, r, dx, _, rfl, h1, flR_no (by decide +kernel) (by decide +kernel) (by decide +kernel) (by decide +kernel), _, rfl, _, rfl, r, tr, a, b, rfl, R, ha, hb, fun l p H' sw s1 np hp => ?_⟩
    match l, sw with
    | [], sw => exact absurd sw.hd (by simp)
    | [x], sw => exact absurd ((Option.some.inj sw.hd).symm.trans (Option.some.inj sw.lt)) ne
    | x :: y :: l, sw =>
      refine ⟨p, _, _, iv y, rfl, rfl, SqT.of hp, atN (n := 1) rfl, ?_⟩
      refine ⟨r, tr, a, some y, rfl, R.same s1, ha, fun fl fs H2 s2 hfl _ hne hnil => ?_⟩
      refine k fl fs H2 (s1.trans s2) hfl ?_ ?_
      · cases fs with
        | nil => cases hnil
        | cons _ _ => exact Nat.succ_le_succ (Nat.zero_le _)
      · cases fs with
        | nil => exact Nat.zero_le _
        | cons z fs =>
          have := lyr_le T ha (hne fs.length (by simp))
          simp only [List.length_cons]
          omega
theorem sc_db : FnScope ["railway", "station", "seen_from"] ["railway", "station", "seen_from"] (defScope s_depth_behind) := ⟨rfl, rfl, rfl, by decide +kernel, rfl, by decide +kernel, by decide +kernel⟩
theorem ok_db {f fb C : Addr} {fd fdb : FuncData} (F : Fun K "depth_behind" "depth_behind" s_depth_behind f fd) (N : Nm mg) (U : Use P w K mg base CX0 7 "_layers_behind" fb fdb ["railway", "station", "seen_from"] (spLB C)) : FnOk P w K mg base CX0 8 f fd ["railway", "station", "seen_from"] (spDB C) := by
  refine F.ok sc_db (fun vs H Q E h => ?_) (fun cdv A outer s H vs Q E hr h => ?_)
  · obtain ⟨r, tr, a, b, rfl, _⟩ := h
    rfl
  · obtain ⟨r, tr, a, b, rfl, R, ha, hb, ne, k⟩ := h
    refine ⟨_, pss_one (ps_ret (pe_op op_sub (pe_callB call_len_seq (by rfl) N.len PySem.boot_len (pa_cons (pe_use U hr rfl (pa_cons (pv 0) (pa_cons (pv 1) (pa_cons (pv 2) pa_nil)))) pa_nil)) pe_int)), ?_⟩
    refine ⟨_, rfl, _, rfl, _, rfl, r, tr, a, b, rfl, R, ha, hb, ne, fun fl fs H' s1 hfl h1 h2 => ?_⟩
    refine ⟨fl, _, rfl, .inl (SqL.of hfl), _, _, rfl, rfl, ?_⟩
    have q := k (fs.length - 1) H' s1 (by omega)
    have e : V.int (((fs.map V.ref).length : Int) - 1) = iv (fs.length - 1) := by
      show V.int _ = V.int _
      congr 1
      rw [List.length_map]
      omega
    show Q (V.int (((fs.map V.ref).length : Int) - 1)) H'
    rw [e]
    exact q
theorem ok_dbX {f fb C CI CP : Addr} {fd fdb : FuncData} (F : Fun K "depth_behind" "depth_behind" s_depth_behind f fd) (N : Nm mg) (U : UseX P w K mg base 5 "_layers_behind" fb fdb ["railway", "station", "seen_from"] (spLBX C CI CP K)) : FnOk P w K mg base (L2.CX P w) 6 f fd ["railway", "station", "seen_from"] (spLBX C CI CP K) := by
  refine L2.Fun.okX F sc_db (fun vs H Q E h => ?_) (fun cdv A outer s H vs Q E hr h => ?_)
  · obtain ⟨r, tr, u, v, rfl, _⟩ := h
    rfl
  · obtain ⟨r, tr, u, v, rfl, R, h⟩ := h
    refine ⟨_, pss_one (ps_ret (pe_op op_sub (pe_callB call_len_seq (by rfl) N.len PySem.boot_len (pa_cons (pe_call U.G hr rfl U.m U.kp U.b .nil (passes_call (takes_of rfl rfl rfl rfl) (fun _ _ _ _ h => h)) (pa_cons (pv 0) (pa_cons (pv 1) (pa_cons (pv 2) pa_nil)))) pa_nil)) pe_int)), ?_⟩
    exact ⟨_, rfl, _, rfl, _, rfl, r, tr, u, v, rfl, R, h⟩
theorem sc_beh : FnScope ["railway", "station", "seen_from", "found", "layer", "place"] ["railway", "station", "seen_from"] (defScope s_behind) := ⟨rfl, rfl, rfl, by decide +kernel, rfl, by decide +kernel, by decide +kernel⟩
theorem ok_behX {f fb C CI CP : Addr} {fd fdb : FuncData} (F : Fun K "behind" "behind" s_behind f fd) (U : UseX P w K mg base 5 "_layers_behind" fb fdb ["railway", "station", "seen_from"] (spLBX C CI CP K)) : FnOk P w K mg base (L2.CX P w) 6 f fd ["railway", "station", "seen_from"] (spLBX C CI CP K) := by
  refine L2.Fun.okX F sc_beh (fun vs H Q E h => ?_) (fun cdv A outer s H vs Q E hr h => ?_)
  · obtain ⟨r, tr, u, v, rfl, _⟩ := h
    rfl
  · obtain ⟨r, tr, u, v, rfl, R, h⟩ := h
    refine ⟨_, pss_cons (ps_set (i := 3) sc_beh.nd rfl (.inl rfl) (pe_call U.G hr rfl U.m U.kp U.b .nil (passes_call (takes_of rfl rfl rfl rfl) (fun _ _ _ _ h => h)) (pa_cons (pv 0) (pa_cons (pv 1) (pa_cons (pv 2) pa_nil))))) L2.pss_never, ?_⟩
    exact ⟨_, rfl, _, rfl, _, rfl, r, tr, u, v, rfl, R, h⟩
end
end TR

namespace TR
open PySem PySem.Spec PyProof.Rows L2 L2.TT StX ClX
/-- a tuple of pairs whose second numbers are small -/
structure Prz (H : Hp) (es : List Addr) (n : Nat) : Prop where
  at_ : ∀ e ∈ es, ∃ x m : Nat, H e = some (.tup [iv x, iv m]) ∧ m ≤ 2 * n + 3
theorem Prz.same {H H' : Hp} {es : List Addr} {n : Nat} (p : Prz H es n) (s : Same H H') : Prz H' es n := ⟨fun e he => let ⟨x, m, h, l⟩ := p.at_ e he; ⟨x, m, s _ _ h, l⟩⟩
theorem Prz.grow {H : Hp} {D : Addr} {xs : List V} {es : List Addr} {n : Nat} (p : Prz H es n) (hD : H D = some (.lst xs)) {ys : List V} {q : Addr} {x m : Nat} (hq : H q = some (.tup [iv x, iv m])) (hm : m ≤ 2 * n + 3) : Prz (upd H D (.lst ys)) (es ++ [q]) n := ⟨fun e he => by
  rcases List.mem_append.mp he with he | he
  · obtain ⟨x, m, h, l⟩ := p.at_ e he
    exact ⟨x, m, by rw [upd_ne (ne_of h hD (by intro z; cases z))]; exact h, l⟩
  · rw [List.mem_singleton.mp he]
    exact ⟨x, m, by rw [upd_ne (ne_of hq hD (by intro z; cases z))]; exact hq, hm⟩⟩
def spBD (C : Addr) : Sp := fun vs H Q _ => ∃ (r : Addr) (tr : List E2) (a : Nat), vs = [.ref r, iv a] ∧ RailAt C H r tr ∧ a ≤ tr.length ∧ ∀ (p : Addr) (es : List Addr) (H' : Hp), Same H H' → H p = none → H' p = some (.tup (es.map V.ref)) → es.length ≤ tr.length → Prz H' es tr.length → Q (.ref p) H'
def spDeep (C : Addr) : Sp := fun vs H Q _ => ∃ (r : Addr) (tr : List E2) (a m : Nat), vs = [.ref r, iv a, iv m] ∧ RailAt C H r tr ∧ a ≤ tr.length ∧ 2 * tr.length + 3 < m ∧ ∀ v H', Same H H' → Q v H'
def spDeepX (C CI CL : Addr) (K : PySem.W.Frag) : Sp := fun vs H _ E => ∃ (r : Addr) (tr : List E2) (u v : V), vs = [.ref r, u, v] ∧ RailAt C H r tr ∧
  ((BadS K H tr.length u ∧ ∀ d, H d = none → E (.ref CI) (some d) (upd H d (.xd [("value", u)]))) ∨
    (∃ a : Nat, u = iv a ∧ a ≤ tr.length ∧ BadL K H v ∧ ∀ d, H d = none → E (.ref CL) (some d) (upd H d (.xd [("value", v)]))))
def spTrX (CL : Addr) (K : PySem.W.Frag) : Sp := fun vs H _ E => ∃ (r v : V), vs = [r, v] ∧ BadL K H v ∧ ∀ d, H d = none → E (.ref CL) (some d) (upd H d (.xd [("value", v)]))
def spSwX (CL : Addr) (K : PySem.W.Frag) : Sp := fun vs H _ E => ∃ (r v x : V), vs = [r, v, x] ∧ BadL K H v ∧ ∀ d, H d = none → E (.ref CL) (some d) (upd H d (.xd [("value", v)]))
section
variable {P : Program} {w : World} {K : PySem.W.Frag} {mg : Str → Option Value} {base : Heap}
abbrev NBd : List Str := ["railway", "station", "near"]
theorem sc_bd : FnScope NBd ["railway", "station"] (defScope s_branch_depths) := ⟨rfl, rfl, rfl, by decide +kernel, rfl, by decide +kernel, by decide +kernel⟩
theorem ok_bd {f fc fn fd2 C : Addr} {fd fdc fdn fdd : FuncData} (F : Fun K "branch_depths" "branch_depths" s_branch_depths f fd) (N : Nm mg) (X : TxtR K mg C) (U0 : Use P w K mg base CX0 4 "check_station" fc fdc ["railway", "station"] (spChkSt C)) (UD : Use P w K mg base CX0 8 "depth_behind" fd2 fdd ["railway", "station", "seen_from"] (spDB C))
    (m : Meth K C "neighbours" fn) (G : FnOk P w K mg base CX0 5 fn fdn ["self", "station"] (spNbr C)) (bn : Binds K fdn ["self", "station"] []) : FnOk P w K mg base CX0 9 f fd ["railway", "station"] (spBD C) := by
  refine F.ok sc_bd (fun vs H Q E h => ?_) (fun cdv A outer s H vs Q E hr h => ?_)
  · obtain ⟨r, tr, a, rfl, _⟩ := h
    rfl
  · obtain ⟨r, tr, a, rfl, R, ha, k⟩ := h
    have hr4 : Room 4 (A.deeper (envOfC "branch_depths" (defScope s_branch_depths) s.heap.objs.size f cdv)) := hr.mono (by decide)
    have hr5 : Room 5 (A.deeper (envOfC "branch_depths" (defScope s_branch_depths) s.heap.objs.size f cdv)) := hr.mono (by decide)
    refine ⟨_, pss_cons (ps_expr (pe_use U0 hr4 rfl (pa_cons (pv 0) (pa_cons (pv 1) pa_nil))))
      (pss_one (ps_ret (pe_callTy call_tuple_of (by rfl) N.tuple boot_tuple (pa_cons
        (pe_lc (own := [("near", 2)]) (g := gName 2) (tt := tYes) rfl sc_bd.nd (pi_tupK (K := K) rfl (pe_meth (pv 0) X.cl m G hr5 bn .nil pass0 (pa_cons (pv 1) pa_nil))) (blkOk_by (N := NBd) (sc := defScope s_branch_depths) (by decide +kernel))
          (fun _ _ _ _ _ => pg_name (i := 2) sc_bd.nd rfl (Or.inl rfl)) (fun _ _ _ _ _ => pts_nil) (fun _ _ _ _ _ => pe_tup (pa_cons (pv 2) (pa_cons (pe_op op_add pe_int (pe_use UD hr (by rfl) (pa_cons (pv 0) (pa_cons (pv 2) (pa_cons (pv 1) pa_nil))))) pa_nil)))) pa_nil)))), ?_⟩
    obtain ⟨T, few, dx, tt, na, Aa, L, ps, ts, h1, h2⟩ := id R
    have two : (2 : Nat) ≤ sizeLine := by rw [sizeLine_eq]; decide
    refine ⟨_, rfl, _, rfl, r, tr, a, rfl, R, ha, ?_⟩
    refine ⟨_, rfl, r, dx, _, rfl, h1, flR_no (by decide +kernel) (by decide +kernel) (by decide +kernel) (by decide +kernel), _, rfl, r, tr, a, rfl, R, ha, fun t ht => ?_⟩
    refine ⟨t, rfl, ⟨_, SqT.of ht⟩, fun D nD => ?_⟩
    have hnb := nb_len tr a
    refine lc_tup (K := K) (a := t) (xs := (nb tr a).map iv) (fun i H' => ∃ es : List Addr, Same H H' ∧ H' D = some (.lst (es.map V.ref)) ∧ es.length = i ∧ Prz H' es tr.length) ⟨[], same_upd nD _, upd_same, rfl, ⟨fun e he => nomatch he⟩⟩ (fun i H' _ ⟨_, s1, _⟩ => sqT_same (SqT.of ht) s1) ?_ ?_
    · rintro i v H' hv ⟨es, s1, hD, hl, hp⟩
      obtain ⟨x, hx, rfl⟩ := map_got hv
      have hxm := List.mem_of_getElem? hx
      have adj := (mem_nb T.ne).mp hxm
      have hxn : x ≠ a := fun z => by
        subst z
        rcases adj with q | q <;> exact T.ne _ q rfl
      have hxl : x ≤ tr.length := by
        rcases adj with q | q
        · have := (T.lt1 q).2
          omega
        · have := (T.lt1 q).1
          omega
      have hil := (List.getElem?_eq_some_iff.mp hx).1
      refine ⟨rfl, _, rfl, _, rfl, _, rfl, _, rfl, r, tr, x, a, rfl, R.same s1, hxl, ha, hxn, fun m H2 s2 hm => ?_⟩
      refine ⟨_, _, rfl, rfl, two, fun q nq => ?_⟩
      have s3 := s2.trans (same_upd nq (.tup [iv x, V.int (1 + (m : Int))]))
      have hD3 := s3 _ _ hD
      have em : V.int (1 + (m : Int)) = iv (m + 1) := by
        show V.int _ = V.int _
        congr 1
        omega
      have hq : upd H2 q (.tup [iv x, V.int (1 + (m : Int))]) q = some (.tup [iv x, iv (m + 1)]) := by rw [upd_same, em]
      refine ⟨es.map V.ref, hD3, by rw [List.length_map, hl, sizeLine_eq]; omega, es ++ [q], same_old (s1.trans s3) nD _, by rw [upd_same, List.map_append]; rfl, by rw [List.length_append, hl]; rfl, ?_⟩
      exact (hp.same s3).grow hD3 hq (by omega)
    · rintro H' ⟨es, s1, hD, hl, hp⟩
      refine ⟨D, _, rfl, .inl ⟨SqL.of hD, fun p np => ?_⟩⟩
      rw [List.length_map] at hl
      exact k p es _ (s1.trans (same_upd np _)) (s1.free np) upd_same (by omega) (hp.same (same_upd np _))
theorem ok_bdX {f fc C CI : Addr} {fd fdc : FuncData} (F : Fun K "branch_depths" "branch_depths" s_branch_depths f fd) (U : UseX P w K mg base 4 "check_station" fc fdc ["railway", "station"] (spChkX C CI K)) : FnOk P w K mg base (L2.CX P w) 5 f fd ["railway", "station"] (spChkX C CI K) := by
  refine L2.Fun.okX F sc_bd (fun vs H Q E h => ?_) (fun cdv A outer s H vs Q E hr h => ?_)
  · obtain ⟨r, tr, v, rfl, _⟩ := h
    rfl
  · obtain ⟨r, tr, v, rfl, R, hv, hn, k⟩ := h
    refine ⟨_, pss_cons (ps_expr (pe_call U.G hr rfl U.m U.kp U.b .nil (passes_call (takes_of rfl rfl rfl rfl) (fun _ _ _ _ h => h)) (pa_cons (pv 0) (pa_cons (pv 1) pa_nil)))) L2.pss_never, ?_⟩
    exact ⟨_, rfl, _, rfl, r, tr, v, rfl, R, hv, hn, k⟩
abbrev NDp : List Str := ["railway", "station", "length", "near", "depth"]
theorem sc_dp : FnScope NDp ["railway", "station", "length"] (defScope s_deep_branches) := ⟨rfl, rfl, rfl, by decide +kernel, rfl, by decide +kernel, by decide +kernel⟩
theorem ok_dpX {f fc fl C CI CL : Addr} {fd fdc fdl : FuncData} (F : Fun K "deep_branches" "deep_branches" s_deep_branches f fd) (U : UseX P w K mg base 4 "check_station" fc fdc ["railway", "station"] (spChkX C CI K)) (U0 : Use P w K mg base CX0 4 "check_station" fc fdc ["railway", "station"] (spChkSt C)) (UL : UseX P w K mg base 3 "check_length" fl fdl ["length"] (spChkLX CL K)) :
    FnOk P w K mg base (L2.CX P w) 5 f fd ["railway", "station", "length"] (spDeepX C CI CL K) := by
  refine L2.Fun.okX F sc_dp (fun vs H Q E h => ?_) (fun cdv A outer s H vs Q E hr h => ?_)
  · obtain ⟨r, tr, u, v, rfl, _⟩ := h
    rfl
  · obtain ⟨r, tr, u, v, rfl, R, h | ⟨a, rfl, ha, hv, k⟩⟩ := h
    · obtain ⟨hv, k⟩ := h
      refine ⟨_, pss_cons (ps_expr (pe_call U.G hr rfl U.m U.kp U.b .nil (passes_call (takes_of rfl rfl rfl rfl) (fun _ _ _ _ h => h)) (pa_cons (pv 0) (pa_cons (pv 1) pa_nil)))) L2.pss_never, ?_⟩
      exact ⟨_, rfl, _, rfl, r, tr, u, rfl, R, hv.1, hv.2, k⟩
    · refine ⟨_, pss_cons (ps_expr (pe_use U0 hr rfl (pa_cons (pv 0) (pa_cons (pv 1) pa_nil)))) (pss_cons (ps_expr (pe_call UL.G (hr.mono (by decide)) rfl UL.m UL.kp UL.b .nil (passes_call (takes_of rfl rfl rfl rfl) (fun _ _ _ _ h => h)) (pa_cons (pv 2) pa_nil))) L2.pss_never), ?_⟩
      exact ⟨_, rfl, _, rfl, r, tr, a, rfl, R, ha, _, rfl, v, rfl, hv, k⟩
theorem ok_dp {f fc fl fb C : Addr} {fd fdc fdl fdb : FuncData} (F : Fun K "deep_branches" "deep_branches" s_deep_branches f fd) (N : Nm mg) (U0 : Use P w K mg base CX0 4 "check_station" fc fdc ["railway", "station"] (spChkSt C)) (UL : Use P w K mg base CX0 2 "check_length" fl fdl ["length"] spChkLen) (UB : Use P w K mg base CX0 9 "branch_depths" fb fdb ["railway", "station"] (spBD C)) :
    FnOk P w K mg base CX0 10 f fd ["railway", "station", "length"] (spDeep C) := by
  refine F.ok sc_dp (fun vs H Q E h => ?_) (fun cdv A outer s H vs Q E hr h => ?_)
  · obtain ⟨r, tr, a, m, rfl, _⟩ := h
    rfl
  · obtain ⟨r, tr, a, m, rfl, R, ha, hm, k⟩ := h
    refine ⟨_, pss_cons (ps_expr (pe_use U0 (hr.mono (by decide)) rfl (pa_cons (pv 0) (pa_cons (pv 1) pa_nil)))) (pss_cons (ps_expr (pe_use UL (hr.mono (by decide)) rfl (pa_cons (pv 2) pa_nil)))
      (pss_one (ps_ret (pe_callTy call_tuple_of (by rfl) N.tuple boot_tuple (pa_cons
        (pe_lc (own := [("near", 3), ("depth", 4)]) (g := gTup K 2 (gCons (gName 3) (gCons (gName 4) gNil))) rfl sc_dp.nd (pi_tupK (K := K) rfl (pe_use UB hr (by rfl) (pa_cons (pv 0) (pa_cons (pv 1) pa_nil)))) (blkOk_by (N := NDp) (sc := defScope s_deep_branches) (by decide +kernel))
          (fun _ _ _ _ _ => pg_tupK (K := K) (n := 2) (t := gCons (gName 3) (gCons (gName 4) gNil)) rfl rfl (pgs_cons (pg_name (i := 3) sc_dp.nd rfl (Or.inl rfl)) (pgs_cons (pg_name (i := 4) sc_dp.nd rfl (Or.inl rfl)) pgs_nil)) rfl)
          (fun _ _ _ _ _ => pts_one (pt_cmpR op_ge (pv 4) (pv 2) (nomark _))) (fun _ _ _ _ _ => pv 3)) pa_nil))))), ?_⟩
    refine ⟨_, rfl, _, rfl, r, tr, a, rfl, R, ha, _, rfl, m, rfl, by omega, ?_⟩
    refine ⟨_, rfl, _, rfl, r, tr, a, rfl, R, ha, fun p es H1 s1 np hp hl hz => ?_⟩
    refine ⟨p, rfl, ⟨_, SqT.of hp⟩, fun D nD => ?_⟩
    refine lc_tup (K := K) (a := p) (xs := es.map V.ref) (fun i H' => Same H1 H' ∧ H' D = some (.lst [])) ⟨same_upd nD _, upd_same⟩ (fun i H' _ ⟨s2, _⟩ => sqT_same (SqT.of hp) s2) ?_ ?_
    · rintro i v H' hv ⟨s2, hD⟩
      obtain ⟨e, he, rfl⟩ := map_got hv
      obtain ⟨x, d, h, hd⟩ := hz.at_ e (List.mem_of_getElem? he)
      refine ⟨e, _, rfl, SqT.of (s2 _ _ h), rfl, _, _, rfl, _, _, rfl, rfl, rfl, _, rfl, _, rfl, _, _, rfl, rfl, _, rfl, ?_⟩
      rw [show decide ((d : Int) ≥ (m : Int)) = false from decide_eq_false (by omega)]
      exact iteF ⟨s2, hD⟩
    · rintro H' ⟨s2, hD⟩
      exact ⟨D, _, rfl, .inl ⟨SqL.of hD, fun q nq => k _ _ ((s1.trans s2).trans (same_upd nq _))⟩⟩
theorem sc_sw : FnScope ["railway", "length", "least", "stations", "station"] ["railway", "length", "least"] (defScope s_stations_with_deep_branches) := ⟨rfl, rfl, rfl, by decide +kernel, rfl, by decide +kernel, by decide +kernel⟩
theorem ok_swX {f fl CL : Addr} {fd fdl : FuncData} (F : Fun K "_stations_with_deep_branches" "_stations_with_deep_branches" s_stations_with_deep_branches f fd) (UL : UseX P w K mg base 3 "check_length" fl fdl ["length"] (spChkLX CL K)) : FnOk P w K mg base (L2.CX P w) 4 f fd ["railway", "length", "least"] (spSwX CL K) := by
  refine L2.Fun.okX F sc_sw (fun vs H Q E h => ?_) (fun cdv A outer s H vs Q E hr h => ?_)
  · obtain ⟨r, v, x, rfl, _⟩ := h
    rfl
  · obtain ⟨r, v, x, rfl, hv, k⟩ := h
    refine ⟨_, pss_cons (ps_expr (pe_call UL.G hr rfl UL.m UL.kp UL.b .nil (passes_call (takes_of rfl rfl rfl rfl) (fun _ _ _ _ h => h)) (pa_cons (pv 1) pa_nil))) L2.pss_never, ?_⟩
    exact ⟨_, rfl, v, rfl, hv, k⟩
theorem sc_tk : FnScope ["railway", "length"] ["railway", "length"] (defScope s_trunk) := ⟨rfl, rfl, rfl, by decide +kernel, rfl, by decide +kernel, by decide +kernel⟩
theorem ok_tkX {f fl CL : Addr} {fd fdl : FuncData} (F : Fun K "trunk" "trunk" s_trunk f fd) (U : UseX P w K mg base 4 "_stations_with_deep_branches" fl fdl ["railway", "length", "least"] (spSwX CL K)) : FnOk P w K mg base (L2.CX P w) 5 f fd ["railway", "length"] (spTrX CL K) := by
  refine L2.Fun.okX F sc_tk (fun vs H Q E h => ?_) (fun cdv A outer s H vs Q E hr h => ?_)
  · obtain ⟨r, v, rfl, _⟩ := h
    rfl
  · obtain ⟨r, v, rfl, hv, k⟩ := h
    refine ⟨_, pss_one (ps_ret (pe_call U.G hr rfl U.m U.kp U.b .nil (passes_call (takes_of rfl rfl rfl rfl) (fun _ _ _ _ h => h)) (pa_cons (pv 0) (pa_cons (pv 1) (pa_cons pe_int pa_nil))))), ?_⟩
    exact ⟨_, rfl, _, rfl, r, v, _, rfl, hv, k⟩
theorem sc_pvt : FnScope ["railway", "length"] ["railway", "length"] (defScope s_pivots) := ⟨rfl, rfl, rfl, by decide +kernel, rfl, by decide +kernel, by decide +kernel⟩
theorem ok_pvX {f fl CL : Addr} {fd fdl : FuncData} (F : Fun K "pivots" "pivots" s_pivots f fd) (U : UseX P w K mg base 4 "_stations_with_deep_branches" fl fdl ["railway", "length", "least"] (spSwX CL K)) : FnOk P w K mg base (L2.CX P w) 5 f fd ["railway", "length"] (spTrX CL K) := by
  refine L2.Fun.okX F sc_pvt (fun vs H Q E h => ?_) (fun cdv A outer s H vs Q E hr h => ?_)
  · obtain ⟨r, v, rfl, _⟩ := h
    rfl
  · obtain ⟨r, v, rfl, hv, k⟩ := h
    refine ⟨_, pss_one (ps_ret (pe_call U.G hr rfl U.m U.kp U.b .nil (passes_call (takes_of rfl rfl rfl rfl) (fun _ _ _ _ h => h)) (pa_cons (pv 0) (pa_cons (pv 1) (pa_cons pe_int pa_nil))))), ?_⟩
    exact ⟨_, rfl, _, rfl, r, v, _, rfl, hv, k⟩
end
end TR

namespace L2.TL
open PySem PySem.Spec PyProof.Rows L2 LamX
section
variable {X : Cx} {pins : List (Addr × Obj)} {σ : L2.St} {H HZ : Hp} {s s1 : Shared}
/-- x(), in the def that got the lambda, the wish about errors by the slots -/
theorem pe_actS {CXg : CXT} {Eg : XK} {Ng : List Str} {qg : Str} {sg : Scope} {g f c' : Addr} {cdg pm ctv : Value} {params : Arguments} {body : Expr} {scope : Scope} {k i : Nat} {a : Str} {pn : List (Addr × Obj)} {xe : Value → Shared → Prop} {E : L2.St → XK} {tb : XK → TE} {p1 p2 : Pos}
    (I : Inv X pins σ H s) (L : LamS X.env.scope scope) (hf : s.heap.get? f = some (PySem.W.kla_obj "<lambda>" (X.env.qual ++ "<lambda>") params body scope (cloFrom X.env.cells scope.names []) pm c' ctv)) (hfn : H f = none) (hfr : f ∉ frs X.stack)
    (hbind : bindArgs (PySem.W.kla_fn "<lambda>" (X.env.qual ++ "<lambda>") params body scope (cloFrom X.env.cells scope.names []) pm (.ref c') ctv) ⟨[], []⟩ = pure [])
    (hx : ∀ σZ, PassesAt (L2.CX X.prog X.w) ((cxOf CXg X.prog X.w X.K X.mg X.base Ng qg sg g cdg X.A X.stack s H Eg).tr pn xe) σZ (E σZ)) (hr : Room (k + 1) (X.A.deeper (envOfC qg sg s.heap.objs.size g cdg)))
    (hbody : ∀ (A : Around) (outer : List Env) (s : Shared) (H : Hp) (E : XK), Room k (A.deeper (lamEnv X scope s.heap.objs.size f c')) → PE (lamCx X A outer s H E scope f c') body (tb E))
    (hN : Ng[i]? = some a) (hv : Vis sg a) (hd : (a == ("__debug__" : Str)) = false := by decide) (hcd : (a == ("__classdict__" : Str)) = false := by decide) :
    PE ((cxOf CXg X.prog X.w X.K X.mg X.base Ng qg sg g cdg X.A X.stack s H Eg).tr pn xe) (.Call (.Name a p1) [] [] p2)
      (fun σZ HZ Q => σZ[i]? = some (some (.ref f)) ∧ HZ c' = some (CodeO c' (X.env.qual ++ "<lambda>")) ∧ tb (E σZ) σ HZ Q) := by
  refine ⟨fun pinsZ sZ σZ HZ Q IZ h => ?_⟩
  obtain ⟨hs, hc, ht⟩ := h
  refine wpAny_Call_Name_kw (thn ((pe_var (pos := p1) (i := i) hN hv hd hcd).run pinsZ sZ σZ HZ (fun v H1 => v = .ref f ∧ H1 = HZ) IZ ⟨.ref f, hs, rfl, rfl⟩) fun u s1 ⟨v, H1, I1, r1, q1⟩ => ?_)
  obtain ⟨ev, eH⟩ := q1
  subst ev
  rw [eH] at I1
  obtain rfl : u = Value.ref f := r1
  have of1 : s1.heap.get? f = some (PySem.W.kla_obj "<lambda>" (X.env.qual ++ "<lambda>") params body scope (cloFrom X.env.cells scope.names []) pm c' ctv) := I1.base.keep f _ hf hfn hfr (fun z => nomatch (show f ∈ ([] : List Addr) from z))
  refine PySem.W.callWith_F0 ⟨_, _, _, _, of1⟩ ?_
  have un : Un (frs X.stack) [] H HZ s.heap s1.heap := I1.base
  obtain ⟨⟨oc, vs, t, hoc, hdc, hvc⟩, _, _⟩ := I1.hok c' _ hc
  have rc : codeAny (model X.prog X.w) (X.A.deeper (envOfC qg sg s.heap.objs.size g cdg)) (.call (.ref f) ⟨[], []⟩) (CR (L2.CX X.prog X.w) (envOfC qg sg s.heap.objs.size g cdg :: X.stack) X.prog X.w HZ s1 Q (E σZ)) s1 := by
    refine PySem.W.kla_callFunE hr.depth of1 rfl L.co L.gen rfl ⟨c', oc, vs, t, rfl, hoc, hdc, hvc⟩ ?_
    rw [hbind]
    refine wpAny_pure (wpAny_newFunctionEnv (fun y hy => (L.own y hy).2) (fun y hy => absurd hy (by simp)) (fun h₁ hns hsb => ⟨I1.nolimit.fresh _ hsb, ?_⟩) L.kind)
    show codeAny _ _ (.expr body (lamEnv X scope s1.heap.objs.size f c')) _ _
    have kp : ∀ b o, s1.heap.get? b = some o → h₁.get? b = some o := fun b o e => hsb.extBut b o (Nat.ne_of_lt (Heap.lt_size e)) (Heap.get?_push_of_some _ e)
    have J : Inv (lamCx X (X.A.deeper (envOfC qg sg s.heap.objs.size g cdg)) (envOfC qg sg s.heap.objs.size g cdg :: X.stack) s1 HZ (E σZ) scope f c') [] σ HZ { s1 with heap := h₁, toks := s1.toks + ([] : List (Str × Value)).length } :=
      lam_start2 I L I1.env0 hr.hd un hns kp
    refine PySem.W.kla_codeExpr (wpAny_mono ((hbody _ _ s1 HZ (E σZ) (hr.deeper _)).run [] _ _ HZ Q J ht) (fun v s' hq => ?_) fun e s' hq => hq)
    obtain ⟨w', H', J', rv, q⟩ := hq
    exact ⟨w', H', J'.os, J'.bare, J'.base, J'.hok, rv, q⟩
  refine wpAny_call (codeAny_mono rc fun r s' hq => ?_)
  cases r with
  | error e => exact hx σZ pinsZ HZ s1 e s' I1 hq
  | ok fl =>
    cases fl with
    | ret u => exact I1.after hq
    | next => exact False.elim hq
    | brk => exact False.elim hq
    | cont => exact False.elim hq
end
/-- as GivesTo, the wish about errors by the slots -/
def GivesS (X : Cx) (Ng : List Str) (x : Str) (sg : Scope) (g : Addr) (cdg : Value) (bg : List Stmt) (a : Str) (q : Str) (TT : (XK → Hp → VK → Prop) → Hp → VK → Prop) : Prop :=
  ∀ (f c' : Addr) (s : Shared) (H : Hp) (Q : VK) (tl : XK → Hp → VK → Prop),
    (∀ (pn : List (Addr × Obj)) (xe : Value → Shared → Prop) (E : L2.St → XK) (p1 p2 : Pos), (∀ σZ, PassesAt (L2.CX X.prog X.w) ((cxOf C8.CX0 X.prog X.w X.K X.mg X.base Ng x sg g cdg X.A X.stack s H C8.E0).tr pn xe) σZ (E σZ)) →
      PE ((cxOf C8.CX0 X.prog X.w X.K X.mg X.base Ng x sg g cdg X.A X.stack s H C8.E0).tr pn xe) (.Call (.Name a p1) [] [] p2) (fun σZ HZ Q => σZ[0]? = some (some (.ref f)) ∧ HZ c' = some (CodeO c' q) ∧ tl (E σZ) HZ Q)) →
    H c' = some (CodeO c' q) → TT tl H Q → Room 2 (X.A.deeper (envOfC x sg s.heap.objs.size g cdg)) →
    ∃ t, PSs (cxOf C8.CX0 X.prog X.w X.K X.mg X.base Ng x sg g cdg X.A X.stack s H C8.E0).nox bg t ∧ t { nx := fun _ H' => Q .non H', rt := Q } (L2.start Ng [.ref f]) H
section
variable {X : Cx}
/-- x(lambda: body) -/
theorem pe_lamcallS {T : List (Addr × Str)} {TT : (XK → Hp → VK → Prop) → Hp → VK → Prop} {x a : Str} {g c P : Addr} {k : Nat} {pg : Arguments} {bg : List Stmt} {sg : Scope} {dV kV doc pm cdv ct oc : Value} {an od : Option Addr} {osl : Array (Option Value)} {Ng : List Str}
    {params : Arguments} {body : Expr} {scope : Scope} {t : XK → TE} {p lpos pos : Pos} (hg : Gl X x) (hm : X.mg x = some (.ref g)) (hk : PySem.W.keepIn X.K (.ref g) = true)
    (lk : X.K.lookup g = some ⟨oc, od, .func (PySem.W.fnOf x x pg bg sg dV kV doc pm an cdv ct), osl⟩) (hcg : PySem.W.codeIn X.K cdv x = true) (hb : L2.Binds X.K (PySem.W.fnOf x x pg bg sg dV kV doc pm an cdv ct) [a] []) (Sg : FnScope Ng [a] sg) (hNg : Ng[0]? = some a) (hva : Vis sg a)
    (hG : GivesS X Ng x sg g cdv bg a (X.env.qual ++ "<lambda>") TT)
    (TB : TabB X.base X.mg c P) (hcode : X.env.code = .ref c) (hmT : (P, X.env.qual ++ "<lambda>") ∈ T) (hu : ∀ p ∈ T, p.1 = P → p.2 = X.env.qual ++ "<lambda>") (hr : Room (k + 4) X.A) (L : LamS X.env.scope scope) (hdef : defaultsOf params X.env = ([], []))
    (hbind : ∀ (q : Str) (cl : List (Str × Addr)) (pm cv ctv : Value), bindArgs (PySem.W.kla_fn "<lambda>" q params body scope cl pm cv ctv) ⟨[], []⟩ = pure [])
    (hbody : ∀ (A : Around) (outer : List Env) (s : Shared) (H : Hp) (E : XK) (f c' : Addr), Room (k + 2) (A.deeper (lamEnv X scope s.heap.objs.size f c')) → PE (lamCx X A outer s H E scope f c') body (t E))
    (hdb : (x == ("__debug__" : Str)) = false := by decide) (hd : (a == ("__debug__" : Str)) = false := by decide) (hcd : (a == ("__classdict__" : Str)) = false := by decide) :
    PE X (.Call (.Name x p) [.Lambda params body scope lpos] [] pos) (tLam T TT t) := by
  refine ⟨fun pins s σ H Q I h => ?_⟩
  obtain ⟨hT, h⟩ := h
  refine wpAny_Call_Name_kw (ld_glob I hg hm ?_ hdb)
  refine PySem.W.callWith_K (h₀ := X.base) I.ok.mod.kin hk ?_ (by rfl) (by rfl)
  show wpAny _ _ (spliced ((false, eval (.Lambda params body scope lpos) X.env) :: backTo pos (starEach [] X.env))) _ _ s
  refine Calls.spliced_cons (lam_make2 I TB hcode hmT hu hT hdef (L.has I.ok) fun f c' pm' ctv H1 s' I1 eN T1 hf hfn hfr hco => ?_)
  refine Calls.spliced_nil ⟨I1.kIn, ?_⟩
  have rc : codeAny (model X.prog X.w) X.A (.call (.ref g) ⟨[.ref f], []⟩) (CR C8.CX0 X.stack X.prog X.w H1 s' Q C8.E0) s' := by
    refine run_ofS (N := Ng) (ps := [a]) (us := [.ref f]) (vs := [.ref f]) (k := k + 3) lk hcg Sg hr I1.env0 (hb s' [.ref f] I1.kIn rfl) (.cons rfl .nil) rfl fun hr' => ?_
    obtain ⟨t', ht', hq'⟩ := hG f c' s' H1 Q (fun E H' Q' => t E σ H' Q') (fun pn xe E p1 p2 hx => pe_actS (i := 0) I1 L hf hfn hfr (hbind _ _ _ _ _) hx hr' (fun A outer s H E hr2 => hbody A outer s H E f c' hr2) hNg hva hd hcd) hco (h H1 eN T1) (hr'.mono (by omega))
    exact ⟨t', ht'.nox, hq'⟩
  refine wpAny_call (codeAny_mono rc fun r s2 hq => ?_)
  cases r with
  | error e => exact (show False from hq).elim
  | ok fl =>
    cases fl with
    | ret u => exact I1.after hq
    | next => exact False.elim hq
    | brk => exact False.elim hq
    | cont => exact False.elim hq
end
end L2.TL

namespace TR
open PySem PySem.Spec PyProof.Rows L2 L2.TT StX ClX L2.TL
/-- what is read off of the i-th class of errors -/
structure SCls (K : PySem.W.Frag) (CR CU CM CS CP CL CSt CLi C : Addr) (i : Nat) : Prop where
  ea : PySem.W.exmAny K (.ref C) [.ref CR, .ref CU, .ref CM] = some true
  xc : ∃ bm nid, XC K C bm nid
  nv : PySem.W.findIn K (.ref C) "value" = some none
  k0 : PySem.W.kitOne K (.ref C) (.ref CS) = some (decide (i = 0))
  k1 : PySem.W.kitOne K (.ref C) (.ref CP) = some (decide (i = 1))
  k2 : PySem.W.kitOne K (.ref C) (.ref CL) = some (decide (i = 2))
  kt : PySem.W.kitAny K (.ref C) [.ref CSt, .ref CLi] = some false
  bV : PySem.W.kitOne K (.ref C) (.type "ValueError") = some true
  bR : PySem.W.kitOne K (.ref C) (.type "RuntimeError") = some false
  bL : PySem.W.kitOne K (.ref C) (.type "LookupError") = some false
structure SayF (K : PySem.W.Frag) (mg : Str → Option Value) (CR CU CM CS CP CL CSt CLi : Addr) : Prop where
  kc : KCls K
  mR : mg "RailError" = some (.ref CR)
  mU : mg "RunError" = some (.ref CU)
  mM : mg "MissingError" = some (.ref CM)
  mS : mg "InvalidStation" = some (.ref CS)
  mP : mg "InvalidPair" = some (.ref CP)
  mL : mg "InvalidLength" = some (.ref CL)
  mSt : mg "InvalidStanding" = some (.ref CSt)
  mLi : mg "InvalidLine" = some (.ref CLi)
  eV : mg "ValueError" = none
  eR : mg "RuntimeError" = none
  eL : mg "LookupError" = none
  isi : mg "isinstance" = none
def wd : Nat → Str
  | 0 => "station"
  | 1 => "pair"
  | _ => "length"
theorem FlownAt.same {H H' : Hp} {a C : Addr} {fs : List (Str × V)} (f : FlownAt H a C fs) (s : Same H H') : FlownAt H' a C fs :=
  let ⟨d, h1, h2⟩ := f
  ⟨d, s _ _ h1, s _ _ h2⟩
theorem said_cnt {i : Nat} (h : i ≤ 2) : decide (V.int ((([decide (i = 0), decide (i = 1), decide (i = 2)] : List Bool).count true : Nat) : Int) = V.int 1) = true := by
  have : i = 0 ∨ i = 1 ∨ i = 2 := by omega
  rcases this with rfl | rfl | rfl <;> rfl
theorem said_at {i : Nat} (h : i ≤ 2) : ∃ z : V, [V.bl (decide (i = 0)), V.bl (decide (i = 1)), V.bl (decide (i = 2))][i]? = some z ∧ eqV z (V.bl true) = true ∧
    (∀ (m : Nat) (z' : V), m < i → [V.bl (decide (i = 0)), V.bl (decide (i = 1)), V.bl (decide (i = 2))][m]? = some z' → eqV z' (V.bl true) = false) ∧ [V.str "station", V.str "pair", V.str "length"][i]? = some (V.str (wd i)) := by
  have : i = 0 ∨ i = 1 ∨ i = 2 := by omega
  rcases this with rfl | rfl | rfl
  · exact ⟨_, rfl, rfl, fun m z' hm => absurd hm (Nat.not_lt_zero m), rfl⟩
  · refine ⟨_, rfl, rfl, fun m z' hm h => ?_, rfl⟩
    match m, hm, h with
    | 0, _, h => cases h; rfl
  · refine ⟨_, rfl, rfl, fun m z' hm h => ?_, rfl⟩
    match m, hm, h with
    | 0, _, h => cases h; rfl
    | 1, _, h => cases h; rfl
/-- what _law_said makes of the call -/
def TSaid (K : PySem.W.Frag) (CR CU CM CS CP CL CSt CLi : Addr) : (XK → Hp → VK → Prop) → Hp → VK → Prop := fun tl H Q => ∀ (E' : XK) (Q' : VK),
  (∀ (C d : Addr) (i : Nat) (v : V) (H' : Hp), i ≤ 2 → SCls K CR CU CM CS CP CL CSt CLi C i → H' d = some (.xd [("value", v)]) → (∀ t H2, Same H' H2 → H' t = none → H2 t = some (.tup [.str (wd i), v]) → Q (.ref t) H2) → E' (.ref C) (some d) H') →
  (∀ v H', Q (.str "returned") H' → Q' v H') → tl E' H Q'
abbrev NSd : List Str := ["call", "caught", "e", "some", "bases"]
theorem sc_said : FnScope NSd ["call"] (defScope s_law_said) := ⟨rfl, rfl, rfl, by decide +kernel, rfl, by decide +kernel, by decide +kernel⟩
theorem said_gives {X : Cx} {g : Addr} {cdg : Value} {q : Str} {CR CU CM CS CP CL CSt CLi : Addr} (W : SayF X.K X.mg CR CU CM CS CP CL CSt CLi) :
    GivesS X NSd "_law_said" (defScope s_law_said) g cdg (defBody s_law_said) "call" q (TSaid X.K CR CU CM CS CP CL CSt CLi) := by
  intro f c' s H Q tl act hc h hr
  have hu64 : (X.A.deeper (envOfC "_law_said" (defScope s_law_said) s.heap.objs.size g cdg)).units + 64 < cLine := hr.units
  refine ⟨_, pss_cons (ps_set (i := 1) sc_said.nd rfl (.inl rfl) pe_non)
    (pss_cons (ps_try_kp (X := (cxOf C8.CX0 X.prog X.w X.K X.mg X.base NSd "_law_said" (defScope s_law_said) g cdg X.A X.stack s H C8.E0).nox) (i := 2) (cs := [.ref CR, .ref CU, .ref CM]) (Wout := fun _ _ _ _ => False) rfl rfl rfl sc_said.nd rfl rfl
        (fun cls b he => test3 (X := (cxOf C8.CX0 X.prog X.w X.K X.mg X.base NSd "_law_said" (defScope s_law_said) g cdg X.A X.stack s H C8.E0).nox) ⟨by rfl, by decide, .inl W.mR⟩ ⟨by rfl, by decide, .inl W.mU⟩ ⟨by rfl, by decide, .inl W.mM⟩ he) takes0
        (fun W' pn xe tk ow => pss_one (ps_expr (act pn xe (WE W') _ _ (fun σ => passAt tk σ))))
        (fun a oe cls d pn hz hd => pss_one (ps_set (i := 1) sc_said.nd rfl (.inl rfl) (pv 2))))
    (pss_cons (ps_if (pt_cmp (pc_isN (pv 1))) (pss_one (ps_ret pe_str)) pss_nil)
    (pss_cons (ps_set (i := 3) sc_said.nd rfl (.inl rfl) (pe_lst (pa_cons (pe_callB (call_fis W.kc) (by rfl) W.isi boot_isinstance (pa_cons (pv 1) (pa_cons (pe_glob (v := .ref CS) (by rfl) W.mS rfl) pa_nil))) (pa_cons (pe_callB (call_fis W.kc) (by rfl) W.isi boot_isinstance (pa_cons (pv 1) (pa_cons (pe_glob (v := .ref CP) (by rfl) W.mP rfl) pa_nil))) (pa_cons (pe_callB (call_fis W.kc) (by rfl) W.isi boot_isinstance (pa_cons (pv 1) (pa_cons (pe_glob (v := .ref CL) (by rfl) W.mL rfl) pa_nil))) pa_nil)))))
    (pss_cons (ps_set (i := 4) sc_said.nd rfl (.inl rfl) (pe_lst (pa_cons (pe_callB (call_fis W.kc) (by rfl) W.isi boot_isinstance (pa_cons (pv 1) (pa_cons (pe_bltn (v := .ty "ValueError") (by rfl) W.eV (by decide +kernel) rfl) pa_nil))) (pa_cons (pe_callB (call_fis W.kc) (by rfl) W.isi boot_isinstance (pa_cons (pv 1) (pa_cons (pe_bltn (v := .ty "RuntimeError") (by rfl) W.eR (by decide +kernel) rfl) pa_nil))) (pa_cons (pe_callB (call_fis W.kc) (by rfl) W.isi boot_isinstance (pa_cons (pv 1) (pa_cons (pe_bltn (v := .ty "LookupError") (by rfl) W.eL (by decide +kernel) rfl) pa_nil))) pa_nil)))))
    (pss_cons (ps_if (PW.pt (pw_or (pt_val (pe_callB (call_fisT W.kc) (by rfl) W.isi boot_isinstance (pa_cons (pv 1) (pa_cons (pe_tup (pa_cons (pe_glob (v := .ref CSt) (by rfl) W.mSt rfl) (pa_cons (pe_glob (v := .ref CLi) (by rfl) W.mLi rfl) pa_nil))) pa_nil))))
        (pw_or (pt_cmpR op_ne (pe_bm PySem.F.plainAttrs_list PySem.F.slot_list_count PySem.F.type_list_count mt_cntB (pv 3) (pa_cons pe_bl pa_nil)) pe_int (nomark _)) (pw_or1 (pt_cmpR (op_neD hu64) (pv 4) (pe_lst (pa_cons pe_bl (pa_cons pe_bl (pa_cons pe_bl pa_nil)))) (nomark _)))))) (pss_one (ps_ret pe_str)) pss_nil)
    (pss_one (ps_ret (pe_tup (pa_cons (pe_ix ix_list (pe_lst (pa_cons pe_str (pa_cons pe_str (pa_cons pe_str pa_nil)))) (pe_bm PySem.F.plainAttrs_list PySem.F.slot_list_index PySem.F.type_list_index mt_index (pv 3) (pa_cons pe_bl pa_nil)) (fun _ _ => rfl)) (pa_cons (pe_fget (pv 1)) pa_nil))))))))))
    , ?_⟩
  have two : (2 : Nat) ≤ sizeLine := by rw [sizeLine_eq]; decide
  have three : (3 : Nat) ≤ sizeLine := by rw [sizeLine_eq]; decide
  refine ⟨rfl, hc, ?_⟩
  refine h _ _ (fun C d i v H' hi S hd kk => ?_) (fun v H' hq => ?_)
  · obtain ⟨bm, nid, xc⟩ := S.xc
    refine ⟨true, S.ea, fun _ a na => ⟨_, rfl, ?_⟩, fun z => (nomatch z)⟩
    have fl := FlownAt.mk (C := C) (d := d) (fs := [("value", v)]) na hd
    have s0 := same_upd na (exq a (.ref C) (some d))
    refine ⟨_, rfl, _, rfl, ?_⟩
    refine iteF ?_
    generalize upd H' a (exq a (.ref C) (some d)) = H1 at fl s0
    refine ⟨_, rfl, a, C, _, _, _, nid, bm, _, rfl, .own CS, xc, fl, S.k0, _, rfl, a, C, _, _, _, nid, bm, _, rfl, .own CP, xc, fl, S.k1, _, rfl, a, C, _, _, _, nid, bm, _, rfl, .own CL, xc, fl, S.k2, three, fun la nla => ?_⟩
    have s1 := s0.trans (same_upd nla (.lst [V.bl (decide (i = 0)), V.bl (decide (i = 1)), V.bl (decide (i = 2))]))
    have fl1 := fl.same (same_upd nla (.lst [V.bl (decide (i = 0)), V.bl (decide (i = 1)), V.bl (decide (i = 2))]))
    have hl1 := upd_same (H := H1) (a := la) (o := .lst [V.bl (decide (i = 0)), V.bl (decide (i = 1)), V.bl (decide (i = 2))])
    generalize upd H1 la (.lst [V.bl (decide (i = 0)), V.bl (decide (i = 1)), V.bl (decide (i = 2))]) = H2 at s1 fl1 hl1
    refine ⟨_, rfl, a, C, _, _, _, nid, bm, _, rfl, .ty _, xc, fl1, S.bV, _, rfl, a, C, _, _, _, nid, bm, _, rfl, .ty _, xc, fl1, S.bR, _, rfl, a, C, _, _, _, nid, bm, _, rfl, .ty _, xc, fl1, S.bL, three, fun lb nlb => ?_⟩
    have sb := same_upd nlb (.lst [V.bl true, V.bl false, V.bl false])
    have s2 := s1.trans sb
    have fl2 := fl1.same sb
    have hl2 := sb _ _ hl1
    have hb2 := upd_same (H := H2) (a := lb) (o := .lst [V.bl true, V.bl false, V.bl false])
    generalize upd H2 lb (.lst [V.bl true, V.bl false, V.bl false]) = H3 at s2 fl2 hl2 hb2
    refine ⟨_, rfl, two, fun tp ntp => ?_⟩
    have st := same_upd ntp (.tup [V.ref CSt, V.ref CLi])
    refine ⟨a, C, tp, _, _, _, nid, bm, false, rfl, upd_same, .cons (.own CSt) (.cons (.own CLi) .nil), xc, fl2.same st, S.kt, _, rfl, ?_⟩
    refine iteF ?_
    have s3 := s2.trans st
    have fl3 := fl2.same st
    have hl3 := st _ _ hl2
    have hb3 := st _ _ hb2
    generalize upd H3 tp (.tup [V.ref CSt, V.ref CLi]) = H4 at s3 fl3 hl3 hb3
    refine ⟨_, rfl, .inl ⟨rfl, _, SqL.of hl3⟩, la, [decide (i = 0), decide (i = 1), decide (i = 2)], true, rfl, rfl, SqL.of hl3, rfl, _, rfl, ?_⟩
    rw [said_cnt hi]
    refine iteF ?_
    refine ⟨_, rfl, three, fun lc nlc => ?_⟩
    have sc := same_upd nlc (.lst [V.bl true, V.bl false, V.bl false])
    refine ⟨.list [.bool true, .bool false, .bool false], .list [.bool true, .bool false, .bool false], .lst (SqL.of (sc _ _ hb3)) (.cons (.bl _) (.cons (.bl _) (.cons (.bl _) .nil))), .lst (SqL.of upd_same) (.cons (.bl _) (.cons (.bl _) (.cons (.bl _) .nil))), by decide +kernel, by decide +kernel, _, rfl, ?_⟩
    rw [show PyData.eqv (.list [.bool true, .bool false, .bool false]) (.list [.bool true, .bool false, .bool false]) = true from by decide +kernel]
    refine iteF ?_
    have s4 := s3.trans sc
    have fl4 := fl3.same sc
    have hl4 := sc _ _ hl3
    generalize upd H4 lc (.lst [V.bl true, V.bl false, V.bl false]) = H5 at s4 fl4 hl4
    refine ⟨three, fun ld nld => ?_⟩
    have sd := same_upd nld (.lst [V.str "station", V.str "pair", V.str "length"])
    have hd5 := upd_same (H := H5) (a := ld) (o := .lst [V.str "station", V.str "pair", V.str "length"])
    have s5 := s4.trans sd
    have fl5 := fl4.same sd
    have hl5 := sd _ _ hl4
    generalize upd H5 ld (.lst [V.str "station", V.str "pair", V.str "length"]) = H6 at s5 fl5 hl5 hd5
    obtain ⟨z, e1, e2, e3, e4⟩ := said_at hi
    refine ⟨_, rfl, .inl ⟨rfl, _, SqL.of hl5⟩, la, _, V.bl true, i, z, rfl, rfl, SqL.of hl5, rfl, rfl, e1, e2, e3, ?_⟩
    refine ⟨ld, _, _, _, rfl, rfl, SqL.of hd5, atN e4, ?_⟩
    refine ⟨_, rfl, a, C, _, v, nid, bm, rfl, xc, S.nv, fl5, rfl, two, fun t nt => ?_⟩
    exact kk t _ (s5.trans (same_upd nt _)) (s5.free nt) upd_same
  · refine ⟨_, rfl, _, rfl, ?_⟩
    refine iteT ?_
    exact hq
end TR

namespace TR
open PySem PySem.Spec PyProof.Rows L2 L2.TT StX ClX L2.TL
/-- all but the draws and the tables stay -/
def Kp (dr : Addr) (H H' : Hp) : Prop := ∀ b o, H b = some o → b ≠ dr → (∀ ps, o ≠ .tbl ps) → H' b = some o
theorem Kp.refl (dr : Addr) (H : Hp) : Kp dr H H := fun _ _ e _ _ => e
theorem Kp.trans {dr : Addr} {H H1 H2 : Hp} (a : Kp dr H H1) (b : Kp dr H1 H2) : Kp dr H H2 := fun c o e n t => b c o (a c o e n t) n t
theorem Kp.sm {dr : Addr} {H H' : Hp} (s : Same H H') : Kp dr H H' := fun b o e _ _ => s b o e
theorem Kp.fr {dr : Addr} {H H' : Hp} (s : Fr dr H H') : Kp dr H H' := fun b o e n _ => s b o e n
theorem Kp.ex {dr : Addr} {H H' : Hp} (s : LamX.ExtN H H') : Kp dr H H' := fun b o e _ t => s b o e t
theorem SqL.nt {xs : List V} : ∀ ps, HO.lst xs ≠ .tbl ps := fun ps z => by cases z
/-- an odd value: what is said of it holds from H on -/
structure OddV (K : PySem.W.Frag) (dr : Addr) (H : Hp) (v : V) (d : PyData) : Prop where
  is : ∀ H', Kp dr H H' → (Dp K H' v d ∧ d.canLay0 = true) ∨ FD H' v d
  sh : d.showable = true
  lv : d.leavesShort 60 = true
  wt : d.weight ≤ 200
  dp : d.depth ≤ 10
theorem OddV.keep {K : PySem.W.Frag} {dr : Addr} {H H' : Hp} {v : V} {d : PyData} (o : OddV K dr H v d) (k : Kp dr H H') : OddV K dr H' v d := ⟨fun H2 k2 => o.is H2 (k.trans k2), o.sh, o.lv, o.wt, o.dp⟩
theorem leaf_int {i : Int} (h : i.natAbs < 10 ^ 41) : (PyData.int i).leavesShort 60 = true := by
  simp only [PyData.leavesShort, decide_eq_true_eq]
  have e : (toString i).length ≤ 42 := int_text_length_le10 (k := 41) (by decide) h
  show (Str.ofString (toString i)).length ≤ 60
  rw [PySem.ofString_length]
  omega
theorem log_40 {i : Int} (h : i.natAbs < 10 ^ 41) : i.natAbs.log2 < 137 := by
  by_cases h0 : i.natAbs = 0
  · rw [h0]; decide
  · refine (Nat.log2_lt h0).mpr ?_
    have : (10 : Nat) ^ 41 < 2 ^ 137 := by decide
    omega
theorem OddV.int {K : PySem.W.Frag} {dr : Addr} {H : Hp} {i : Int} (h : i.natAbs < 10 ^ 41) : OddV K dr H (.int i) (.int i) := by
  have hl := log_40 h
  refine ⟨fun _ _ => .inl ⟨.int i, rfl⟩, ?_, leaf_int h, ?_, ?_⟩
  · simp only [PyData.showable, decide_eq_true_eq]
    omega
  · simp only [PyData.weight]
    split <;> omega
  · simp only [PyData.depth]
    omega
theorem inR_big {i : Int} {n : Nat} (h : (n : Int) < i ∨ i < 0) : inR (.int i) 0 (n : Int) = false := by
  show (decide ((0 : Int) ≤ i) && decide (i ≤ (n : Int))) = false
  rcases h with h | h
  · rw [show decide (i ≤ (n : Int)) = false from decide_eq_false (by omega), Bool.and_false]
  · rw [show decide ((0 : Int) ≤ i) = false from decide_eq_false (by omega), Bool.false_and]
def spNoSt (K : PySem.W.Frag) : Sp := fun vs H Q _ => ∃ (dr cl : Addr) (n m : Nat), vs = [.ref dr, iv (m + 1)] ∧ DrawAt H dr cl n ∧ n ≤ 800000000 ∧ m ≤ 100 ∧
  ∀ (v : V) (d : PyData) (H' : Hp), DrawAt H' dr cl (n + 1) → Fr dr H H' → (∀ H2, Kp dr H' H2 → BadS K H2 m v) → OddV K dr H' v d → Q v H'
def spNoLen (K : PySem.W.Frag) : Sp := fun vs H Q _ => ∃ (dr cl : Addr) (n : Nat), vs = [.ref dr] ∧ DrawAt H dr cl n ∧ n ≤ 800000000 ∧
  ∀ (v : V) (d : PyData) (H' : Hp), DrawAt H' dr cl (n + 1) → Fr dr H H' → (∀ H2, Kp dr H' H2 → BadL K H2 v) → OddV K dr H' v d → Q v H'
section
variable {P : Program} {w : World} {K : PySem.W.Frag} {mg : Str → Option Value} {base : Heap}
theorem sc_nost : FnScope ["draw", "count"] ["draw", "count"] (defScope s_law_no_station) := ⟨rfl, rfl, rfl, by decide +kernel, rfl, by decide +kernel, by decide +kernel⟩
theorem ok_nost {f fn : Addr} {fd fdn : FuncData} (F : Fun K "_law_no_station" "_law_no_station" s_law_no_station f fd) (U : Use P w K mg base CX0 2 "_law_next" fn fdn ["draw", "bound"] spNext) : FnOk P w K mg base CX0 3 f fd ["draw", "count"] (spNoSt K) := by
  refine F.ok sc_nost (fun vs H Q E h => ?_) (fun cdv A outer s H vs Q E hr h => ?_)
  · obtain ⟨dr, cl, n, m, rfl, _⟩ := h
    rfl
  · obtain ⟨dr, cl, n, m, rfl, D, hn, hm, k⟩ := h
    refine ⟨_, pss_one (ps_ret (pe_ix ix_list (pe_lst (pa_cons pe_non (pa_cons (pe_un un_neg pe_int) (pa_cons (pv 1) (pa_cons pe_bl (pa_cons pe_bl (pa_cons pe_str (pa_cons (pe_tup (pa_cons pe_int pa_nil)) (pa_cons (pe_lst (pa_cons pe_int pa_nil)) (pa_cons pe_dnewK (pa_cons (pe_op op_pow pe_int pe_int) (pa_cons (pe_tup pa_nil) (pa_cons (pe_op op_add (pv 1) pe_int) pa_nil)))))))))))))
        (pe_use U hr (by rfl) (pa_cons (pv 0) (pa_cons pe_int pa_nil))) (fun _ _ => rfl))), ?_⟩
    have one : (1 : Nat) ≤ sizeLine := by rw [sizeLine_eq]; decide
    obtain ⟨kvd, hdd⟩ := D.some1
    refine ⟨_, rfl, _, rfl, one, fun a1 n1 => ?_⟩
    have s1 := same_upd n1 (.tup [V.int 0])
    have g1 := upd_same (H := H) (a := a1) (o := .tup [V.int 0])
    generalize upd H a1 (.tup [V.int 0]) = G1 at s1 g1
    refine ⟨one, fun a2 n2 => ?_⟩
    have s2 := same_upd n2 (.lst [V.int 0])
    have g2 := upd_same (H := G1) (a := a2) (o := .lst [V.int 0])
    generalize upd G1 a2 (.lst [V.int 0]) = G2 at s2 g2
    refine fun a3 n3 => ?_
    have s3 := same_upd n3 (.dK [])
    have g3 := upd_same (H := G2) (a := a3) (o := .dK [])
    generalize upd G2 a3 (.dK []) = G3 at s3 g3
    refine ⟨_, _, rfl, rfl, ⟨by decide, by decide, by decide⟩, by show 0 ≤ sizeLine; exact Nat.zero_le _, fun a4 n4 => ?_⟩
    have s4 := same_upd n4 (.tup [])
    have g4 := upd_same (H := G3) (a := a4) (o := .tup [])
    generalize upd G3 a4 (.tup []) = G4 at s4 g4
    refine ⟨_, rfl, _, _, rfl, rfl, by show 12 ≤ sizeLine; rw [sizeLine_eq]; decide, fun a5 n5 => ?_⟩
    obtain ⟨O, hO⟩ : ∃ O : List V, O = [V.non, V.int (-1), iv (m + 1), V.bl true, V.bl false, V.str (Str.ofString "0"), .ref a1, .ref a2, .ref a3, V.int (10 ^ (40 : Int).toNat), .ref a4, V.int (((m + 1 : Nat) : Int) + 1)] := ⟨_, rfl⟩
    have s5 := same_upd n5 (.lst O)
    have g5 := upd_same (H := G4) (a := a5) (o := .lst O)
    have lO : O.length = 12 := by rw [hO]; rfl
    rw [← hO]
    generalize upd G4 a5 (.lst O) = G5 at s5 g5
    have t4 : Same G4 G5 := s5
    have t3 := s4.trans t4
    have t2 := s3.trans t3
    have t1 := s2.trans t2
    have t0 := s1.trans t1
    have D5 := D.same t0
    obtain ⟨kv5, hd5⟩ := D5.some1
    refine ⟨_, rfl, dr, cl, 12, n, rfl, D5, by omega, by decide, by decide, fun ri H2 r0 r1 D2 k2 => ?_⟩
    have fr2 := Fr.of k2
    have f1 := fr2 _ _ (t1 _ _ g1) (ne_of (t1 _ _ g1) hd5 (by intro z; cases z))
    have f2 := fr2 _ _ (t2 _ _ g2) (ne_of (t2 _ _ g2) hd5 (by intro z; cases z))
    have d3 : a3 ≠ dr := fun z => by rw [z, s2 _ _ (s1 _ _ hdd)] at n3; cases n3
    have f3 := fr2 _ _ (t3 _ _ g3) d3
    have f4 := fr2 _ _ (t4 _ _ g4) (ne_of (t4 _ _ g4) hd5 (by intro z; cases z))
    have f5 := fr2 _ _ g5 (ne_of g5 hd5 (by intro z; cases z))
    obtain ⟨kv2, hd2⟩ := D2.some1
    have n1' := ne_of f1 hd2 (by intro z; cases z)
    have n2' := ne_of f2 hd2 (by intro z; cases z)
    have n4' := ne_of f4 hd2 (by intro z; cases z)
    obtain ⟨odd, ho, hmem⟩ := pickAll (P := fun v => v ∈ O) (xs := O) r0 (by rw [lO]; exact r1) (fun x h => h)
    refine ⟨a5, _, _, odd, rfl, rfl, SqL.of f5, ho, ?_⟩
    have big : (10 : Int) ^ (40 : Int).toNat = 10000000000000000000000000000000000000000 := by decide
    have e41 : (10 : Nat) ^ 41 = 100000000000000000000000000000000000000000 := by decide
    obtain ⟨d, hb, hd⟩ : ∃ d, (∀ H', Kp dr H2 H' → BadS K H' m odd) ∧ OddV K dr H2 odd d := by
      rw [hO] at hmem
      simp only [List.mem_cons, List.not_mem_nil, or_false] at hmem
      rcases hmem with rfl | rfl | rfl | rfl | rfl | rfl | rfl | rfl | rfl | rfl | rfl | rfl
      · exact ⟨.none, fun H' _ => ⟨.inr NI.non, rfl⟩, fun _ _ => .inl ⟨.non, rfl⟩, rfl, rfl, by decide, by decide⟩
      · exact ⟨_, fun H' _ => ⟨.inl ⟨_, rfl⟩, inR_big (.inr (by decide))⟩, OddV.int (by decide)⟩
      · exact ⟨_, fun H' _ => ⟨.inl ⟨_, rfl⟩, inR_big (.inl (by omega))⟩, OddV.int (by omega)⟩
      · exact ⟨.bool true, fun H' _ => ⟨.inr (.inl ⟨_, rfl⟩), rfl⟩, fun _ _ => .inl ⟨.bl _, rfl⟩, rfl, rfl, by decide, by decide⟩
      · exact ⟨.bool false, fun H' _ => ⟨.inr (.inl ⟨_, rfl⟩), rfl⟩, fun _ _ => .inl ⟨.bl _, rfl⟩, rfl, rfl, by decide, by decide⟩
      · exact ⟨.str "0", fun H' _ => ⟨.inr NI.str, rfl⟩, fun _ _ => .inl ⟨.str _, by decide +kernel⟩, rfl, by decide +kernel, by decide +kernel, by decide +kernel⟩
      · exact ⟨.tuple [.int 0], fun H' z => ⟨.inr (NI.tup (z _ _ f1 n1' (fun _ z => by cases z))), rfl⟩, fun H' z => .inl ⟨.tup (SqT.of (z _ _ f1 n1' (fun _ z => by cases z))) (.cons (.int 0) .nil), rfl⟩, by decide +kernel, by decide +kernel, by decide +kernel, by decide +kernel⟩
      · exact ⟨.list [.int 0], fun H' z => ⟨.inr (NI.lst (z _ _ f2 n2' (fun _ z => by cases z))), rfl⟩, fun H' z => .inl ⟨.lst (SqL.of (z _ _ f2 n2' (fun _ z => by cases z))) (.cons (.int 0) .nil), rfl⟩, by decide +kernel, by decide +kernel, by decide +kernel, by decide +kernel⟩
      · exact ⟨.dict [], fun H' z => ⟨.inr (NI.dK (z _ _ f3 d3 (fun _ z => by cases z))), rfl⟩, fun H' z => .inr (.dic (z _ _ f3 d3 (fun _ z => by cases z)) .nil), by decide +kernel, by decide +kernel, by decide +kernel, by decide +kernel⟩
      · exact ⟨_, fun H' _ => ⟨.inl ⟨_, rfl⟩, inR_big (.inl (by rw [big]; omega))⟩, OddV.int (by rw [big, e41]; decide)⟩
      · exact ⟨.tuple [], fun H' z => ⟨.inr (NI.tup (z _ _ f4 n4' (fun _ z => by cases z))), rfl⟩, fun H' z => .inl ⟨.tup (SqT.of (z _ _ f4 n4' (fun _ z => by cases z))) .nil, rfl⟩, by decide +kernel, by decide +kernel, by decide +kernel, by decide +kernel⟩
      · exact ⟨_, fun H' _ => ⟨.inl ⟨_, rfl⟩, inR_big (.inl (by omega))⟩, OddV.int (by omega)⟩
    exact k odd d H2 D2 ((Fr.sm t0).trans fr2) hb hd
theorem sc_nolen : FnScope ["draw"] ["draw"] (defScope s_law_no_length) := ⟨rfl, rfl, rfl, by decide +kernel, rfl, by decide +kernel, by decide +kernel⟩
theorem ok_nolen {f fn : Addr} {fd fdn : FuncData} (F : Fun K "_law_no_length" "_law_no_length" s_law_no_length f fd) (U : Use P w K mg base CX0 2 "_law_next" fn fdn ["draw", "bound"] spNext) : FnOk P w K mg base CX0 3 f fd ["draw"] (spNoLen K) := by
  refine F.ok sc_nolen (fun vs H Q E h => ?_) (fun cdv A outer s H vs Q E hr h => ?_)
  · obtain ⟨dr, cl, n, rfl, _⟩ := h
    rfl
  · obtain ⟨dr, cl, n, rfl, D, hn, k⟩ := h
    refine ⟨_, pss_one (ps_ret (pe_ix ix_list (pe_lst (pa_cons pe_non (pa_cons pe_int (pa_cons (pe_un un_neg pe_int) (pa_cons pe_bl (pa_cons pe_bl (pa_cons pe_str (pa_cons (pe_tup (pa_cons pe_int pa_nil)) (pa_cons (pe_lst (pa_cons pe_int pa_nil)) (pa_cons pe_dnewK (pa_cons (pe_op op_sub pe_int (pe_op op_pow pe_int pe_int)) pa_nil)))))))))))
        (pe_use U hr (by rfl) (pa_cons (pv 0) (pa_cons pe_int pa_nil))) (fun _ _ => rfl))), ?_⟩
    have one : (1 : Nat) ≤ sizeLine := by rw [sizeLine_eq]; decide
    obtain ⟨kvd, hdd⟩ := D.some1
    refine ⟨_, rfl, one, fun a1 n1 => ?_⟩
    have s1 := same_upd n1 (.tup [V.int 1])
    have g1 := upd_same (H := H) (a := a1) (o := .tup [V.int 1])
    generalize upd H a1 (.tup [V.int 1]) = G1 at s1 g1
    refine ⟨one, fun a2 n2 => ?_⟩
    have s2 := same_upd n2 (.lst [V.int 2])
    have g2 := upd_same (H := G1) (a := a2) (o := .lst [V.int 2])
    generalize upd G1 a2 (.lst [V.int 2]) = G2 at s2 g2
    refine fun a3 n3 => ?_
    have s3 := same_upd n3 (.dK [])
    have g3 := upd_same (H := G2) (a := a3) (o := .dK [])
    generalize upd G2 a3 (.dK []) = G3 at s3 g3
    refine ⟨_, _, rfl, rfl, ⟨by decide, by decide, by decide⟩, _, _, rfl, rfl, by show 10 ≤ sizeLine; rw [sizeLine_eq]; decide, fun a5 n5 => ?_⟩
    obtain ⟨O, hO⟩ : ∃ O : List V, O = [V.non, V.int 0, V.int (-1), V.bl true, V.bl false, V.str (Str.ofString "1"), .ref a1, .ref a2, .ref a3, V.int (0 - 10 ^ (40 : Int).toNat)] := ⟨_, rfl⟩
    have s5 := same_upd n5 (.lst O)
    have g5 := upd_same (H := G3) (a := a5) (o := .lst O)
    have lO : O.length = 10 := by rw [hO]; rfl
    rw [← hO]
    generalize upd G3 a5 (.lst O) = G5 at s5 g5
    have t3 : Same G3 G5 := s5
    have t2 := s3.trans t3
    have t1 := s2.trans t2
    have t0 := s1.trans t1
    have D5 := D.same t0
    obtain ⟨kv5, hd5⟩ := D5.some1
    refine ⟨_, rfl, dr, cl, 10, n, rfl, D5, by omega, by decide, by decide, fun ri H2 r0 r1 D2 k2 => ?_⟩
    have fr2 := Fr.of k2
    have f1 := fr2 _ _ (t1 _ _ g1) (ne_of (t1 _ _ g1) hd5 (by intro z; cases z))
    have f2 := fr2 _ _ (t2 _ _ g2) (ne_of (t2 _ _ g2) hd5 (by intro z; cases z))
    have d3 : a3 ≠ dr := fun z => by rw [z, s2 _ _ (s1 _ _ hdd)] at n3; cases n3
    have f3 := fr2 _ _ (t3 _ _ g3) d3
    have f5 := fr2 _ _ g5 (ne_of g5 hd5 (by intro z; cases z))
    obtain ⟨kv2, hd2⟩ := D2.some1
    have n1' := ne_of f1 hd2 (by intro z; cases z)
    have n2' := ne_of f2 hd2 (by intro z; cases z)
    obtain ⟨odd, ho, hmem⟩ := pickAll (P := fun v => v ∈ O) (xs := O) r0 (by rw [lO]; exact r1) (fun x h => h)
    refine ⟨a5, _, _, odd, rfl, rfl, SqL.of f5, ho, ?_⟩
    have big : (10 : Int) ^ (40 : Int).toNat = 10000000000000000000000000000000000000000 := by decide
    have e41 : (10 : Nat) ^ 41 = 100000000000000000000000000000000000000000 := by decide
    obtain ⟨d, hb, hd⟩ : ∃ d, (∀ H', Kp dr H2 H' → BadL K H' odd) ∧ OddV K dr H2 odd d := by
      rw [hO] at hmem
      simp only [List.mem_cons, List.not_mem_nil, or_false] at hmem
      rcases hmem with rfl | rfl | rfl | rfl | rfl | rfl | rfl | rfl | rfl | rfl
      · exact ⟨.none, fun H' _ => .inl NI.non, fun _ _ => .inl ⟨.non, rfl⟩, rfl, rfl, by decide, by decide⟩
      · exact ⟨_, fun H' _ => .inr ⟨_, rfl, by decide⟩, OddV.int (by decide)⟩
      · exact ⟨_, fun H' _ => .inr ⟨_, rfl, by decide⟩, OddV.int (by decide)⟩
      · exact ⟨.bool true, fun H' _ => .inl (.inl ⟨_, rfl⟩), fun _ _ => .inl ⟨.bl _, rfl⟩, rfl, rfl, by decide, by decide⟩
      · exact ⟨.bool false, fun H' _ => .inl (.inl ⟨_, rfl⟩), fun _ _ => .inl ⟨.bl _, rfl⟩, rfl, rfl, by decide, by decide⟩
      · exact ⟨.str "1", fun H' _ => .inl NI.str, fun _ _ => .inl ⟨.str _, by decide +kernel⟩, rfl, by decide +kernel, by decide +kernel, by decide +kernel⟩
      · exact ⟨.tuple [.int 1], fun H' z => .inl (NI.tup (z _ _ f1 n1' (fun _ z => by cases z))), fun H' z => .inl ⟨.tup (SqT.of (z _ _ f1 n1' (fun _ z => by cases z))) (.cons (.int 1) .nil), rfl⟩, by decide +kernel, by decide +kernel, by decide +kernel, by decide +kernel⟩
      · exact ⟨.list [.int 2], fun H' z => .inl (NI.lst (z _ _ f2 n2' (fun _ z => by cases z))), fun H' z => .inl ⟨.lst (SqL.of (z _ _ f2 n2' (fun _ z => by cases z))) (.cons (.int 2) .nil), rfl⟩, by decide +kernel, by decide +kernel, by decide +kernel, by decide +kernel⟩
      · exact ⟨.dict [], fun H' z => .inl (NI.dK (z _ _ f3 d3 (fun _ z => by cases z))), fun H' z => .inr (.dic (z _ _ f3 d3 (fun _ z => by cases z)) .nil), by decide +kernel, by decide +kernel, by decide +kernel, by decide +kernel⟩
      · exact ⟨_, fun H' _ => .inr ⟨_, rfl, by rw [big]; decide⟩, OddV.int (by rw [big, e41]; decide)⟩
    exact k odd d H2 D2 ((Fr.sm t0).trans fr2) hb hd
end
end TR

namespace L2.TT
open PySem PySem.Spec PyProof.Rows PySem.W
/-- the value v stands for d, and its repr is d's text -/
def SK (K : Frag) (H : Hp) (v : V) (d : PyData) : Prop := ∀ (X : Cx) (pins : List (Addr × Obj)) (σ : St) (s : Shared) (u : Value), X.K = K → Inv X pins σ H s → RelV v u →
  ∃ (bs as : List Addr), Reads s.heap u d as ∧ ReadAtMost s.heap d.depth bs ∧ ReprK X.prog X.w bs s.heap d.depth u d.shown
theorem SK.dp {K : Frag} {H : Hp} {v : V} {d : PyData} (h : Dp K H v d) (c : d.canLay0 = true) (hs : d.showable = true) (hz : d.shown.length ≤ sizeLine) : SK K H v d := fun X pins σ s u e I r => by
  subst e
  obtain ⟨as, q⟩ := Dp.reads I d v u h r
  obtain ⟨bs, h1, h2⟩ := ReprK.of_reads (prog := X.prog) (w := X.w) q hs (fun z => by rw [PyData.hasDict_of_canLay d c] at z; exact absurd z Bool.false_ne_true) hz
  exact ⟨bs, as, q, h1, h2⟩
theorem SK.fd {K : Frag} {H : Hp} {v : V} {d : PyData} (h : FD H v d) (hs : d.showable = true) (hz : d.shown.length ≤ sizeLine) : SK K H v d := fun X pins σ s u e I r => by
  subst e
  obtain ⟨as, q, n⟩ := FD.reads I h r
  obtain ⟨bs, h1, h2⟩ := ReprK.of_reads (prog := X.prog) (w := X.w) q hs (fun _ => n) hz
  exact ⟨bs, as, q, h1, h2⟩
theorem readMost_le {h : Heap} {n m : Nat} {bs : List Addr} (r : ReadAtMost h n bs) (l : n ≤ m) : ReadAtMost h m bs := fun b hb => let ⟨d, as, q, z⟩ := r b hb; ⟨d, as, q, Nat.le_trans z l⟩
theorem SK.all {K : Frag} {H : Hp} {X : Cx} {pins : List (Addr × Obj)} {σ : St} {s : Shared} (e : X.K = K) (I : Inv X pins σ H s) : ∀ {vs : List V} {ds : List PyData} {us : List Value}, Paired (SK K H) vs ds → Vals vs us →
    ∃ (bs as : List Addr), ReadsAll s.heap us ds as ∧ ReadAtMost s.heap (PyData.depthAll ds) bs ∧ ReprAllK X.prog X.w bs s.heap (PyData.depthAll ds) us (PyData.shownAll ds)
  | _, _, _, .nil, .nil => ⟨[], [], ReadsAll.nil, (fun _ hb => by cases hb), ReprAllK.nil⟩
  | _, _, _, @Paired.cons _ _ _ _ d _ ds f t, .cons r t2 => by
    obtain ⟨b1, a1, h1, h2, h3⟩ := f X pins σ s _ e I r
    obtain ⟨b2, a2, q1, q2, q3⟩ := SK.all e I t t2
    have l1 : d.depth ≤ PyData.depthAll (d :: ds) := by simp only [PyData.depthAll]; omega
    have l2 : PyData.depthAll ds ≤ PyData.depthAll (d :: ds) := by simp only [PyData.depthAll]; omega
    refine ⟨b1 ++ b2, a1 ++ a2, ReadsAll.cons h1 q1, fun b hb => ?_, ?_⟩
    · rcases List.mem_append.mp hb with hb | hb
      · exact readMost_le h2 l1 b hb
      · exact readMost_le q2 l2 b hb
    · exact ReprAllK.cons ((h3.more fun b hb => List.mem_append_left _ hb).level_le l1) (q3.more_le (fun b hb => List.mem_append_right _ hb) l2)
theorem SK.tup {K : Frag} {H : Hp} {a : Addr} {xs : List V} {ds : List PyData} (hx : SqT K H a xs) (h : Paired (SK K H) xs ds) (hz : (tupleText (PyData.shownAll ds)).length ≤ sizeLine) : SK K H (.ref a) (.tuple ds) := fun X pins σ s u e I r => by
  cases r
  subst e
  obtain ⟨its, rv, ⟨o, ho, hc, n, hda⟩, hl⟩ := I.tuple hx
  obtain ⟨bs, as, h1, h2, h3⟩ := SK.all rfl I h rv
  have R := Reads.tuple ho hc hda h1
  have hd : PyData.depth (.tuple ds) = PyData.depthAll ds + 1 := by simp only [PyData.depth]
  have hna : a ∉ bs := not_mem_of_deeper R (by rw [hd]; exact Nat.lt_succ_self _) h2
  refine ⟨a :: bs, as, R, fun b hb => ?_, ?_⟩
  · rcases List.mem_cons.mp hb with rfl | hb
    · exact ⟨_, _, R, Nat.le_refl _⟩
    · exact readMost_le h2 (by rw [hd]; exact Nat.le_succ _) b hb
  · rw [hd]
    simp only [PyData.shown]
    exact ReprK.tuple ho hc hda hna h3
/-- repr(xs), each item as said -/
def rReprS (K : Frag) : List V → Hp → VK → Prop := fun xs H Q => ∃ (a : Addr) (vs : List V) (ds : List PyData), xs = [.ref a] ∧ SqL K H a vs ∧ Paired (SK K H) vs ds ∧ (listText (PyData.shownAll ds)).length ≤ sizeLine ∧ PyData.depthAll ds ≤ 20 ∧ Q (.str (PyData.shown (.list ds))) H
theorem call_reprS {X : Cx} (hg : X.A.guards = some []) (hu : X.A.units + 64 < cLine) : CallR X (.builtin "repr") (rReprS X.K) := by
  intro pins s σ H xs us Q I r h
  obtain ⟨a, vs, ds, rfl, hl, hd, hz', hp, q⟩ := h
  obtain rfl := Vals.ref1 r
  obtain ⟨its, rv, ⟨o, n, ho, hc, hdn, hda⟩, hz⟩ := I.list hl
  obtain ⟨bs, as, h4, hbs, hk⟩ := SK.all rfl I hd rv
  have hna : a ∉ bs := not_mem_of_deeper (.list ho hc hda h4) (by simp only [PyData.depth]; omega) hbs
  simp only [PyData.shown] at q
  refine call_repr_slot (by omega) ⟨o, ho, hc⟩ F.slot_list_repr.toG ?_
  cases its with
  | nil =>
    cases h4
    simp only [PyData.shownAll, listText_nil] at q
    refine call_list_repr_empty (s := s) ⟨o, ho, hc⟩ ho hda ?_
    exact ⟨_, _, rfl, .str "[]", H, I.tok _, ⟨_, rfl⟩, q⟩
  | cons x l =>
    refine call_list_reprK ho hc hda hna (by simpa using hk.length_eq) (fun i y e => hk.item i y (by simpa using e)) hg (fun b _ => Clear.nil b) (by show X.A.units + 1 + _ < cLine; omega) (fun _ _ e => e) (fun h' u tk k => ?_) hz'
    exact ⟨_, _, rfl, .str (listText (PyData.shownAll ds)), H, I.kept k, ⟨u, rfl⟩, q⟩
end L2.TT

namespace TR
open PySem PySem.Spec PyProof.Rows L2 L2.TT StX ClX L2.TL LamX
/-- a def whose code object stands at c -/
structure FunC (K : PySem.W.Frag) (x qual : Str) (st : Stmt) (f : Addr) (fd : FuncData) (c : Addr) : Prop where
  ex : ∃ (oc : Value) (od : Option Addr) (kV doc pm : Value) (an : Option Addr) (ct : Value) (osl : Array (Option Value)),
    fd = PySem.W.fnOf x qual (defArgs st) (defBody st) (defScope st) .none kV doc pm an (.ref c) ct ∧ K.lookup f = some ⟨oc, od, .func fd, osl⟩ ∧ PySem.W.codeIn K (.ref c) qual = true
section
variable {P : Program} {w : World} {K : PySem.W.Frag} {mg : Str → Option Value} {base : Heap}
theorem FunC.okG {x qual : Str} {st : Stmt} {f c : Addr} {fd : FuncData} {N ps : List Str} {k : Nat} {sp : Sp} (F : FunC K x qual st f fd c) (S : FnScope N ps (defScope st)) (len : ∀ vs H Q E, sp vs H Q E → vs.length = ps.length)
    (hbody : ∀ (A : Around) (outer : List Env) (s : Shared) (H : Hp) (vs : List V) (Q : VK) (E : XK), NoGuard (A.deeper (envOfC qual (defScope st) s.heap.objs.size f (.ref c))) → Room k (A.deeper (envOfC qual (defScope st) s.heap.objs.size f (.ref c))) → sp vs H Q E →
      ∃ t, PSs (cxOf CX0 P w K mg base N qual (defScope st) f (.ref c) A outer s H E).nox (defBody st) t ∧ t { nx := fun _ H' => Q .non H', rt := Q } (start N vs) H) : FnG P w K mg base CX0 (k + 1) f fd ps sp := by
  obtain ⟨oc, od, kV, doc, pm, an, ct, osl, rfl, lk, hcd⟩ := F.ex
  refine fnG_of lk hcd S len fun A outer s H vs Q E hG hr hsp => ?_
  obtain ⟨t, h, q⟩ := hbody A outer s H vs Q E hG hr hsp
  exact ⟨t, h.nox, q⟩
end
theorem pe_said {X : Cx} {g c P : Addr} {fd : FuncData} {CR CU CM CS CP CL CSt CLi : Addr} {T : List (Addr × Str)} {k : Nat} {params : Arguments} {body : Expr} {scope : Scope} {t : XK → TE} {p lpos pos : Pos}
    (S : Fun X.K "_law_said" "_law_said" s_law_said g fd) (hb : Binds X.K fd ["call"] []) (W : SayF X.K X.mg CR CU CM CS CP CL CSt CLi) (m : X.mg "_law_said" = some (.ref g)) (hg : Gl X "_law_said")
    (TB : TabB X.base X.mg c P) (hcode : X.env.code = .ref c) (hmT : (P, X.env.qual ++ "<lambda>") ∈ T) (hu : ∀ p ∈ T, p.1 = P → p.2 = X.env.qual ++ "<lambda>") (hr : Room (k + 4) X.A) (L : LamS X.env.scope scope) (hdef : defaultsOf params X.env = ([], []))
    (hbind : ∀ (q : Str) (cl : List (Str × Addr)) (pm cv ctv : Value), bindArgs (PySem.W.kla_fn "<lambda>" q params body scope cl pm cv ctv) ⟨[], []⟩ = pure [])
    (hbody : ∀ (A : Around) (outer : List Env) (s : Shared) (H : Hp) (E : XK) (f c' : Addr), Room (k + 2) (A.deeper (lamEnv X scope s.heap.objs.size f c')) → PE (lamCx X A outer s H E scope f c') body (t E)) :
    PE X (.Call (.Name "_law_said" p) [.Lambda params body scope lpos] [] pos) (tLam T (TSaid X.K CR CU CM CS CP CL CSt CLi) t) := by
  obtain ⟨oc, od, kV, doc, pm, an, cdv, ct, osl, rfl, lk, hcg⟩ := S.ex
  exact pe_lamcallS hg m S.kp lk hcg hb sc_said rfl (.inl rfl) (said_gives W) TB hcode hmT hu hr L hdef hbind hbody
def rv3 {α : Type} : List α → List α
  | [a, b, c] => [c, b, a]
  | l => l
theorem rv3_vals {zs : List V} {ws : List Value} (hl : zs.length = 3) (r : Vals zs ws) : Vals (rv3 zs) (rv3 ws) := by
  match zs, ws, hl, r with
  | [_, _, _], [_, _, _], _, .cons r1 (.cons r2 (.cons r3 .nil)) => exact .cons r3 (.cons r2 (.cons r1 .nil))
/-- a def of the program that may raise, by place and by name -/
structure UseKX (P : Program) (w : World) (K : PySem.W.Frag) (mg : Str → Option Value) (base : Heap) (k : Nat) (x : Str) (f : Addr) (fd : FuncData) (ps ks : List Str) (gg : List Value → List Value) (sp : Sp) : Prop extends UseX P w K mg base k x f fd ps sp where
  kb : ∀ (s : Shared) (ws : List Value), K.In s.heap → ws.length = ks.length → BindsTo s fd ⟨[], ks.zip ws⟩ (ps.zip (gg ws))
/-- data of a size that may be shown -/
structure Fine (d : PyData) : Prop where
  lv : d.leavesShort 60 = true
  wt : d.weight ≤ 300
  dp : d.depth ≤ 12
theorem fit_of {d : PyData} (h : d.leavesShort 60 = true) (hw : d.weight ≤ 20000) : d.shown.length ≤ sizeLine := by
  have q := PyData.shown_le 60 (by decide) d h
  rw [sizeLine_eq]
  omega
theorem fine_all : ∀ {ds : List PyData}, (∀ d ∈ ds, Fine d) → PyData.leavesShortAll 60 ds = true ∧ PyData.weightAll ds ≤ 301 * ds.length ∧ PyData.depthAll ds ≤ 12
  | [], _ => ⟨by simp [PyData.leavesShortAll], by simp [PyData.weightAll], by simp [PyData.depthAll]⟩
  | d :: ds, h => by
    obtain ⟨h1, h2, h3⟩ := fine_all (ds := ds) fun x hx => h x (List.mem_cons_of_mem _ hx)
    have hd := h d (by simp)
    refine ⟨?_, ?_, ?_⟩
    · simp only [PyData.leavesShortAll, hd.lv, h1, Bool.and_self]
    · have := hd.wt
      simp only [PyData.weightAll, List.length_cons]
      omega
    · have := hd.dp
      simp only [PyData.depthAll]
      omega
theorem fit_list {ds : List PyData} (h : ∀ d ∈ ds, Fine d) (hl : ds.length ≤ 60) : (listText (PyData.shownAll ds)).length ≤ sizeLine ∧ PyData.depthAll ds ≤ 20 := by
  obtain ⟨h1, h2, h3⟩ := fine_all h
  have q := fit_of (d := .list ds) (by simpa only [PyData.leavesShort] using h1) (by simp only [PyData.weight]; omega)
  exact ⟨by simpa only [PyData.shown] using q, by omega⟩
/-- a word -/
structure Word (x : Str) : Prop where
  ok : (PyData.str x).canLay0 = true
  lv : (PyData.str x).leavesShort 60 = true
  wt : (PyData.str x).weight ≤ 20
theorem wd_word : ∀ i, Word (wd i)
  | 0 => ⟨by decide +kernel, by decide +kernel, by decide +kernel⟩
  | 1 => ⟨by decide +kernel, by decide +kernel, by decide +kernel⟩
  | _ + 2 => ⟨by show (PyData.str "length").canLay0 = true; decide +kernel, by show (PyData.str "length").leavesShort 60 = true; decide +kernel, by show (PyData.str "length").weight ≤ 20; decide +kernel⟩
theorem Word.sk {K : PySem.W.Frag} {H : Hp} {x : Str} (w : Word x) : SK K H (.str x) (.str x) := SK.dp (.str x) w.ok rfl (fit_of w.lv (by have := w.wt; omega))
/-- what is shown behind a word -/
structure Small (d : PyData) : Prop where
  lv : d.leavesShort 60 = true
  wt : d.weight ≤ 200
  dp : d.depth ≤ 10
theorem Small.pair {x : Str} {d : PyData} (w : Word x) (s : Small d) : Fine (.tuple [.str x, d]) := by
  have h1 := w.lv
  have h2 := w.wt
  have h3 := s.lv
  have h4 := s.wt
  have h5 := s.dp
  refine ⟨?_, ?_, ?_⟩
  · show (PyData.leavesShort 60 (.str x) && (PyData.leavesShort 60 d && true)) = true
    rw [h1, h3]
    rfl
  · show PyData.weight (.str x) + 1 + (PyData.weight d + 1 + 0) ≤ 300
    omega
  · show max (PyData.depth (.str x)) (max (PyData.depth d) 0) + 1 ≤ 12
    have : PyData.depth (.str x) = 0 := rfl
    omega
theorem pair_sk {K : PySem.W.Frag} {H : Hp} {p : Addr} {x : Str} {v : V} {d : PyData} (w : Word x) (s : Small d) (hp : H p = some (.tup [.str x, v])) (h : SK K H v d) : SK K H (.ref p) (.tuple [.str x, d]) := by
  have f := s.pair w
  refine SK.tup (SqT.of hp) (.cons w.sk (.cons h .nil)) ?_
  have q := fit_of f.lv (by have := f.wt; omega)
  simpa only [PyData.shown] using q
theorem OddV.sk {K : PySem.W.Frag} {dr : Addr} {H H' : Hp} {v : V} {d : PyData} (o : OddV K dr H v d) (e : ExtN H H') : SK K H' v d := by
  have f := fit_of o.lv (by have := o.wt; omega)
  rcases o.is H' (Kp.ex e) with ⟨h, c⟩ | h
  · exact SK.dp h c o.sh f
  · exact SK.fd h o.sh f
theorem OddV.small {K : PySem.W.Frag} {dr : Addr} {H : Hp} {v : V} {d : PyData} (o : OddV K dr H v d) : Small d := ⟨o.lv, o.wt, o.dp⟩
/-- what stands behind a word -/
def Itm (K : PySem.W.Frag) (H0 H : Hp) (v : V) (d : PyData) : Prop := (∀ H', ExtN H0 H' → SK K H' v d) ∨ ∃ (q : Addr) (a : Nat), v = .ref q ∧ d = .tuple [di a, di a] ∧ a ≤ 1000 ∧ H q = some (.tup [iv a, iv a])
theorem Itm.sk {K : PySem.W.Frag} {H0 H : Hp} {v : V} {d : PyData} (m : Itm K H0 H v d) (e : ExtN H0 H) : SK K H v d := by
  rcases m with m | ⟨q, a, rfl, rfl, ha, h⟩
  · exact m H e
  · obtain ⟨i1, i2, i3, i4⟩ := int_show (i := (a : Int)) (by omega) (by omega)
    have f : SK K H (iv a) (di a) := SK.dp (.int _) rfl i1 (fit_of (leaf_int (by
      have : (a : Int).natAbs ≤ 1000 := by omega
      have e : (10 : Nat) ^ 41 = 100000000000000000000000000000000000000000 := by decide
      omega)) (by have : (di a).weight ≤ 10 := i3; omega))
    refine SK.tup (SqT.of h) (.cons f (.cons f .nil)) ?_
    have lf : (di a).leavesShort 60 = true := leaf_int (by
      have : (a : Int).natAbs ≤ 1000 := by omega
      have e : (10 : Nat) ^ 41 = 100000000000000000000000000000000000000000 := by decide
      omega)
    have w : (di a).weight ≤ 10 := i3
    have q := fit_of (d := .tuple [di a, di a]) (by show ((di a).leavesShort 60 && ((di a).leavesShort 60 && true)) = true; rw [lf]; rfl) (by show (di a).weight + 1 + ((di a).weight + 1 + 0) ≤ 20000; omega)
    simpa only [PyData.shown] using q
theorem Itm.mv {K : PySem.W.Frag} {H0 H H' : Hp} {v : V} {d : PyData} {tl : Addr} (m : Itm K H0 H v d) {xs : List V} (hl : H tl = some (.lst xs)) (e : Kp tl H H') : Itm K H0 H' v d := by
  rcases m with m | ⟨q, a, e1, e2, ha, h⟩
  · exact .inl m
  · exact .inr ⟨q, a, e1, e2, ha, e _ _ h (ne_of h hl (by intro z; cases z)) (fun _ z => by cases z)⟩
theorem small_two {a : Nat} (ha : a ≤ 1000) : Small (.tuple [di a, di a]) := by
  obtain ⟨i1, i2, i3, i4⟩ := int_show (i := (a : Int)) (by omega) (by omega)
  have lf : (di a).leavesShort 60 = true := leaf_int (by
    have : (a : Int).natAbs ≤ 1000 := by omega
    have e : (10 : Nat) ^ 41 = 100000000000000000000000000000000000000000 := by decide
    omega)
  have w : (di a).weight ≤ 10 := i3
  refine ⟨by show ((di a).leavesShort 60 && ((di a).leavesShort 60 && true)) = true; rw [lf]; rfl, by show (di a).weight + 1 + ((di a).weight + 1 + 0) ≤ 200; omega, ?_⟩
  show max (di a).depth (max (di a).depth 0) + 1 ≤ 10
  have : (di a).depth = 0 := i4
  omega
/-- what was told so far -/
structure Told (K : PySem.W.Frag) (T : List (Addr × Str)) (H0 H : Hp) (tl : Addr) (its : List Addr) (ps : List (Nat × V × PyData)) : Prop where
  ext : ExtN H0 H
  tabs : Tabs T H
  nw : H0 tl = none
  tl : H tl = some (.lst (its.map V.ref))
  it : Paired (fun p (q : Nat × V × PyData) => H p = some (.tup [.str (wd q.1), q.2.1]) ∧ Small q.2.2 ∧ Itm K H0 H q.2.1 q.2.2) its ps
theorem pair_imp {α β : Type} {R R' : α → β → Prop} : ∀ {l : List α} {m : List β}, Paired R l m → (∀ a b, R a b → R' a b) → Paired R' l m
  | _, _, .nil, _ => .nil
  | _, _, .cons h t, f => .cons (f _ _ h) (pair_imp t f)
theorem pair_app {α β : Type} {R : α → β → Prop} : ∀ {l l2 : List α} {m m2 : List β}, Paired R l m → Paired R l2 m2 → Paired R (l ++ l2) (m ++ m2)
  | _, _, _, _, .nil, h => h
  | _, _, _, _, .cons h t, h2 => .cons h (pair_app t h2)
theorem pair_map {α β γ δ : Type} {R : γ → δ → Prop} {f : α → γ} {g : β → δ} : ∀ {l : List α} {m : List β}, Paired (fun a b => R (f a) (g b)) l m → Paired R (l.map f) (m.map g)
  | _, _, .nil => .nil
  | _, _, .cons h t => .cons h (pair_map t)
theorem tabs_put {T : List (Addr × Str)} {H : Hp} {tl : Addr} {xs ys : List V} (t : Tabs T H) (hl : H tl = some (.lst xs)) : Tabs T (upd H tl (.lst ys)) := fun p hp => by
  obtain ⟨ps, h1, h2, h3⟩ := t p hp
  refine ⟨ps, by rw [upd_ne (ne_of h1 hl (by intro z; cases z))]; exact h1, h2, fun pos cv hc => ?_⟩
  obtain ⟨c, e1, e2⟩ := h3 pos cv hc
  exact ⟨c, e1, by rw [upd_ne (ne_of e2 hl (by intro z; unfold CodeO at z; cases z))]; exact e2⟩
theorem extN_put {H0 H : Hp} {tl : Addr} {o : HO} (e : ExtN H0 H) (n : H0 tl = none) : ExtN H0 (upd H tl o) := fun b u h t => by
  rw [upd_ne (ne_of_none h n)]
  exact e b u h t
/-- another heap: the told stands -/
theorem Told.mv {K : PySem.W.Frag} {T : List (Addr × Str)} {H0 H H' : Hp} {tl : Addr} {its : List Addr} {ps : List (Nat × V × PyData)} (t : Told K T H0 H tl its ps) (e : ExtN H H') (h : Tabs T H') : Told K T H0 H' tl its ps :=
  ⟨t.ext.trans e, h, t.nw, e _ _ t.tl (fun _ z => by cases z), pair_imp t.it fun a b q => ⟨e _ _ q.1 (fun _ z => by cases z), q.2.1, q.2.2.mv t.tl (Kp.ex e)⟩⟩
/-- one more -/
theorem Told.add {K : PySem.W.Frag} {T : List (Addr × Str)} {H0 H : Hp} {tl p : Addr} {its : List Addr} {ps : List (Nat × V × PyData)} (t : Told K T H0 H tl its ps) {i : Nat} {v : V} {d : PyData} (hp : H p = some (.tup [.str (wd i), v])) (sm : Small d) (im : Itm K H0 H v d) :
    Told K T H0 (upd H tl (.lst (its.map V.ref ++ [V.ref p]))) tl (its ++ [p]) (ps ++ [(i, v, d)]) := by
  have k : Kp tl H (upd H tl (.lst (its.map V.ref ++ [V.ref p]))) := fun b o e n _ => by rw [upd_ne n]; exact e
  have q : ∀ {b : Addr} {xs : List V}, H b = some (.tup xs) → upd H tl (.lst (its.map V.ref ++ [V.ref p])) b = some (.tup xs) := fun {b xs} e => by
    rw [upd_ne (ne_of e t.tl (by intro z; cases z))]
    exact e
  refine ⟨extN_put t.ext t.nw, tabs_put t.tabs t.tl, t.nw, by rw [upd_same, List.map_append]; rfl, pair_app (pair_imp t.it fun a b z => ⟨q z.1, z.2.1, z.2.2.mv t.tl k⟩) (.cons ⟨q hp, sm, im.mv t.tl k⟩ .nil)⟩
theorem Told.sks {K : PySem.W.Frag} {T : List (Addr × Str)} {H0 H : Hp} {tl : Addr} {its : List Addr} {ps : List (Nat × V × PyData)} (t : Told K T H0 H tl its ps) : Paired (SK K H) (its.map V.ref) (ps.map fun q => .tuple [.str (wd q.1), q.2.2]) :=
  pair_map (pair_imp t.it fun p q z => pair_sk (wd_word q.1) z.2.1 z.1 (z.2.2.sk t.ext))
theorem rail_ex {C : Addr} {H H' : Hp} {r : Addr} {tr : List E2} (R : RailAt C H r tr) (k : ExtN H H') : RailAt C H' r tr := by
  obtain ⟨T, few, dx, tt, na, A, L, ps, ts, h1, h2, h3, h4, h5, h6, h7, h8⟩ := R
  refine ⟨T, few, dx, tt, na, A, L, ps, ts, k _ _ h1 (fun _ z => by cases z), k _ _ h2 (fun _ z => by cases z), ⟨h3.1, fun i p e a b => k _ _ (h3.2 i p e a b) (fun _ z => by cases z)⟩, k _ _ h4 (fun _ z => by cases z), h5, fun v t h => k _ _ (h6 v t h) (fun _ z => by cases z), k _ _ h7 (fun _ z => by cases z), k _ _ h8 (fun _ z => by cases z)⟩
end TR

namespace TR
open PySem PySem.Spec PyProof.Rows L2 L2.TT StX ClX L2.TL LamX
abbrev NPr : List Str := ["road", "spot", "odd", "far", "told", "due"]
theorem sc_prs : FnScope NPr ["road", "spot", "odd", "far"] (defScope s_law_pairs_right) := ⟨rfl, rfl, rfl, by decide +kernel, rfl, by decide +kernel, by decide +kernel⟩
abbrev qPr : Str := "_law_pairs_right.<locals>.<lambda>"
/-- the classes of errors that may be told -/
structure SCs (K : PySem.W.Frag) (CR CU CM CS CP CL CSt CLi : Addr) : Prop where
  s : SCls K CR CU CM CS CP CL CSt CLi CS 0
  p : SCls K CR CU CM CS CP CL CSt CLi CP 1
  l : SCls K CR CU CM CS CP CL CSt CLi CL 2
section
variable {P : Program} {w : World} {K : PySem.W.Frag} {mg : Str → Option Value} {base : Heap}
def spPrs (C dr : Addr) (K : PySem.W.Frag) (T : List (Addr × Str)) : Sp := fun vs H Q _ => ∃ (r : Addr) (tr : List E2) (a : Nat) (o fv : V) (d : PyData), vs = [.ref r, iv a, o, fv] ∧ RailAt C H r tr ∧ a ≤ tr.length ∧ Tabs T H ∧ OddV K dr H o d ∧ (∀ H', Kp dr H H' → BadS K H' tr.length o) ∧
  ∀ H', ExtN H H' → Tabs T H' → Q (.bl true) H'
theorem ok_prs {f c Pt g fB fD C CR CU CM CS CP CL CSt CLi dr : Addr} {T : List (Addr × Str)} {fd fdg fdB fdD : FuncData} (F : FunC K "_law_pairs_right" "_law_pairs_right" s_law_pairs_right f fd c) (TB : TabB base mg c Pt) (hmT : (Pt, qPr) ∈ T) (hu : ∀ p ∈ T, p.1 = Pt → p.2 = qPr)
    (N : Nm mg) (S : Fun K "_law_said" "_law_said" s_law_said g fdg) (hb : Binds K fdg ["call"] []) (W : SayF K mg CR CU CM CS CP CL CSt CLi) (m : mg "_law_said" = some (.ref g)) (Z : SCs K CR CU CM CS CP CL CSt CLi)
    (UB : UseKX P w K mg base 6 "behind" fB fdB ["railway", "station", "seen_from"] ["seen_from", "station", "railway"] rv3 (spLBX C CS CP K)) (UD : UseKX P w K mg base 6 "depth_behind" fD fdD ["railway", "station", "seen_from"] ["seen_from", "station", "railway"] rv3 (spLBX C CS CP K)) :
    FnG P w K mg base CX0 11 f fd ["road", "spot", "odd", "far"] (spPrs C dr K T) := by
  refine FunC.okG F sc_prs (fun vs H Q E h => ?_) (fun A outer s H vs Q E hG hr h => ?_)
  · obtain ⟨r, tr, a, o, fv, d, rfl, _⟩ := h
    rfl
  · obtain ⟨r, tr, a, o, fv, d, rfl, R, ha, hT, od, bd, k⟩ := h
    have hu64 : (A.deeper (envOfC "_law_pairs_right" (defScope s_law_pairs_right) s.heap.objs.size f (.ref c))).units + 64 < cLine := hr.units
    refine ⟨_, pss_cons (ps_set (i := 4) sc_prs.nd rfl (.inl rfl) (pe_lst (pa_cons (pe_said (k := 6) S hb W m (by rfl) TB rfl hmT hu hr (lamS_by (sc := defScope s_law_pairs_right) (by decide +kernel)) rfl (fun _ _ _ _ _ => rfl) (fun A outer s H E f c' hr2 => pe_call UB.G (hr2.mono (by decide)) (by rfl) UB.m UB.kp UB.b .nil (passes_call (takes_of rfl rfl rfl rfl) (fun _ _ _ _ h => h)) (pa_cons (pv 0) (pa_cons (pv 2) (pa_cons (pv 3) pa_nil))))) pa_nil)))
      (pss_cons (ps_expr (pe_bm PySem.F.plainAttrs_list PySem.F.slot_list_append PySem.F.type_list_append mt_append (pv 4) (pa_cons (pe_said (k := 6) S hb W m (by rfl) TB rfl hmT hu hr (lamS_by (sc := defScope s_law_pairs_right) (by decide +kernel)) rfl (fun _ _ _ _ _ => rfl) (fun A outer s H E f c' hr2 => pe_call UB.G (hr2.mono (by decide)) (by rfl) UB.m UB.kp UB.b .nil (passes_call (takes_of rfl rfl rfl rfl) (fun _ _ _ _ h => h)) (pa_cons (pv 0) (pa_cons (pv 2) (pa_cons (pv 1) pa_nil))))) pa_nil)))
      (pss_cons (ps_expr (pe_bm PySem.F.plainAttrs_list PySem.F.slot_list_append PySem.F.type_list_append mt_append (pv 4) (pa_cons (pe_said (k := 6) S hb W m (by rfl) TB rfl hmT hu hr (lamS_by (sc := defScope s_law_pairs_right) (by decide +kernel)) rfl (fun _ _ _ _ _ => rfl) (fun A outer s H E f c' hr2 => pe_callKW0 (hV := rv3) UB.G (hr2.mono (by decide)) UB.kb (fun hl r => rv3_vals hl r) (passes_call (takes_of rfl rfl rfl rfl) (fun _ _ _ _ h => h)) (by rfl) UB.m UB.kp (pk_cons (pv 2) (pk_cons (pv 1) (pk_cons (pv 0) pk_nil))))) pa_nil)))
      (pss_cons (ps_expr (pe_bm PySem.F.plainAttrs_list PySem.F.slot_list_append PySem.F.type_list_append mt_append (pv 4) (pa_cons (pe_said (k := 6) S hb W m (by rfl) TB rfl hmT hu hr (lamS_by (sc := defScope s_law_pairs_right) (by decide +kernel)) rfl (fun _ _ _ _ _ => rfl) (fun A outer s H E f c' hr2 => pe_call UB.G (hr2.mono (by decide)) (by rfl) UB.m UB.kp UB.b .nil (passes_call (takes_of rfl rfl rfl rfl) (fun _ _ _ _ h => h)) (pa_cons (pv 0) (pa_cons (pv 1) (pa_cons (pv 1) pa_nil))))) pa_nil)))
      (pss_cons (ps_expr (pe_bm PySem.F.plainAttrs_list PySem.F.slot_list_append PySem.F.type_list_append mt_append (pv 4) (pa_cons (pe_said (k := 6) S hb W m (by rfl) TB rfl hmT hu hr (lamS_by (sc := defScope s_law_pairs_right) (by decide +kernel)) rfl (fun _ _ _ _ _ => rfl) (fun A outer s H E f c' hr2 => pe_call UD.G (hr2.mono (by decide)) (by rfl) UD.m UD.kp UD.b .nil (passes_call (takes_of rfl rfl rfl rfl) (fun _ _ _ _ h => h)) (pa_cons (pv 0) (pa_cons (pv 2) (pa_cons (pv 3) pa_nil))))) pa_nil)))
      (pss_cons (ps_expr (pe_bm PySem.F.plainAttrs_list PySem.F.slot_list_append PySem.F.type_list_append mt_append (pv 4) (pa_cons (pe_said (k := 6) S hb W m (by rfl) TB rfl hmT hu hr (lamS_by (sc := defScope s_law_pairs_right) (by decide +kernel)) rfl (fun _ _ _ _ _ => rfl) (fun A outer s H E f c' hr2 => pe_call UD.G (hr2.mono (by decide)) (by rfl) UD.m UD.kp UD.b .nil (passes_call (takes_of rfl rfl rfl rfl) (fun _ _ _ _ h => h)) (pa_cons (pv 0) (pa_cons (pv 2) (pa_cons (pv 1) pa_nil))))) pa_nil)))
      (pss_cons (ps_expr (pe_bm PySem.F.plainAttrs_list PySem.F.slot_list_append PySem.F.type_list_append mt_append (pv 4) (pa_cons (pe_said (k := 6) S hb W m (by rfl) TB rfl hmT hu hr (lamS_by (sc := defScope s_law_pairs_right) (by decide +kernel)) rfl (fun _ _ _ _ _ => rfl) (fun A outer s H E f c' hr2 => pe_call UD.G (hr2.mono (by decide)) (by rfl) UD.m UD.kp UD.b .nil (passes_call (takes_of rfl rfl rfl rfl) (fun _ _ _ _ h => h)) (pa_cons (pv 0) (pa_cons (pv 1) (pa_cons (pv 2) pa_nil))))) pa_nil)))
      (pss_cons (ps_expr (pe_bm PySem.F.plainAttrs_list PySem.F.slot_list_append PySem.F.type_list_append mt_append (pv 4) (pa_cons (pe_said (k := 6) S hb W m (by rfl) TB rfl hmT hu hr (lamS_by (sc := defScope s_law_pairs_right) (by decide +kernel)) rfl (fun _ _ _ _ _ => rfl) (fun A outer s H E f c' hr2 => pe_callKW0 (hV := rv3) UD.G (hr2.mono (by decide)) UD.kb (fun hl r => rv3_vals hl r) (passes_call (takes_of rfl rfl rfl rfl) (fun _ _ _ _ h => h)) (by rfl) UD.m UD.kp (pk_cons (pv 1) (pk_cons (pv 1) (pk_cons (pv 0) pk_nil))))) pa_nil)))
      (pss_cons (ps_set (i := 5) sc_prs.nd rfl (.inl rfl) (pe_op op_cat (pe_op op_rep (pe_lst (pa_cons (pe_tup (pa_cons pe_str (pa_cons (pv 2) pa_nil))) pa_nil)) pe_int) (pe_lst (pa_cons (pe_tup (pa_cons pe_str (pa_cons (pe_tup (pa_cons (pv 1) (pa_cons (pv 1) pa_nil))) pa_nil))) pa_nil))))
      (pss_one (ps_ret (pe_cmpR op_eq (pe_callB (call_reprS hG hu64) (by rfl) N.repr PyProof.Rows.boot_repr (pa_cons (pv 4) pa_nil)) (pe_callB (call_reprS hG hu64) (by rfl) N.repr PyProof.Rows.boot_repr (pa_cons (pe_op op_cat (pv 5) (pv 5)) pa_nil)) (nomark _)))))))))))), ?_⟩
    have one : (1 : Nat) ≤ sizeLine := by rw [sizeLine_eq]; decide
    have two : (2 : Nat) ≤ sizeLine := by rw [sizeLine_eq]; decide
    have ha9 : a ≤ 1000 := by have := R.few; omega
    refine ⟨hT, fun H1 eN T1 E' Q' hE hQ => ?_⟩
    have e0 : ExtN H H1 := eN
    have R1 := rail_ex R e0
    have bd1 := bd H1 (Kp.ex e0)
    refine ⟨_, rfl, _, rfl, _, rfl, r, tr, _, _, rfl, R1, .inl ⟨bd1, fun dd hd => hE CS dd 0 o _ (by decide) Z.s upd_same (fun tt H2 s2 nt ht => ?_)⟩⟩
    have sH := (same_upd hd (.xd [("value", o)])).trans s2
    have T2 := T1.ext sH
    have e2 : ExtN H H2 := e0.trans (ExtN.of sH)
    have od := od.keep (Kp.ex e2)
    have R := rail_ex R e2
    have bd : ∀ H', Kp dr H2 H' → BadS K H' tr.length o := fun H' z => bd H' ((Kp.ex e2).trans z)
    have k : ∀ H', ExtN H2 H' → Tabs T H' → Q (.bl true) H' := fun H' e t => k H' (e2.trans e) t
    have oi : ∀ H3, Itm K H2 H3 o d := fun H3 => .inl fun H' e => od.sk e
    refine ⟨one, fun tl ntl => ?_⟩
    have sL := same_upd ntl (.lst [V.ref tt])
    have t1 : Told K T H2 (upd H2 tl (.lst [V.ref tt])) tl [tt] [(0, o, d)] := ⟨ExtN.of sL, T2.ext sL, ntl, upd_same, .cons ⟨sL _ _ ht, od.small, oi _⟩ .nil⟩
    generalize upd H2 tl (.lst [V.ref tt]) = G1 at t1
    refine ⟨_, rfl, .inl ⟨rfl, _, SqL.of t1.tl⟩, t1.tabs, fun H1 eN T1 E' Q' hE hQ => ?_⟩
    have e0 := t1.ext.trans eN
    have R1 := rail_ex R e0
    have bd1 := bd H1 (Kp.ex e0)
    refine ⟨_, rfl, _, rfl, _, rfl, r, tr, _, _, rfl, R1, .inl ⟨bd1, fun dd hd => hE CS dd 0 o _ (by decide) Z.s upd_same (fun tt H2 s2 nt ht => ?_)⟩⟩
    have sH := (same_upd hd (.xd [("value", o)])).trans s2
    have T2 := T1.ext sH
    have t1a := (t1.mv eN T1).mv (ExtN.of sH) T2
    refine ⟨tl, _, _, rfl, rfl, t1a.tl, by rw [sizeLine_eq]; show 1 < _; decide, ?_⟩
    have t2 := t1a.add ht od.small (oi H2)
    generalize upd H2 tl _ = G2 at t2 ⊢
    clear t1a t1
    refine ⟨_, rfl, .inl ⟨rfl, _, SqL.of t2.tl⟩, t2.tabs, fun H1 eN T1 E' Q' hE hQ => ?_⟩
    have e0 := t2.ext.trans eN
    have R1 := rail_ex R e0
    have bd1 := bd H1 (Kp.ex e0)
    refine ⟨_, rfl, _, rfl, _, rfl, rfl, r, tr, _, _, rfl, R1, .inr (.inl ⟨a, rfl, ha, bd1, fun dd hd => hE CS dd 0 o _ (by decide) Z.s upd_same (fun tt H2 s2 nt ht => ?_)⟩)⟩
    have sH := (same_upd hd (.xd [("value", o)])).trans s2
    have T2 := T1.ext sH
    have t2a := (t2.mv eN T1).mv (ExtN.of sH) T2
    refine ⟨tl, _, _, rfl, rfl, t2a.tl, by rw [sizeLine_eq]; show 2 < _; decide, ?_⟩
    have t3 := t2a.add ht od.small (oi H2)
    generalize upd H2 tl _ = G3 at t3 ⊢
    clear t2a t2
    refine ⟨_, rfl, .inl ⟨rfl, _, SqL.of t3.tl⟩, t3.tabs, fun H1 eN T1 E' Q' hE hQ => ?_⟩
    have e0 := t3.ext.trans eN
    have R1 := rail_ex R e0
    have bd1 := bd H1 (Kp.ex e0)
    refine ⟨_, rfl, _, rfl, _, rfl, r, tr, _, _, rfl, R1, .inr (.inr ⟨a, rfl, rfl, ha, fun q Hq dd sq nq hq hd => hE CP dd 1 (.ref q) _ (by decide) Z.p upd_same (fun tt H2 s2 nt ht => ?_)⟩)⟩
    have sH := (sq.trans (same_upd hd (.xd [("value", V.ref q)]))).trans s2
    have hq2 := s2 _ _ (same_upd hd (.xd [("value", V.ref q)]) _ _ hq)
    have T2 := T1.ext sH
    have t3a := (t3.mv eN T1).mv (ExtN.of sH) T2
    refine ⟨tl, _, _, rfl, rfl, t3a.tl, by rw [sizeLine_eq]; show 3 < _; decide, ?_⟩
    have t4 := t3a.add ht (small_two ha9) (.inr ⟨q, a, rfl, rfl, ha9, hq2⟩)
    generalize upd H2 tl _ = G4 at t4 ⊢
    clear t3a t3
    refine ⟨_, rfl, .inl ⟨rfl, _, SqL.of t4.tl⟩, t4.tabs, fun H1 eN T1 E' Q' hE hQ => ?_⟩
    have e0 := t4.ext.trans eN
    have R1 := rail_ex R e0
    have bd1 := bd H1 (Kp.ex e0)
    refine ⟨_, rfl, _, rfl, _, rfl, r, tr, _, _, rfl, R1, .inl ⟨bd1, fun dd hd => hE CS dd 0 o _ (by decide) Z.s upd_same (fun tt H2 s2 nt ht => ?_)⟩⟩
    have sH := (same_upd hd (.xd [("value", o)])).trans s2
    have T2 := T1.ext sH
    have t4a := (t4.mv eN T1).mv (ExtN.of sH) T2
    refine ⟨tl, _, _, rfl, rfl, t4a.tl, by rw [sizeLine_eq]; show 4 < _; decide, ?_⟩
    have t5 := t4a.add ht od.small (oi H2)
    generalize upd H2 tl _ = G5 at t5 ⊢
    clear t4a t4
    refine ⟨_, rfl, .inl ⟨rfl, _, SqL.of t5.tl⟩, t5.tabs, fun H1 eN T1 E' Q' hE hQ => ?_⟩
    have e0 := t5.ext.trans eN
    have R1 := rail_ex R e0
    have bd1 := bd H1 (Kp.ex e0)
    refine ⟨_, rfl, _, rfl, _, rfl, r, tr, _, _, rfl, R1, .inl ⟨bd1, fun dd hd => hE CS dd 0 o _ (by decide) Z.s upd_same (fun tt H2 s2 nt ht => ?_)⟩⟩
    have sH := (same_upd hd (.xd [("value", o)])).trans s2
    have T2 := T1.ext sH
    have t5a := (t5.mv eN T1).mv (ExtN.of sH) T2
    refine ⟨tl, _, _, rfl, rfl, t5a.tl, by rw [sizeLine_eq]; show 5 < _; decide, ?_⟩
    have t6 := t5a.add ht od.small (oi H2)
    generalize upd H2 tl _ = G6 at t6 ⊢
    clear t5a t5
    refine ⟨_, rfl, .inl ⟨rfl, _, SqL.of t6.tl⟩, t6.tabs, fun H1 eN T1 E' Q' hE hQ => ?_⟩
    have e0 := t6.ext.trans eN
    have R1 := rail_ex R e0
    have bd1 := bd H1 (Kp.ex e0)
    refine ⟨_, rfl, _, rfl, _, rfl, r, tr, _, _, rfl, R1, .inr (.inl ⟨a, rfl, ha, bd1, fun dd hd => hE CS dd 0 o _ (by decide) Z.s upd_same (fun tt H2 s2 nt ht => ?_)⟩)⟩
    have sH := (same_upd hd (.xd [("value", o)])).trans s2
    have T2 := T1.ext sH
    have t6a := (t6.mv eN T1).mv (ExtN.of sH) T2
    refine ⟨tl, _, _, rfl, rfl, t6a.tl, by rw [sizeLine_eq]; show 6 < _; decide, ?_⟩
    have t7 := t6a.add ht od.small (oi H2)
    generalize upd H2 tl _ = G7 at t7 ⊢
    clear t6a t6
    refine ⟨_, rfl, .inl ⟨rfl, _, SqL.of t7.tl⟩, t7.tabs, fun H1 eN T1 E' Q' hE hQ => ?_⟩
    have e0 := t7.ext.trans eN
    have R1 := rail_ex R e0
    have bd1 := bd H1 (Kp.ex e0)
    refine ⟨_, rfl, _, rfl, _, rfl, rfl, r, tr, _, _, rfl, R1, .inr (.inr ⟨a, rfl, rfl, ha, fun q Hq dd sq nq hq hd => hE CP dd 1 (.ref q) _ (by decide) Z.p upd_same (fun tt H2 s2 nt ht => ?_)⟩)⟩
    have sH := (sq.trans (same_upd hd (.xd [("value", V.ref q)]))).trans s2
    have hq2 := s2 _ _ (same_upd hd (.xd [("value", V.ref q)]) _ _ hq)
    have T2 := T1.ext sH
    have t7a := (t7.mv eN T1).mv (ExtN.of sH) T2
    refine ⟨tl, _, _, rfl, rfl, t7a.tl, by rw [sizeLine_eq]; show 7 < _; decide, ?_⟩
    have t8 := t7a.add ht (small_two ha9) (.inr ⟨q, a, rfl, rfl, ha9, hq2⟩)
    generalize upd H2 tl _ = G8 at t8 ⊢
    clear t7a t7
    -- the due
    refine ⟨_, rfl, two, fun p1 n1 => ?_⟩
    have s1 := same_upd n1 (.tup [V.str "station", o])
    have h1 := upd_same (H := G8) (a := p1) (o := .tup [V.str "station", o])
    generalize upd G8 p1 (.tup [V.str "station", o]) = J1 at s1 h1
    refine ⟨one, fun p2 n2 => ?_⟩
    have s2 := same_upd n2 (.lst [V.ref p1])
    have h2 := upd_same (H := J1) (a := p2) (o := .lst [V.ref p1])
    generalize upd J1 p2 (.lst [V.ref p1]) = J2 at s2 h2
    refine ⟨p2, _, _, rfl, rfl, h2, by decide, by decide, by rw [sizeLine_eq]; show 3 ≤ _; decide, fun p3 n3 => ?_⟩
    have s3 := same_upd n3 (.lst (List.replicate (3 : Int).toNat [V.ref p1]).flatten)
    have h3 : upd J2 p3 (.lst (List.replicate (3 : Int).toNat [V.ref p1]).flatten) p3 = some (.lst [V.ref p1, V.ref p1, V.ref p1]) := upd_same
    generalize upd J2 p3 (.lst (List.replicate (3 : Int).toNat [V.ref p1]).flatten) = J3 at s3 h3
    refine ⟨_, rfl, _, rfl, two, fun p4 n4 => ?_⟩
    have s4 := same_upd n4 (.tup [iv a, iv a])
    have h4 := upd_same (H := J3) (a := p4) (o := .tup [iv a, iv a])
    generalize upd J3 p4 (.tup [iv a, iv a]) = J4 at s4 h4
    refine ⟨two, fun p5 n5 => ?_⟩
    have s5 := same_upd n5 (.tup [V.str "pair", V.ref p4])
    have h5 := upd_same (H := J4) (a := p5) (o := .tup [V.str "pair", V.ref p4])
    generalize upd J4 p5 (.tup [V.str "pair", V.ref p4]) = J5 at s5 h5
    refine ⟨one, fun p6 n6 => ?_⟩
    have s6 := same_upd n6 (.lst [V.ref p5])
    have h6 := upd_same (H := J5) (a := p6) (o := .lst [V.ref p5])
    generalize upd J5 p6 (.lst [V.ref p5]) = J6 at s6 h6
    refine ⟨p3, p6, _, _, rfl, rfl, s6 _ _ (s5 _ _ (s4 _ _ h3)), h6, by rw [sizeLine_eq]; show 4 ≤ _; decide, fun p7 n7 => ?_⟩
    have s7 := same_upd n7 (.lst ([V.ref p1, V.ref p1, V.ref p1] ++ [V.ref p5]))
    have h7 := upd_same (H := J6) (a := p7) (o := .lst ([V.ref p1, V.ref p1, V.ref p1] ++ [V.ref p5]))
    generalize upd J6 p7 (.lst ([V.ref p1, V.ref p1, V.ref p1] ++ [V.ref p5])) = J7 at s7 h7
    have sA := (((((s1.trans s2).trans s3).trans s4).trans s5).trans s6).trans s7
    have tA := t8.mv (ExtN.of sA) (t8.tabs.ext sA)
    have hh1 := (((((s2.trans s3).trans s4).trans s5).trans s6).trans s7) _ _ h1
    have hh4 := ((s5.trans s6).trans s7) _ _ h4
    have hh5 := (s6.trans s7) _ _ h5
    have fnS : Fine (.tuple [.str (wd 0), d]) := od.small.pair (wd_word 0)
    have fnP : Fine (.tuple [.str (wd 1), .tuple [di a, di a]]) := (small_two ha9).pair (wd_word 1)
    have fin : ∀ x ∈ ([.tuple [.str (wd 0), d], .tuple [.str (wd 0), d], .tuple [.str (wd 0), d], .tuple [.str (wd 1), .tuple [di a, di a]], .tuple [.str (wd 0), d], .tuple [.str (wd 0), d], .tuple [.str (wd 0), d], .tuple [.str (wd 1), .tuple [di a, di a]]] : List PyData), Fine x := by
      intro x hx
      simp only [List.mem_cons, List.not_mem_nil, or_false] at hx
      rcases hx with rfl | rfl | rfl | rfl | rfl | rfl | rfl | rfl <;> first | exact fnS | exact fnP
    obtain ⟨fl, fdp⟩ := fit_list fin (by show 8 ≤ 60; decide)
    refine ⟨_, rfl, tl, _, _, rfl, SqL.of tA.tl, tA.sks, fl, fdp, ?_⟩
    refine ⟨_, rfl, _, rfl, p7, p7, _, _, rfl, rfl, h7, h7, by rw [sizeLine_eq]; show 8 ≤ _; decide, fun p8 n8 => ?_⟩
    have s8 := same_upd n8 (.lst (([V.ref p1, V.ref p1, V.ref p1] ++ [V.ref p5]) ++ ([V.ref p1, V.ref p1, V.ref p1] ++ [V.ref p5])))
    have tB := tA.mv (ExtN.of s8) (tA.tabs.ext s8)
    have h8 := upd_same (H := J7) (a := p8) (o := .lst (([V.ref p1, V.ref p1, V.ref p1] ++ [V.ref p5]) ++ ([V.ref p1, V.ref p1, V.ref p1] ++ [V.ref p5])))
    have g1 := s8 _ _ hh1
    have g4 := s8 _ _ hh4
    have g5 := s8 _ _ hh5
    generalize upd J7 p8 (.lst (([V.ref p1, V.ref p1, V.ref p1] ++ [V.ref p5]) ++ ([V.ref p1, V.ref p1, V.ref p1] ++ [V.ref p5]))) = J8 at tB h8 g1 g4 g5
    have skS : SK K J8 (.ref p1) (.tuple [.str (wd 0), d]) := pair_sk (wd_word 0) od.small g1 ((oi J8).sk tB.ext)
    have skP : SK K J8 (.ref p5) (.tuple [.str (wd 1), .tuple [di a, di a]]) := pair_sk (wd_word 1) (small_two ha9) g5 (Itm.sk (.inr ⟨p4, a, rfl, rfl, ha9, g4⟩) tB.ext)
    refine ⟨p8, _, _, rfl, SqL.of h8, .cons skS (.cons skS (.cons skS (.cons skP (.cons skS (.cons skS (.cons skS (.cons skP .nil))))))), fl, fdp, rfl, ?_⟩
    refine Eq.mpr (congrArg (fun b => Q (V.bl b) J8) (decide_eq_true ?_)) (k J8 tB.ext tB.tabs)
    rfl
end
end TR

namespace TR
open PySem PySem.Spec PyProof.Rows L2 L2.TT StX ClX L2.TL LamX
/-- the told behind its last item, of any form -/
structure TolX (K : PySem.W.Frag) (T : List (Addr × Str)) (H0 H : Hp) (tl : Addr) (vs : List V) (its : List Addr) (ps : List (Nat × V × PyData)) : Prop where
  ext : ExtN H0 H
  tabs : Tabs T H
  tl : H tl = some (.lst vs)
  it : Paired (fun p (q : Nat × V × PyData) => H p = some (.tup [.str (wd q.1), q.2.1]) ∧ Small q.2.2 ∧ Itm K H0 H q.2.1 q.2.2) its ps
theorem TolX.mv {K : PySem.W.Frag} {T : List (Addr × Str)} {H0 H H' : Hp} {tl : Addr} {vs : List V} {its : List Addr} {ps : List (Nat × V × PyData)} (t : TolX K T H0 H tl vs its ps) (e : ExtN H H') (h : Tabs T H') : TolX K T H0 H' tl vs its ps :=
  ⟨t.ext.trans e, h, e _ _ t.tl (fun _ z => by cases z), pair_imp t.it fun a b q => ⟨e _ _ q.1 (fun _ z => by cases z), q.2.1, q.2.2.mv t.tl (Kp.ex e)⟩⟩
theorem TolX.sks {K : PySem.W.Frag} {T : List (Addr × Str)} {H0 H : Hp} {tl : Addr} {vs : List V} {its : List Addr} {ps : List (Nat × V × PyData)} (t : TolX K T H0 H tl vs its ps) : Paired (SK K H) (its.map V.ref) (ps.map fun q => .tuple [.str (wd q.1), q.2.2]) :=
  pair_map (pair_imp t.it fun p q z => pair_sk (wd_word q.1) z.2.1 z.1 (z.2.2.sk t.ext))
theorem Told.last {K : PySem.W.Frag} {T : List (Addr × Str)} {H0 H : Hp} {tl : Addr} {its : List Addr} {ps : List (Nat × V × PyData)} (t : Told K T H0 H tl its ps) (x : V) : TolX K T H0 (upd H tl (.lst (its.map V.ref ++ [x]))) tl (its.map V.ref ++ [x]) its ps := by
  have k : Kp tl H (upd H tl (.lst (its.map V.ref ++ [x]))) := fun b o e n _ => by rw [upd_ne n]; exact e
  refine ⟨extN_put t.ext t.nw, tabs_put t.tabs t.tl, upd_same, pair_imp t.it fun a b z => ⟨?_, z.2.1, z.2.2.mv t.tl k⟩⟩
  rw [upd_ne (ne_of z.1 t.tl (by intro z; cases z))]
  exact z.1
theorem ret_word : Word (Str.ofString "returned") := ⟨by decide +kernel, by decide +kernel, by decide +kernel⟩
abbrev NLn : List Str := ["road", "spot", "odd", "bad", "told"]
theorem sc_lns : FnScope NLn ["road", "spot", "odd", "bad"] (defScope s_law_lengths_right) := ⟨rfl, rfl, rfl, by decide +kernel, rfl, by decide +kernel, by decide +kernel⟩
abbrev qLn : Str := "_law_lengths_right.<locals>.<lambda>"
structure UseK (P : Program) (w : World) (K : PySem.W.Frag) (mg : Str → Option Value) (base : Heap) (k : Nat) (x : Str) (f : Addr) (fd : FuncData) (ps ks : List Str) (gg : List Value → List Value) (sp : Sp) : Prop extends Use P w K mg base CX0 k x f fd ps sp where
  kb : ∀ (s : Shared) (ws : List Value), K.In s.heap → ws.length = ks.length → BindsTo s fd ⟨[], ks.zip ws⟩ (ps.zip (gg ws))
section
variable {P : Program} {w : World} {K : PySem.W.Frag} {mg : Str → Option Value} {base : Heap}
def spLns (C dr : Addr) (K : PySem.W.Frag) (T : List (Addr × Str)) : Sp := fun vs H Q _ => ∃ (r : Addr) (tr : List E2) (a : Nat) (o b : V) (d d2 : PyData), vs = [.ref r, iv a, o, b] ∧ RailAt C H r tr ∧ a ≤ tr.length ∧ Tabs T H ∧ OddV K dr H o d ∧ (∀ H', Kp dr H H' → BadS K H' tr.length o) ∧ OddV K dr H b d2 ∧ (∀ H', Kp dr H H' → BadL K H' b) ∧
  ∀ H', ExtN H H' → Tabs T H' → Q (.bl true) H'
theorem ok_lns {f c Pt g f1 f2 f3 f4 C CR CU CM CS CP CL CSt CLi dr : Addr} {T : List (Addr × Str)} {fd fdg fd1 fd2 fd3 fd4 : FuncData} (F : FunC K "_law_lengths_right" "_law_lengths_right" s_law_lengths_right f fd c) (TB : TabB base mg c Pt) (hmT : (Pt, qLn) ∈ T) (hu : ∀ p ∈ T, p.1 = Pt → p.2 = qLn)
    (N : Nm mg) (S : Fun K "_law_said" "_law_said" s_law_said g fdg) (hb : Binds K fdg ["call"] []) (W : SayF K mg CR CU CM CS CP CL CSt CLi) (m : mg "_law_said" = some (.ref g)) (Z : SCs K CR CU CM CS CP CL CSt CLi)
    (U1 : UseX P w K mg base 5 "branch_depths" f1 fd1 ["railway", "station"] (spChkX C CS K)) (U2 : UseX P w K mg base 5 "deep_branches" f2 fd2 ["railway", "station", "length"] (spDeepX C CS CL K)) (U3 : UseX P w K mg base 5 "trunk" f3 fd3 ["railway", "length"] (spTrX CL K))
    (U4 : UseKX P w K mg base 5 "pivots" f4 fd4 ["railway", "length"] ["length", "railway"] swp (spTrX CL K)) (U5 : UseK P w K mg base 10 "deep_branches" f2 fd2 ["railway", "station", "length"] ["length", "station", "railway"] rv3 (spDeep C)) :
    FnG P w K mg base CX0 15 f fd ["road", "spot", "odd", "bad"] (spLns C dr K T) := by
  refine FunC.okG F sc_lns (fun vs H Q E h => ?_) (fun A outer s H vs Q E hG hr h => ?_)
  · obtain ⟨r, tr, a, o, b, d, d2, rfl, _⟩ := h
    rfl
  · obtain ⟨r, tr, a, o, b, d, d2, rfl, R, ha, hT, od, bd, ob, bl, k⟩ := h
    have hu64 : (A.deeper (envOfC "_law_lengths_right" (defScope s_law_lengths_right) s.heap.objs.size f (.ref c))).units + 64 < cLine := hr.units
    refine ⟨_, pss_cons (ps_set (i := 4) sc_lns.nd rfl (.inl rfl) (pe_lst (pa_cons (pe_said (k := 10) S hb W m (by rfl) TB rfl hmT hu hr (lamS_by (sc := defScope s_law_lengths_right) (by decide +kernel)) rfl (fun _ _ _ _ _ => rfl) (fun A outer s H E f c' hr2 => pe_call U1.G (hr2.mono (by decide)) (by rfl) U1.m U1.kp U1.b .nil (passes_call (takes_of rfl rfl rfl rfl) (fun _ _ _ _ h => h)) (pa_cons (pv 0) (pa_cons (pv 2) pa_nil)))) pa_nil)))
      (pss_cons (ps_expr (pe_bm PySem.F.plainAttrs_list PySem.F.slot_list_append PySem.F.type_list_append mt_append (pv 4) (pa_cons (pe_said (k := 10) S hb W m (by rfl) TB rfl hmT hu hr (lamS_by (sc := defScope s_law_lengths_right) (by decide +kernel)) rfl (fun _ _ _ _ _ => rfl) (fun A outer s H E f c' hr2 => pe_call U2.G (hr2.mono (by decide)) (by rfl) U2.m U2.kp U2.b .nil (passes_call (takes_of rfl rfl rfl rfl) (fun _ _ _ _ h => h)) (pa_cons (pv 0) (pa_cons (pv 2) (pa_cons (pv 3) pa_nil))))) pa_nil)))
      (pss_cons (ps_expr (pe_bm PySem.F.plainAttrs_list PySem.F.slot_list_append PySem.F.type_list_append mt_append (pv 4) (pa_cons (pe_said (k := 10) S hb W m (by rfl) TB rfl hmT hu hr (lamS_by (sc := defScope s_law_lengths_right) (by decide +kernel)) rfl (fun _ _ _ _ _ => rfl) (fun A outer s H E f c' hr2 => pe_call U2.G (hr2.mono (by decide)) (by rfl) U2.m U2.kp U2.b .nil (passes_call (takes_of rfl rfl rfl rfl) (fun _ _ _ _ h => h)) (pa_cons (pv 0) (pa_cons (pv 2) (pa_cons pe_int pa_nil))))) pa_nil)))
      (pss_cons (ps_expr (pe_bm PySem.F.plainAttrs_list PySem.F.slot_list_append PySem.F.type_list_append mt_append (pv 4) (pa_cons (pe_said (k := 10) S hb W m (by rfl) TB rfl hmT hu hr (lamS_by (sc := defScope s_law_lengths_right) (by decide +kernel)) rfl (fun _ _ _ _ _ => rfl) (fun A outer s H E f c' hr2 => pe_call U2.G (hr2.mono (by decide)) (by rfl) U2.m U2.kp U2.b .nil (passes_call (takes_of rfl rfl rfl rfl) (fun _ _ _ _ h => h)) (pa_cons (pv 0) (pa_cons (pv 1) (pa_cons (pv 3) pa_nil))))) pa_nil)))
      (pss_cons (ps_expr (pe_bm PySem.F.plainAttrs_list PySem.F.slot_list_append PySem.F.type_list_append mt_append (pv 4) (pa_cons (pe_said (k := 10) S hb W m (by rfl) TB rfl hmT hu hr (lamS_by (sc := defScope s_law_lengths_right) (by decide +kernel)) rfl (fun _ _ _ _ _ => rfl) (fun A outer s H E f c' hr2 => pe_call U3.G (hr2.mono (by decide)) (by rfl) U3.m U3.kp U3.b .nil (passes_call (takes_of rfl rfl rfl rfl) (fun _ _ _ _ h => h)) (pa_cons (pv 0) (pa_cons (pv 3) pa_nil)))) pa_nil)))
      (pss_cons (ps_expr (pe_bm PySem.F.plainAttrs_list PySem.F.slot_list_append PySem.F.type_list_append mt_append (pv 4) (pa_cons (pe_said (k := 10) S hb W m (by rfl) TB rfl hmT hu hr (lamS_by (sc := defScope s_law_lengths_right) (by decide +kernel)) rfl (fun _ _ _ _ _ => rfl) (fun A outer s H E f c' hr2 => pe_callKW0 (hV := swp) U4.G (hr2.mono (by decide)) U4.kb (fun hl r => swp_vals hl r) (passes_call (takes_of rfl rfl rfl rfl) (fun _ _ _ _ h => h)) (by rfl) U4.m U4.kp (pk_cons (pv 3) (pk_cons (pv 0) pk_nil)))) pa_nil)))
      (pss_cons (ps_expr (pe_bm PySem.F.plainAttrs_list PySem.F.slot_list_append PySem.F.type_list_append mt_append (pv 4) (pa_cons (pe_said (k := 10) S hb W m (by rfl) TB rfl hmT hu hr (lamS_by (sc := defScope s_law_lengths_right) (by decide +kernel)) rfl (fun _ _ _ _ _ => rfl) (fun A outer s H E f c' hr2 => pe_callKW0 (hV := rv3) U5.G (hr2.mono (by decide)) U5.kb (fun hl r => rv3_vals hl r) pass0 (by rfl) U5.m U5.kp (pk_cons (pe_op op_pow pe_int pe_int) (pk_cons (pv 1) (pk_cons (pv 0) pk_nil))))) pa_nil)))
      (pss_one (ps_ret (pe_cmpR op_eq (pe_callB (call_reprS hG hu64) (by rfl) N.repr PyProof.Rows.boot_repr (pa_cons (pv 4) pa_nil)) (pe_callB (call_reprS hG hu64) (by rfl) N.repr PyProof.Rows.boot_repr (pa_cons (pe_op op_cat (pe_op op_cat (pe_op op_rep (pe_lst (pa_cons (pe_tup (pa_cons pe_str (pa_cons (pv 2) pa_nil))) pa_nil)) pe_int) (pe_op op_rep (pe_lst (pa_cons (pe_tup (pa_cons pe_str (pa_cons (pv 3) pa_nil))) pa_nil)) pe_int)) (pe_lst (pa_cons pe_str pa_nil))) pa_nil)) (nomark _)))))))))), ?_⟩
    have one : (1 : Nat) ≤ sizeLine := by rw [sizeLine_eq]; decide
    have two : (2 : Nat) ≤ sizeLine := by rw [sizeLine_eq]; decide
    refine ⟨hT, fun H1 eN T1 E' Q' hE hQ => ?_⟩
    have e0 : ExtN H H1 := eN
    have R1 := rail_ex R e0
    have bd1 := bd H1 (Kp.ex e0)
    have bl1 := bl H1 (Kp.ex e0)
    refine ⟨_, rfl, _, rfl, r, tr, _, rfl, R1, bd1.1, bd1.2, fun dd hd => hE CS dd 0 o _ (by decide) Z.s upd_same (fun tt H2 s2 nt ht => ?_)⟩
    have sH := (same_upd hd (.xd [("value", o)])).trans s2
    have T2 := T1.ext sH
    have e2 : ExtN H H2 := e0.trans (ExtN.of sH)
    have od := od.keep (Kp.ex e2)
    have ob := ob.keep (Kp.ex e2)
    have R := rail_ex R e2
    have bd : ∀ H', Kp dr H2 H' → BadS K H' tr.length o := fun H' z => bd H' ((Kp.ex e2).trans z)
    have bl : ∀ H', Kp dr H2 H' → BadL K H' b := fun H' z => bl H' ((Kp.ex e2).trans z)
    have k : ∀ H', ExtN H2 H' → Tabs T H' → Q (.bl true) H' := fun H' e t => k H' (e2.trans e) t
    have oi : ∀ H3, Itm K H2 H3 o d := fun H3 => .inl fun H' e => od.sk e
    have obi : ∀ H3, Itm K H2 H3 b d2 := fun H3 => .inl fun H' e => ob.sk e
    refine ⟨one, fun tl ntl => ?_⟩
    have sL := same_upd ntl (.lst [V.ref tt])
    have t1 : Told K T H2 (upd H2 tl (.lst [V.ref tt])) tl [tt] [(0, o, d)] := ⟨ExtN.of sL, T2.ext sL, ntl, upd_same, .cons ⟨sL _ _ ht, od.small, oi _⟩ .nil⟩
    generalize upd H2 tl (.lst [V.ref tt]) = G1 at t1
    refine ⟨_, rfl, .inl ⟨rfl, _, SqL.of t1.tl⟩, t1.tabs, fun H1 eN T1 E' Q' hE hQ => ?_⟩
    have e0 := t1.ext.trans eN
    have R1 := rail_ex R e0
    have bd1 := bd H1 (Kp.ex e0)
    have bl1 := bl H1 (Kp.ex e0)
    refine ⟨_, rfl, _, rfl, _, rfl, r, tr, _, _, rfl, R1, .inl ⟨bd1, fun dd hd => hE CS dd 0 o _ (by decide) Z.s upd_same (fun tt H2 s2 nt ht => ?_)⟩⟩
    have sH := (same_upd hd (.xd [("value", o)])).trans s2
    have T2 := T1.ext sH
    have t1a := (t1.mv eN T1).mv (ExtN.of sH) T2
    refine ⟨tl, _, _, rfl, rfl, t1a.tl, by rw [sizeLine_eq]; show 1 < _; decide, ?_⟩
    have t2 := t1a.add ht od.small (oi H2)
    generalize upd H2 tl _ = G2 at t2 ⊢
    clear t1a t1
    refine ⟨_, rfl, .inl ⟨rfl, _, SqL.of t2.tl⟩, t2.tabs, fun H1 eN T1 E' Q' hE hQ => ?_⟩
    have e0 := t2.ext.trans eN
    have R1 := rail_ex R e0
    have bd1 := bd H1 (Kp.ex e0)
    have bl1 := bl H1 (Kp.ex e0)
    refine ⟨_, rfl, _, rfl, r, tr, _, _, rfl, R1, .inl ⟨bd1, fun dd hd => hE CS dd 0 o _ (by decide) Z.s upd_same (fun tt H2 s2 nt ht => ?_)⟩⟩
    have sH := (same_upd hd (.xd [("value", o)])).trans s2
    have T2 := T1.ext sH
    have t2a := (t2.mv eN T1).mv (ExtN.of sH) T2
    refine ⟨tl, _, _, rfl, rfl, t2a.tl, by rw [sizeLine_eq]; show 2 < _; decide, ?_⟩
    have t3 := t2a.add ht od.small (oi H2)
    generalize upd H2 tl _ = G3 at t3 ⊢
    clear t2a t2
    refine ⟨_, rfl, .inl ⟨rfl, _, SqL.of t3.tl⟩, t3.tabs, fun H1 eN T1 E' Q' hE hQ => ?_⟩
    have e0 := t3.ext.trans eN
    have R1 := rail_ex R e0
    have bd1 := bd H1 (Kp.ex e0)
    have bl1 := bl H1 (Kp.ex e0)
    refine ⟨_, rfl, _, rfl, _, rfl, r, tr, _, _, rfl, R1, .inr ⟨a, rfl, ha, bl1, fun dd hd => hE CL dd 2 b _ (by decide) Z.l upd_same (fun tt H2 s2 nt ht => ?_)⟩⟩
    have sH := (same_upd hd (.xd [("value", b)])).trans s2
    have T2 := T1.ext sH
    have t3a := (t3.mv eN T1).mv (ExtN.of sH) T2
    refine ⟨tl, _, _, rfl, rfl, t3a.tl, by rw [sizeLine_eq]; show 3 < _; decide, ?_⟩
    have t4 := t3a.add ht ob.small (obi H2)
    generalize upd H2 tl _ = G4 at t4 ⊢
    clear t3a t3
    refine ⟨_, rfl, .inl ⟨rfl, _, SqL.of t4.tl⟩, t4.tabs, fun H1 eN T1 E' Q' hE hQ => ?_⟩
    have e0 := t4.ext.trans eN
    have R1 := rail_ex R e0
    have bd1 := bd H1 (Kp.ex e0)
    have bl1 := bl H1 (Kp.ex e0)
    refine ⟨_, rfl, _, rfl, _, _, rfl, bl1, fun dd hd => hE CL dd 2 b _ (by decide) Z.l upd_same (fun tt H2 s2 nt ht => ?_)⟩
    have sH := (same_upd hd (.xd [("value", b)])).trans s2
    have T2 := T1.ext sH
    have t4a := (t4.mv eN T1).mv (ExtN.of sH) T2
    refine ⟨tl, _, _, rfl, rfl, t4a.tl, by rw [sizeLine_eq]; show 4 < _; decide, ?_⟩
    have t5 := t4a.add ht ob.small (obi H2)
    generalize upd H2 tl _ = G5 at t5 ⊢
    clear t4a t4
    refine ⟨_, rfl, .inl ⟨rfl, _, SqL.of t5.tl⟩, t5.tabs, fun H1 eN T1 E' Q' hE hQ => ?_⟩
    have e0 := t5.ext.trans eN
    have R1 := rail_ex R e0
    have bd1 := bd H1 (Kp.ex e0)
    have bl1 := bl H1 (Kp.ex e0)
    refine ⟨_, rfl, _, rfl, rfl, _, _, rfl, bl1, fun dd hd => hE CL dd 2 b _ (by decide) Z.l upd_same (fun tt H2 s2 nt ht => ?_)⟩
    have sH := (same_upd hd (.xd [("value", b)])).trans s2
    have T2 := T1.ext sH
    have t5a := (t5.mv eN T1).mv (ExtN.of sH) T2
    refine ⟨tl, _, _, rfl, rfl, t5a.tl, by rw [sizeLine_eq]; show 5 < _; decide, ?_⟩
    have t6 := t5a.add ht ob.small (obi H2)
    generalize upd H2 tl _ = G6 at t6 ⊢
    clear t5a t5
    refine ⟨_, rfl, .inl ⟨rfl, _, SqL.of t6.tl⟩, t6.tabs, fun H1 eN T1 E' Q' hE hQ => ?_⟩
    have e0 := t6.ext.trans eN
    have R1 := rail_ex R e0
    have few := R.few
    refine ⟨_, _, rfl, rfl, ⟨by decide, by decide, by decide⟩, _, rfl, _, rfl, rfl, r, tr, a, 10 ^ 40, rfl, R1, ha, by
      have e40 : (10 : Nat) ^ 40 = 10000000000000000000000000000000000000000 := by decide
      omega, fun v H2 s2 => hQ _ _ ?_⟩
    have t6a := (t6.mv eN T1).mv (ExtN.of s2) (T1.ext s2)
    refine ⟨tl, _, _, rfl, rfl, t6a.tl, by rw [sizeLine_eq]; show 6 < _; decide, ?_⟩
    have t7 := t6a.last (V.str "returned")
    generalize upd H2 tl _ = G7 at t7 ⊢
    clear t6 t6a
    have fnS : Fine (.tuple [.str (wd 0), d]) := od.small.pair (wd_word 0)
    have fnL : Fine (.tuple [.str (wd 2), d2]) := ob.small.pair (wd_word 2)
    have fnR : Fine (.str (Str.ofString "returned")) := ⟨ret_word.lv, by have := ret_word.wt; omega, by decide +kernel⟩
    have fin : ∀ x ∈ ([.tuple [.str (wd 0), d], .tuple [.str (wd 0), d], .tuple [.str (wd 0), d], .tuple [.str (wd 2), d2], .tuple [.str (wd 2), d2], .tuple [.str (wd 2), d2], .str (Str.ofString "returned")] : List PyData), Fine x := by
      intro x hx
      simp only [List.mem_cons, List.not_mem_nil, or_false] at hx
      rcases hx with rfl | rfl | rfl | rfl | rfl | rfl | rfl <;> first | exact fnS | exact fnL | exact fnR
    obtain ⟨fl, fdp⟩ := fit_list fin (by show 7 ≤ 60; decide)
    refine ⟨_, rfl, tl, _, _, rfl, SqL.of t7.tl, pair_app t7.sks (.cons ret_word.sk .nil), fl, fdp, ?_⟩
    refine ⟨_, rfl, two, fun p1 n1 => ?_⟩
    have s1 := same_upd n1 (.tup [V.str "station", o])
    have h1 : upd G7 p1 (.tup [V.str "station", o]) p1 = some (.tup [V.str "station", o]) := upd_same
    generalize upd G7 p1 (.tup [V.str "station", o]) = J1 at s1 h1
    refine ⟨one, fun p2 n2 => ?_⟩
    have s2 := same_upd n2 (.lst [V.ref p1])
    have h2 : upd J1 p2 (.lst [V.ref p1]) p2 = some (.lst [V.ref p1]) := upd_same
    generalize upd J1 p2 (.lst [V.ref p1]) = J2 at s2 h2
    refine ⟨p2, _, _, rfl, rfl, h2, by decide, by decide, by rw [sizeLine_eq]; show 3 ≤ _; decide, fun p3 n3 => ?_⟩
    have s3 := same_upd n3 (.lst (List.replicate (3 : Int).toNat [V.ref p1]).flatten)
    have h3 : upd J2 p3 (.lst (List.replicate (3 : Int).toNat [V.ref p1]).flatten) p3 = some (.lst [V.ref p1, V.ref p1, V.ref p1]) := upd_same
    generalize upd J2 p3 (.lst (List.replicate (3 : Int).toNat [V.ref p1]).flatten) = J3 at s3 h3
    refine ⟨_, rfl, two, fun p4 n4 => ?_⟩
    have s4 := same_upd n4 (.tup [V.str "length", b])
    have h4 : upd J3 p4 (.tup [V.str "length", b]) p4 = some (.tup [V.str "length", b]) := upd_same
    generalize upd J3 p4 (.tup [V.str "length", b]) = J4 at s4 h4
    refine ⟨one, fun p5 n5 => ?_⟩
    have s5 := same_upd n5 (.lst [V.ref p4])
    have h5 : upd J4 p5 (.lst [V.ref p4]) p5 = some (.lst [V.ref p4]) := upd_same
    generalize upd J4 p5 (.lst [V.ref p4]) = J5 at s5 h5
    refine ⟨p5, _, _, rfl, rfl, h5, by decide, by decide, by rw [sizeLine_eq]; show 3 ≤ _; decide, fun p6 n6 => ?_⟩
    have s6 := same_upd n6 (.lst (List.replicate (3 : Int).toNat [V.ref p4]).flatten)
    have h6 : upd J5 p6 (.lst (List.replicate (3 : Int).toNat [V.ref p4]).flatten) p6 = some (.lst [V.ref p4, V.ref p4, V.ref p4]) := upd_same
    generalize upd J5 p6 (.lst (List.replicate (3 : Int).toNat [V.ref p4]).flatten) = J6 at s6 h6
    refine ⟨p3, p6, _, _, rfl, rfl, s6 _ _ (s5 _ _ (s4 _ _ h3)), h6, by rw [sizeLine_eq]; show 6 ≤ _; decide, fun p7 n7 => ?_⟩
    have s7 := same_upd n7 (.lst ([V.ref p1, V.ref p1, V.ref p1] ++ [V.ref p4, V.ref p4, V.ref p4]))
    have h7 : upd J6 p7 (.lst ([V.ref p1, V.ref p1, V.ref p1] ++ [V.ref p4, V.ref p4, V.ref p4])) p7 = some (.lst ([V.ref p1, V.ref p1, V.ref p1] ++ [V.ref p4, V.ref p4, V.ref p4])) := upd_same
    generalize upd J6 p7 (.lst ([V.ref p1, V.ref p1, V.ref p1] ++ [V.ref p4, V.ref p4, V.ref p4])) = J7 at s7 h7
    refine ⟨one, fun p8 n8 => ?_⟩
    have s8 := same_upd n8 (.lst [V.str "returned"])
    have h8 : upd J7 p8 (.lst [V.str "returned"]) p8 = some (.lst [V.str "returned"]) := upd_same
    generalize upd J7 p8 (.lst [V.str "returned"]) = J8 at s8 h8
    refine ⟨p7, p8, _, _, rfl, rfl, s8 _ _ h7, h8, by rw [sizeLine_eq]; show 7 ≤ _; decide, fun p9 n9 => ?_⟩
    have s9 := same_upd n9 (.lst (([V.ref p1, V.ref p1, V.ref p1] ++ [V.ref p4, V.ref p4, V.ref p4]) ++ [V.str "returned"]))
    have h9 : upd J8 p9 (.lst (([V.ref p1, V.ref p1, V.ref p1] ++ [V.ref p4, V.ref p4, V.ref p4]) ++ [V.str "returned"])) p9 = some (.lst (([V.ref p1, V.ref p1, V.ref p1] ++ [V.ref p4, V.ref p4, V.ref p4]) ++ [V.str "returned"])) := upd_same
    generalize upd J8 p9 (.lst (([V.ref p1, V.ref p1, V.ref p1] ++ [V.ref p4, V.ref p4, V.ref p4]) ++ [V.str "returned"])) = J9 at s9 h9
    have sB := ((((s5.trans s6).trans s7).trans s8).trans s9)
    have sA := (((s1.trans s2).trans s3).trans s4).trans sB
    have tB := t7.mv (ExtN.of sA) (t7.tabs.ext sA)
    have g1 := sB _ _ (s4 _ _ (s3 _ _ (s2 _ _ h1)))
    have g4 := sB _ _ h4
    have skS : SK K J9 (.ref p1) (.tuple [.str (wd 0), d]) := pair_sk (wd_word 0) od.small g1 ((oi J9).sk tB.ext)
    have skL : SK K J9 (.ref p4) (.tuple [.str (wd 2), d2]) := pair_sk (wd_word 2) ob.small g4 ((obi J9).sk tB.ext)
    refine ⟨p9, _, _, rfl, SqL.of h9, .cons skS (.cons skS (.cons skS (.cons skL (.cons skL (.cons skL (.cons ret_word.sk .nil)))))), fl, fdp, rfl, ?_⟩
    refine Eq.mpr (congrArg (fun b => Q (V.bl b) J9) (decide_eq_true ?_)) (k J9 tB.ext tB.tabs)
    rfl
end
end TR

namespace TR
open PySem PySem.Spec PyProof.Rows L2 L2.TT StX ClX L2.TL LamX
theorem draw_ex {H H' : Hp} {dr cl : Addr} {n : Nat} (d : DrawAt H dr cl n) (e : ExtN H H') : DrawAt H' dr cl n := by
  obtain ⟨cs, i, j, k, h1, h2, r⟩ := d
  exact ⟨cs, i, j, k, e _ _ h1 (fun _ z => by cases z), e _ _ h2 (fun _ z => by cases z), r⟩
def spPrsE (C : Addr) (K : PySem.W.Frag) (T : List (Addr × Str)) : Sp := fun vs H Q E => ∃ dr, spPrs C dr K T vs H Q E
def spLnsE (C : Addr) (K : PySem.W.Frag) (T : List (Addr × Str)) : Sp := fun vs H Q E => ∃ dr, spLns C dr K T vs H Q E
theorem tabs_fr {T : List (Addr × Str)} {H H' : Hp} {dr : Addr} {kvs : List (Key × V)} (t : Tabs T H) (f : Fr dr H H') (hd : H dr = some (.dK kvs)) : Tabs T H' := fun p hp => by
  obtain ⟨ps, h1, h2, h3⟩ := t p hp
  refine ⟨ps, f _ _ h1 (ne_of h1 hd (by intro z; cases z)), h2, fun pos cv hc => ?_⟩
  obtain ⟨c, e1, e2⟩ := h3 pos cv hc
  exact ⟨c, e1, f _ _ e2 (ne_of e2 hd (by intro z; unfold CodeO at z; cases z))⟩
section
variable {P : Program} {w : World} {K : PySem.W.Frag} {mg : Str → Option Value} {base : Heap}
theorem fnG_ex {α : Type} {CX : CXT} {k : Nat} {f : Addr} {fd : FuncData} {ps : List Str} {sp : α → Sp} (h : ∀ a, FnG P w K mg base CX k f fd ps (sp a)) : FnG P w K mg base CX k f fd ps (fun vs H Q E => ∃ a, sp a vs H Q E) :=
  ⟨fun vs H Q E ⟨a, q⟩ => (h a).len vs H Q E q, fun A outer s H args us vs Q E hG hr e0 hb r ⟨a, q⟩ => (h a).run A outer s H args us vs Q E hG hr e0 hb r q⟩
def spLaw (K : PySem.W.Frag) (T : List (Addr × Str)) : Sp := fun vs H Q _ => ∃ (a : Addr) (ns : List Int), vs = [.ref a] ∧ SqL K H a (ns.map V.int) ∧ ns.length ≤ 63 ∧ Tabs T H ∧ ∀ H', Q (.bl true) H'
abbrev NLw : List Str := ["script", "draw", "turn", "tracks", "road", "count", "again", "spot", "odd", "far"]
theorem sc_law : FnScope NLw ["script"] (defScope s_law) := ⟨rfl, rfl, rfl, by decide +kernel, rfl, by decide +kernel, by decide +kernel⟩
theorem ok_law {f fB fN fT fS fL f1 f2 fO C pO : Addr} {mc : Value} {T : List (Addr × Str)} {fd fdB fdN fdT fdS fdL fd1 fd2 : FuncData} (F : Fun K "law" "law" s_law f fd) (N : Nm mg) (X : TxtR K mg C) (hcr : CRead K C mc) (cm : CMet K C mc "of" pO fO) (GO : FnR P w K mg base CX0 7 fO (spRof C))
    (UB : Use P w K mg base CX0 1 "_law_begin" fB fdB ["script"] (spBegin K)) (UN : Use P w K mg base CX0 2 "_law_next" fN fdN ["draw", "bound"] spNext) (UT : Use P w K mg base CX0 3 "_law_tracks" fT fdT ["draw", "most"] spTracks) (US : Use P w K mg base CX0 3 "_law_no_station" fS fdS ["draw", "count"] (spNoSt K)) (UL : Use P w K mg base CX0 3 "_law_no_length" fL fdL ["draw"] (spNoLen K))
    (G1 : FnG P w K mg base CX0 11 f1 fd1 ["road", "spot", "odd", "far"] (spPrsE C K T)) (m1 : mg "_law_pairs_right" = some (.ref f1)) (k1 : PySem.W.keepIn K (.ref f1) = true) (b1 : Binds K fd1 ["road", "spot", "odd", "far"] [])
    (G2 : FnG P w K mg base CX0 15 f2 fd2 ["road", "spot", "odd", "bad"] (spLnsE C K T)) (m2 : mg "_law_lengths_right" = some (.ref f2)) (k2 : PySem.W.keepIn K (.ref f2) = true) (b2 : Binds K fd2 ["road", "spot", "odd", "bad"] []) :
    FnG P w K mg base CX0 16 f fd ["script"] (spLaw K T) := by
  refine L2.TT.Fun.okG F sc_law (fun vs H Q E h => ?_) (fun cdv A outer s H vs Q E hG hr h => ?_)
  · obtain ⟨a, ns, rfl, _⟩ := h
    rfl
  · obtain ⟨a, ns, rfl, hS, hlen, hT, k⟩ := h
    have hr1 : Room 1 (A.deeper (envOfC "law" (defScope s_law) s.heap.objs.size f cdv)) := hr.mono (by decide)
    have hr2 : Room 2 (A.deeper (envOfC "law" (defScope s_law) s.heap.objs.size f cdv)) := hr.mono (by decide)
    have hr3 : Room 3 (A.deeper (envOfC "law" (defScope s_law) s.heap.objs.size f cdv)) := hr.mono (by decide)
    have hr7 : Room 7 (A.deeper (envOfC "law" (defScope s_law) s.heap.objs.size f cdv)) := hr.mono (by decide)
    have hr11 : Room 11 (A.deeper (envOfC "law" (defScope s_law) s.heap.objs.size f cdv)) := hr.mono (by decide)
    refine ⟨_, pss_cons (ps_set (i := 1) sc_law.nd rfl (.inl rfl) (pe_use UB hr1 (by rfl) (pa_cons (pv 0) pa_nil)))
      (pss_cons (ps_for PassesOwn.never rfl (pi_range1 (by rfl) N.range (pa_cons (pe_callB (call_min2 rfl) (by rfl) N.min PyProof.Rows.boot_min (pa_cons pe_int (pa_cons (pe_op op_add pe_int (pe_op op_fdiv (pe_callB call_len_seq (by rfl) N.len PySem.boot_len (pa_cons (pv 0) pa_nil)) pe_int)) pa_nil))) pa_nil)) (pg_name (i := 2) sc_law.nd rfl (.inl rfl))
      (pss_cons (ps_set (i := 3) sc_law.nd rfl (.inl rfl) (pe_use UT hr3 (by rfl) (pa_cons (pv 1) (pa_cons pe_int pa_nil))))
      (pss_cons (ps_par (i := 4) (j := 5) (by rfl) sc_law.nd rfl rfl (by decide) rfl rfl (pa_cons (pe_cmeth (pe_glob (v := .ref C) (by rfl) X.mgC rfl) hcr cm GO hr7 pass0 (pa_cons (pv 3) pa_nil)) (pa_cons (pe_op op_add (pe_callB call_len_seq (by rfl) N.len PySem.boot_len (pa_cons (pv 3) pa_nil)) pe_int) pa_nil)) (by rfl))
      (pss_one (ps_for PassesOwn.never rfl (pi_range1 (by rfl) N.range (pa_cons pe_int pa_nil)) (pg_name (i := 6) sc_law.nd rfl (.inl rfl))
        (pss_cons (ps_par3 (i := 7) (j := 8) (l := 9) (by rfl) sc_law.nd rfl rfl rfl (by decide) (by decide) (by decide) rfl rfl rfl (pa_cons (pe_use UN hr2 (by rfl) (pa_cons (pv 1) (pa_cons (pv 5) pa_nil))) (pa_cons (pe_use US hr3 (by rfl) (pa_cons (pv 1) (pa_cons (pv 5) pa_nil))) (pa_cons (pe_use US hr3 (by rfl) (pa_cons (pv 1) (pa_cons (pv 5) pa_nil))) pa_nil))) (by rfl))
        (pss_cons (ps_if (pt_not (pt_val (pe_callG G1 hG hr11 (by rfl) m1 k1 b1 pass0 (pa_cons (pv 4) (pa_cons (pv 7) (pa_cons (pv 8) (pa_cons (pv 9) pa_nil))))))) (pss_one (ps_ret pe_bl)) pss_nil)
        (pss_one (ps_if (pt_not (pt_val (pe_callG G2 hG hr (by rfl) m2 k2 b2 pass0 (pa_cons (pv 4) (pa_cons (pv 7) (pa_cons (pv 8) (pa_cons (pe_use UL hr3 (by rfl) (pa_cons (pv 1) pa_nil)) pa_nil))))))) (pss_one (ps_ret pe_bl)) pss_nil)))))))))
      (pss_one (ps_ret pe_bl))), ?_⟩
    have e62 : (2 : Int) ^ 62 = 4611686018427387904 := by decide
    refine ⟨_, rfl, a, ns, rfl, hS, hlen, fun dr cl H1 nd nc s1 D1 => ?_⟩
    refine ⟨_, rfl, a, _, rfl, .inl (s1.seq hS), _, _, rfl, rfl, ⟨by decide, by decide⟩, _, _, rfl, rfl, _, _, rfl, _, rfl, ?_, ?_, ?_⟩
    · rw [e62]
      split <;> omega
    · rw [e62]
      split <;> omega
    have h9 : (if 2 + ((List.map V.int ns).length : Int) / 3 < 5 then 2 + ((List.map V.int ns).length : Int) / 3 else (5 : Int)) ≤ 5 := by split <;> omega
    refine for_range (lo := 0) (fun i σ H' => ∃ (y2 y3 y4 y5 y6 y7 y8 y9 : Option V), σ = [some (.ref a), some (.ref dr), y2, y3, y4, y5, y6, y7, y8, y9] ∧ DrawAt H' dr cl (1000 * i) ∧ Tabs T H') ⟨_, _, _, _, _, _, _, _, rfl, D1, hT.ext s1⟩ ?_ ?_
    · rintro i σ H6 hi ⟨y2, y3, y4, y5, y6, y7, y8, y9, rfl, D6, T6⟩
      have hi5 : i < 5 := by
        have := hi
        omega
      obtain ⟨kv6, hd6⟩ := D6.some1
      refine ⟨_, rfl, dr, cl, 20, _, rfl, D6, by omega, by decide, by decide, fun a2 ps tr H7 D7 F7 ha hP Tr hl => ?_⟩
      have T7 := tabs_fr T6 F7 hd6
      refine ⟨rfl, _, rfl, a2, ps, tr, rfl, ha, hP, Tr, by omega, fun r tr2 H8 nr s8 nm R => ?_⟩
      have tlen : tr2.length = tr.length := nm.len
      have D8 := D7.same s8
      have T8 := T7.ext s8
      have ha8 := s8 _ _ ha
      have lps : ps.length = tr.length := hP.1
      have ec : V.int (((ps.map V.ref).length : Int) + 1) = iv (tr2.length + 1) := by
        show V.int _ = V.int _
        congr 1
        rw [List.length_map]
        omega
      refine ⟨_, rfl, a2, _, rfl, .inr (SqT.of ha8), _, _, rfl, rfl, _, _, rfl, ?_⟩
      refine ⟨_, rfl, by rw [e62]; decide, by rw [e62]; decide, ?_⟩
      refine for_range (lo := 0) (fun j σ H' => ∃ (y6 y7 y8 y9 : Option V), σ = [some (.ref a), some (.ref dr), some (V.int (0 + (i : Int))), some (.ref a2), some (.ref r), some (iv (tr2.length + 1)), y6, y7, y8, y9] ∧ DrawAt H' dr cl (1000 * i + 401 + 10 * j) ∧ Tabs T H' ∧ RailAt C H' r tr2) ⟨_, _, _, _, by rw [← ec]; rfl, D8.mono (by omega), T8, R⟩ ?_ ?_
      · rintro j σ H9 hj ⟨z6, z7, z8, z9, rfl, D9, T9, R9⟩
        have hj10 : j < 10 := hj
        obtain ⟨kv9, hd9⟩ := D9.some1
        refine ⟨_, rfl, _, rfl, dr, cl, _, _, rfl, D9, by omega, by omega, by omega, fun sv H10 q0 q1 D10 k10 => ?_⟩
        obtain ⟨sn, rfl⟩ := Int.eq_ofNat_of_zero_le q0
        have f10 := Fr.of k10
        have R10 := R9.fr f10 hd9
        have T10 := tabs_fr T9 f10 hd9
        obtain ⟨kv10, hd10⟩ := D10.some1
        refine ⟨_, rfl, _, rfl, dr, cl, _, tr2.length, rfl, D10, by omega, by have := R10.few; omega, fun o d H11 D11 f11 bd od => ?_⟩
        have R11 := R10.fr f11 hd10
        have T11 := tabs_fr T10 f11 hd10
        obtain ⟨kv11, hd11⟩ := D11.some1
        refine ⟨_, rfl, _, rfl, dr, cl, _, tr2.length, rfl, D11, by omega, by have := R10.few; omega, fun fv d2 H12 D12 f12 _ _ => ?_⟩
        have R12 := R11.fr f12 hd11
        have T12 := tabs_fr T11 f12 hd11
        have kp12 : Kp dr H11 H12 := Kp.fr f12
        refine ⟨_, _, _, rfl, ?_⟩
        refine ⟨_, rfl, _, rfl, _, rfl, _, rfl, dr, r, tr2, sn, o, fv, d, rfl, R12, by omega, T12, od.keep kp12, fun H' z => bd H' (kp12.trans z), fun H13 e13 T13 => ⟨_, rfl, ?_⟩⟩
        refine iteF ?_
        have R13 := rail_ex R12 e13
        have D13 := draw_ex D12 e13
        obtain ⟨kv13, hd13⟩ := D13.some1
        refine ⟨_, rfl, _, rfl, _, rfl, _, rfl, dr, cl, _, rfl, D13, by omega, fun b d3 H14 D14 f14 bl ob => ?_⟩
        have R14 := R13.fr f14 hd13
        have T14 := tabs_fr T13 f14 hd13
        have kp14 : Kp dr H11 H14 := (kp12.trans (Kp.ex e13)).trans (Kp.fr f14)
        refine ⟨dr, r, tr2, sn, o, b, d, d3, rfl, R14, by omega, T14, od.keep kp14, fun H' z => bd H' (kp14.trans z), ob, bl, fun H15 e15 T15 => ⟨_, rfl, ?_⟩⟩
        refine iteF ?_
        exact ⟨_, _, _, _, rfl, (draw_ex D14 e15).mono (by omega), T15, rail_ex R14 e15⟩
      · rintro σ H9 ⟨z6, z7, z8, z9, rfl, D9, T9, R9⟩
        have D9 : DrawAt H9 dr cl (1000 * i + 401 + 10 * 10) := D9
        exact ⟨_, _, _, _, _, _, _, _, rfl, D9.mono (by omega), T9⟩
    · rintro σ H6 ⟨y2, y3, y4, y5, y6, y7, y8, y9, rfl, D6, T6⟩
      exact k _
end
end TR

namespace L2.TL
open PySem PySem.Spec PyProof.Rows L2 L2.TT LamX
/-! the twin of lawG_call where tables of code objects stand -/
theorem lawG_callTs {P : Program} {w : World} {K : PySem.W.Frag} {mg mb : Str → Option Value} {k : Nat} {fa a : Addr} {cs : List (Addr × Addr)} {fd : FuncData} {x : Str} {sp : Sp} {s₁ : Shared} {vs : List Value} {ns : List Int}
    (KX : K.In s₁.heap) (hns : s₁.heap.Ns mainGlobals mg) (hb : s₁.heap.Ns builtinsNs mb) (hbb : ∀ x : Str, x ≠ "__name__" → mb x = bootBuiltins x) (hlim : s₁.heap.NoLimit) (hg : s₁.gens = #[])
    (hT : ∀ p ∈ cs, s₁.heap.get? p.2 = some { cls := .none, data := .fields #[] }) (nT : ∀ p ∈ cs, K.lookup p.2 = none) (C : ∀ p ∈ cs, PySem.W.CodeHd s₁.heap p.1 p.2)
    (hbm : ∃ (bm : Addr) (ob : Obj), mg "__builtins__" = some (.ref bm) ∧ bm ≠ builtinsNs ∧ s₁.heap.get? bm = some ob ∧ ob.cls = .type "module" ∧ ob.dict = some builtinsNs ∧ ob.data = .plain)
    (ha : s₁.heap.get? a = some { cls := .type "list", data := .seq vs.toArray }) (hi : IntsAre vs ns) (hl : ns.length ≤ sizeLine) (hr : Room k callerA)
    (F : ∀ base : Heap, K.In base → base.Ns mainGlobals mg → (∀ p ∈ cs, TabB base mg p.1 p.2) → FnG P w K mg base CX0 k fa fd [x] sp) (hbind : ∀ (s : Shared) (u : Value), BindsTo s fd ⟨[u], []⟩ [(x, u)])
    (hsp : ∀ H : Hp, (∀ p ∈ cs, H p.2 = some (.tbl #[])) → SqL K H a (ns.map V.int) → sp [.ref a] H (fun v _ => v = .bl true) fun _ _ _ => False) :
    codeAny (model P w) callerA (.call (.ref fa) ⟨[.ref a], []⟩) (fun r s' => r = .ok (.ret (.bool true)) ∧ OldK s₁.heap s'.heap ∧ s'.os = s₁.os ∧ AllBare s'.gens) s₁ := by
  have rv := vals_ints hi
  have lenV := hi.length
  have isT : ∀ b : Addr, b ∈ cs.map (·.2) → s₁.heap.get? b = some { cls := .none, data := .fields #[] } := fun b hb => by
    obtain ⟨p, hp, e⟩ := List.mem_map.mp hb
    rw [← e]
    exact hT p hp
  have aT : a ∉ cs.map (·.2) := fun z => by
    have q := isT a z
    rw [ha] at q
    have z' : Data.seq vs.toArray _ = Data.fields #[] := congrArg Obj.data (Option.some.inj q)
    cases z'
  have memT : ∀ p ∈ cs, p.2 ∈ cs.map (·.2) := fun p hp => List.mem_map.mpr ⟨p, hp, rfl⟩
  -- from an abstract heap in which nothing but the script and the tables may be tracked
  have core : ∀ H : Hp, (∀ p ∈ cs, H p.2 = some (.tbl #[])) → (∀ b, H b = none ∨ b ∈ cs.map (·.2) ∨ ∃ o xs, H b = some (.frz o (.lst xs))) → SqL K H a (ns.map V.int) → HOk P w H s₁.heap → (∀ b, H b ≠ none → b = a ∨ b ∈ cs.map (·.2)) → (H a ≠ none → K.lookup a = none) →
      codeAny (model P w) callerA (.call (.ref fa) ⟨[.ref a], []⟩) (fun r s' => r = .ok (.ret (.bool true)) ∧ OldK s₁.heap s'.heap ∧ s'.os = s₁.os ∧ AllBare s'.gens) s₁ := by
    intro H hH hO hS hok hA hK
    have base_of : ∀ {b : Addr} {o : Obj}, s₁.heap.get? b = some o → H b = none → (hidT s₁.heap H).get? b = some o := fun e n => hidT_get e n
    have noD : ∀ {b : Addr} {o : Obj}, s₁.heap.get? b = some o → (∀ vs n, o.data ≠ .seq vs n) → o.data ≠ .fields #[] → H b = none := fun {b o} e h1 h2 => by
      cases q : H b with
      | none => rfl
      | some u =>
        rcases hA b (by rw [q]; simp) with e' | e'
        · rw [e', ha] at e
          cases e
          exact (h1 _ _ rfl).elim
        · rw [isT b e'] at e
          cases e
          exact (h2 rfl).elim
    have noA : ∀ {b : Addr} {o : Obj} {es : Array DictEntry} {ep : Nat}, s₁.heap.get? b = some o → o.data = .dict es ep → H b = none := fun {b o es ep} e d => by
      refine noD e (fun vs n z => ?_) fun z => ?_
      · rw [d] at z
        cases z
      · rw [d] at z
        cases z
    have nsK : ∀ {b : Addr} {m : Str → Option Value}, s₁.heap.Ns b m → (hidT s₁.heap H).Ns b m := fun {b m} ⟨o, es, ep, e, d, r⟩ => ⟨o, es, ep, base_of e (noA e d), d, r⟩
    have hKb : K.In (hidT s₁.heap H) := fun b o e => base_of (KX b o e) (by
      cases q : H b with
      | none => rfl
      | some u =>
        rcases hA b (by rw [q]; simp) with e' | e'
        · rw [e'] at e q
          rw [hK (by rw [q]; simp)] at e
          cases e
        · obtain ⟨p, hp, ep⟩ := List.mem_map.mp e'
          rw [← ep, nT p hp] at e
          cases e)
    have hM : L2.Mod K mg (hidT s₁.heap H) := ⟨hKb, nsK hns, ⟨mb, nsK hb, hbb⟩, let ⟨mc, h1, h2⟩ := hlim; ⟨mc, nsK h1, h2⟩⟩
    have TB : ∀ p ∈ cs, TabB (hidT s₁.heap H) mg p.1 p.2 := fun p hp => by
      have hTp := hT p hp
      refine ⟨?_, ?_, fun z => ?_⟩
      · obtain ⟨o, us, file, tf, flags, tg, inF, text, tt, e1, r1, r2, r3, r4, r5, r6, r7, r8, hne⟩ := C p hp
        refine ⟨o, us, file, tf, flags, tg, inF, text, tt, base_of e1 (noD e1 (fun vs n z => ?_) fun z => ?_), r1, r2, r3, r4, r5, r6, r7, r8, hne⟩
        · rw [r2] at z
          cases z
        · rw [r2] at z
          cases z
          simp at r3
      · obtain ⟨bm, ob, b1, b2, b3, b4, b5, b6⟩ := hbm
        have nG : bm ≠ mainGlobals := fun q => by
          obtain ⟨o, es, ep, e, hd, _⟩ := hns
          rw [q, e] at b3
          cases b3
          rw [hd] at b6
          cases b6
        have nP : bm ≠ p.2 := fun q => by
          rw [q, hTp] at b3
          cases b3
          cases b6
        refine ⟨bm, ob, b1, b2, nG, nP, base_of b3 (noD b3 (fun vs n z => ?_) fun z => ?_), b4, b5, b6⟩
        · rw [b6] at z
          cases z
        · rw [b6] at z
          cases z
      · obtain ⟨o, es, ep, e, hd, _⟩ := hns
        rw [z, hTp] at e
        cases e
        cases hd
    have e0 : Env0 P w K mg (hidT s₁.heap H) callerA [] s₁ H := ⟨rfl, hM, fun b o e => of_hidT e, Nat.le_of_eq (hidT_size _ _), trivial, fun b hb => absurd (show b ∈ ([] : List Addr) from hb) (by simp), hok, .of_eq hg⟩
    refine codeAny_mono ((F _ hKb (nsK hns) TB).run callerA [] s₁ H ⟨[.ref a], []⟩ [.ref a] [.ref a] _ _ rfl hr e0 (hbind s₁ (.ref a)) (.cons rfl .nil) (hsp H hH hS)) fun r s' h => ?_
    cases r with
    | error e => exact h.elim
    | ok fl =>
      cases fl with
      | next => exact False.elim h
      | brk => exact False.elim h
      | cont => exact False.elim h
      | ret u =>
        obtain ⟨v, H', os, bare, un, hok', r', q⟩ := h
        have q' : v = .bl true := q
        subst q'
        obtain rfl : u = Value.bool true := r'
        have key : ∀ b o, b ∉ cs.map (·.2) → s₁.heap.get? b = some o → s'.heap.get? b = some o := fun b o nb e => by
          cases q : H b with
          | none => exact un.keep b o e q (by intro z; exact absurd (show b ∈ ([] : List Addr) from z) (by simp)) (by simp)
          | some u =>
            rcases hO b with z | z | ⟨ob, xs, z⟩
            · rw [q] at z; cases z
            · exact absurd z nb
            · have z2 := un.frzs b ob _ z
              obtain ⟨e1, _⟩ := hok b _ z
              obtain ⟨e2, _⟩ := hok' b _ z2
              rw [e] at e1; cases e1
              exact e2
        have grown : ∀ p ∈ cs, ∃ more : Array Value, s'.heap.get? p.2 = some { cls := .none, data := .fields more } := fun p hp => by
          obtain ⟨more, z⟩ := un.tbls p.2 #[] (hH p hp)
          exact ⟨_, hok' p.2 _ z⟩
        refine ⟨rfl, ⟨fun b o e => ?_, fun b o e => ?_⟩, os, bare⟩
        · by_cases hb : b ∈ cs.map (·.2)
          · obtain ⟨p, hp, ep⟩ := List.mem_map.mp hb
            obtain ⟨more, hm⟩ := grown p hp
            rw [← ep] at e ⊢
            rw [hT p hp] at e
            cases e
            exact .inr (.inl ⟨((C p hp).tab (hT p hp)).isCodeTable, rfl, #[], more, rfl, by rw [Array.empty_append]; exact hm⟩)
          · exact .inl (key b o hb e)
        · by_cases hb : b ∈ cs.map (·.2)
          · obtain ⟨p, hp, ep⟩ := List.mem_map.mp hb
            obtain ⟨more, hm⟩ := grown p hp
            rw [← ep]
            exact ⟨_, hm⟩
          · exact ⟨o, key b o hb e⟩
  cases hk : K.lookup a with
  | some o =>
    have e := KX a o hk
    rw [ha] at e
    cases e
    refine core (fun b => if b ∈ cs.map (·.2) then some (.tbl #[]) else none) (fun p hp => if_pos (memT p hp)) (fun b => ?_) (.inr ⟨_, vs.toArray, _, hk, rfl, rfl, rfl, by rw [List.size_toArray, lenV]; exact hl, by simpa using rv⟩) (fun b u z => ?_) (fun b z => ?_) fun z => absurd (show (if a ∈ cs.map (·.2) then some (HO.tbl #[]) else none) = none from if_neg aT) z
    · by_cases hb : b ∈ cs.map (·.2)
      · exact .inr (.inl hb)
      · exact .inl (if_neg hb)
    · by_cases hb : b ∈ cs.map (·.2)
      · have z' := (if_pos hb).symm.trans z
        cases z'
        exact isT b hb
      · have z' := (if_neg hb).symm.trans z
        cases z'
    · by_cases hb : b ∈ cs.map (·.2)
      · exact .inr hb
      · exact absurd (if_neg hb) z
  | none =>
    refine core (fun b => if b = a then some (.frz { cls := .type "list", data := .seq vs.toArray } (.lst (ns.map V.int))) else if b ∈ cs.map (·.2) then some (.tbl #[]) else none) (fun p hp => (if_neg (show ¬ p.2 = a from fun z => aT (by rw [← z]; exact memT p hp))).trans (if_pos (memT p hp))) (fun b => ?_)
      (.inl (.inr ⟨{ cls := .type "list", data := .seq vs.toArray }, if_pos rfl⟩)) (fun b u z => ?_) (fun b z => ?_) fun _ => hk
    · by_cases hb : b = a
      · exact .inr (.inr ⟨_, _, if_pos hb⟩)
      · by_cases hb2 : b ∈ cs.map (·.2)
        · exact .inr (.inl hb2)
        · exact .inl ((if_neg hb).trans (if_neg hb2))
    · by_cases hb : b = a
      · have z' := (if_pos hb).symm.trans z
        cases z'
        rw [hb]
        exact ⟨ha, by rw [List.length_map]; exact hl, vs, _, rv, ha⟩
      · have z1 := (if_neg hb).symm.trans z
        by_cases hb2 : b ∈ cs.map (·.2)
        · have z' := (if_pos hb2).symm.trans z1
          cases z'
          exact isT b hb2
        · have z' := (if_neg hb2).symm.trans z1
          cases z'
    · by_cases hb : b = a
      · exact .inl hb
      · by_cases hb2 : b ∈ cs.map (·.2)
        · exact .inr hb2
        · exact absurd ((if_neg hb).trans (if_neg hb2)) z
theorem walkG_ofTs {l : PySem.W.OpenLaw} {n k : Nat} {q : Program} {loose : List Str} {XP : (Str → Option Value) → Heap → Prop} {YP : World → Heap → Prop} {d : DefRec} {K : Params → PySem.W.Frag} {x : Str}
    (hn : l.most = some n) (hn2 : n ≤ sizeLine) (hdf : d.params.defaults = []) (hr : Room k callerA) (hY : ∀ (w : World) (h : Heap), YP w h → (K w.params).In h)
    (F : ∀ (w : World) (mg : Str → Option Value) (fa : Addr) (h : Heap), YP w h → (K w.params).In h → h.Ns mainGlobals mg → mg d.name = some (.ref fa) →
      ∃ (fd : FuncData) (cs : List (Addr × Addr)) (sp : Sp), (∀ p ∈ cs, h.get? p.2 = some { cls := .none, data := .fields #[] }) ∧ (∀ p ∈ cs, (K w.params).lookup p.2 = none) ∧ (∀ p ∈ cs, PySem.W.CodeHd h p.1 p.2) ∧ (∀ (s : Shared) (u : Value), BindsTo s fd ⟨[u], []⟩ [(x, u)]) ∧
        (∀ (H : Hp) (a : Addr) (ns : List Int), ns.length ≤ n → (∀ p ∈ cs, H p.2 = some (.tbl #[])) → SqL (K w.params) H a (ns.map V.int) → sp [.ref a] H (fun v _ => v = .bl true) fun _ _ _ => False) ∧
        ∀ base : Heap, (K w.params).In base → base.Ns mainGlobals mg → (∀ p ∈ cs, TabB base mg p.1 p.2) → FnG l.prog w (K w.params) mg base CX0 k fa fd [x] sp) :
    PySem.W.WalkO q loose XP YP l.row.toRowW d [] (fun f vs => PySem.call f vs) := by
  refine Att.attach_callB hn hdf fun w s₀ s₁ mg mb fa o pm cd doc a vs ns G Y ho hd hcd hmg hobj hints hlen hbits hg => ?_
  have KX := hY w _ Y
  obtain ⟨fd, cs, sp, hT, nT, C, hb, hsp, hF⟩ := F w mg fa _ Y KX G.T.g hmg
  exact lawG_callTs KX G.T.g G.T.b G.T.builtins G.T.nolimit hg hT nT C G.T.bmain hobj hints (Nat.le_trans hlen hn2) hr hF hb (fun H hH hS => hsp H a ns hlen hH hS)
end L2.TL

namespace TR
open PySem PySem.Spec PyProof.Rows L2 L2.TT StX ClX L2.TL LamX
/-- the facts of one class, each read off the written part -/
structure ClsK (K : PySem.W.Frag) (C fI : Addr) (bm : List Value) (newId : String) (f : Str) : Prop where
  ini : PySem.W.excInitIn K C bm newId = true
  ovr : PySem.W.excOver K C bm = true
  sa : PySem.W.findIn K (.ref C) "__setattr__" = some (some (.builtin "object.__setattr__"))
  ga : PySem.W.findIn K (.ref C) "__getattribute__" = some (some (.builtin "BaseException.__getattribute__"))
  gg : PySem.W.findIn K (.ref C) "__getattr__" = some none
  sub : PySem.W.subIn K (.ref C) (.type "BaseException") = some true
  hd : PySem.W.hasDictIn K C = true
  kp : PySem.W.keepIn K (.ref C) = true
  ca : PySem.W.findIn K (.ref C) "__class__" = some (some (.builtin "object.__class__"))
  ob : PySem.W.mroIn K C (.type "object") = some true
  nF : PySem.W.findIn K (.ref C) f = some none
  tI : PySem.W.typeIn K (.ref fI) = some (.type "function")
  typ : PySem.W.typeIn K (.ref C) = some (.type "type")
theorem ClsK.xc {K : PySem.W.Frag} {C fI : Addr} {bm : List Value} {newId : String} {f : Str} (z : ClsK K C fI bm newId f) : XC K C bm newId := ⟨z.ini, z.ovr, z.sa, z.ga, z.gg, z.sub, z.hd, z.kp, z.ca, z.ob⟩
def OxK (K : PySem.W.Frag) (C : Addr) : Prop := ∃ nm q N bs bm sn sub ab col dd k0 k1 k2 k3 k5, K.lookup C = some (PySem.excClassObj nm q C N bs bm true sn sub ab col dd k0 k1 k2 k3 k5 "ValueError.__new__") ∧ PySem.HandSPX.refsVE bm = true
theorem OxK.oexc {K : PySem.W.Frag} {C fI : Addr} {bm : List Value} {newId : String} {f : Str} (o : OxK K C) (z : ClsK K C fI bm newId f) : OexC K C := ⟨o, z.sa, z.sub, z.typ, z.kp⟩
theorem sc_xS : FnScope ["self", "value"] ["self", "value"] (defScope s_InvalidStation_init) := ⟨rfl, rfl, rfl, by decide +kernel, rfl, by decide +kernel, by decide +kernel⟩
theorem sc_xP : FnScope ["self", "value"] ["self", "value"] (defScope s_InvalidPair_init) := ⟨rfl, rfl, rfl, by decide +kernel, rfl, by decide +kernel, by decide +kernel⟩
theorem sc_xL : FnScope ["self", "value"] ["self", "value"] (defScope s_InvalidLength_init) := ⟨rfl, rfl, rfl, by decide +kernel, rfl, by decide +kernel, by decide +kernel⟩
theorem all_mk {P : Program} {w : World} {K : PySem.W.Frag} {h : Heap} {mg : Str → Option Value} {fa : Addr} (X : K.In h) (G : h.Ns mainGlobals mg) (hfa : mg "law" = some (.ref fa))
  {fI1 : Addr} {ocI1 kVI1 dcI1 pmI1 cdI1 ctI1 : Value} {odI1 anI1 : Option Addr} {slI1 : Array (Option Value)}
  {fI2 : Addr} {ocI2 kVI2 dcI2 pmI2 cdI2 ctI2 : Value} {odI2 anI2 : Option Addr} {slI2 : Array (Option Value)}
  {fI3 : Addr} {ocI3 kVI3 dcI3 pmI3 cdI3 ctI3 : Value} {odI3 anI3 : Option Addr} {slI3 : Array (Option Value)}
  {fI4 : Addr} {ocI4 kVI4 dcI4 pmI4 cdI4 ctI4 : Value} {odI4 anI4 : Option Addr} {slI4 : Array (Option Value)}
  {fI5 : Addr} {ocI5 kVI5 dcI5 pmI5 cdI5 ctI5 : Value} {odI5 anI5 : Option Addr} {slI5 : Array (Option Value)}
  {fI6 : Addr} {ocI6 kVI6 dcI6 pmI6 cdI6 ctI6 : Value} {odI6 anI6 : Option Addr} {slI6 : Array (Option Value)}
  {fI7 : Addr} {ocI7 kVI7 dcI7 pmI7 cdI7 ctI7 : Value} {odI7 anI7 : Option Addr} {slI7 : Array (Option Value)}
  {fI8 : Addr} {ocI8 kVI8 dcI8 pmI8 cdI8 ctI8 : Value} {odI8 anI8 : Option Addr} {slI8 : Array (Option Value)}
  {fI9 : Addr} {ocI9 kVI9 dcI9 pmI9 cdI9 ctI9 : Value} {odI9 anI9 : Option Addr} {slI9 : Array (Option Value)}
  {fIA : Addr} {ocIA kVIA dcIA pmIA cdIA ctIA : Value} {odIA anIA : Option Addr} {slIA : Array (Option Value)}
  {fIB : Addr} {ocIB kVIB dcIB pmIB cdIB ctIB : Value} {odIB anIB : Option Addr} {slIB : Array (Option Value)}
  {fIC : Addr} {ocIC kVIC dcIC pmIC cdIC ctIC : Value} {odIC anIC : Option Addr} {slIC : Array (Option Value)}
  {fID : Addr} {ocID kVID dcID pmID cdID ctID : Value} {odID anID : Option Addr} {slID : Array (Option Value)}
  {fIE : Addr} {ocIE kVIE dcIE pmIE cdIE ctIE : Value} {odIE anIE : Option Addr} {slIE : Array (Option Value)}
  {fIF : Addr} {ocIF kVIF dcIF pmIF cdIF ctIF : Value} {odIF anIF : Option Addr} {slIF : Array (Option Value)}
  {fJ1 : Addr} {ocJ1 kVJ1 dcJ1 pmJ1 cdJ1 ctJ1 : Value} {odJ1 anJ1 : Option Addr} {slJ1 : Array (Option Value)}
  {fJ2 : Addr} {ocJ2 kVJ2 dcJ2 pmJ2 cdJ2 ctJ2 : Value} {odJ2 anJ2 : Option Addr} {slJ2 : Array (Option Value)}
  {fJ3 : Addr} {ocJ3 kVJ3 dcJ3 pmJ3 cdJ3 ctJ3 : Value} {odJ3 anJ3 : Option Addr} {slJ3 : Array (Option Value)}
  {fJ4 : Addr} {ocJ4 kVJ4 dcJ4 pmJ4 cdJ4 ctJ4 : Value} {odJ4 anJ4 : Option Addr} {slJ4 : Array (Option Value)}
  {fL1 : Addr} {ocL1 kVL1 dcL1 pmL1 cdL1 ctL1 : Value} {odL1 anL1 : Option Addr} {slL1 : Array (Option Value)}
  {fL2 : Addr} {ocL2 kVL2 dcL2 pmL2 cdL2 ctL2 : Value} {odL2 anL2 : Option Addr} {slL2 : Array (Option Value)}
  {fL3 : Addr} {ocL3 kVL3 dcL3 pmL3 cdL3 ctL3 : Value} {odL3 anL3 : Option Addr} {slL3 : Array (Option Value)}
  {fL4 : Addr} {ocL4 kVL4 dcL4 pmL4 cdL4 ctL4 : Value} {odL4 anL4 : Option Addr} {slL4 : Array (Option Value)}
  {fL5 : Addr} {ocL5 kVL5 dcL5 pmL5 cdL5 ctL5 : Value} {odL5 anL5 : Option Addr} {slL5 : Array (Option Value)}
  {fL6 : Addr} {ocL6 kVL6 dcL6 pmL6 cdL6 ctL6 : Value} {odL6 anL6 : Option Addr} {slL6 : Array (Option Value)}
  {fL7 : Addr} {ocL7 kVL7 dcL7 pmL7 cdL7 ctL7 : Value} {odL7 anL7 : Option Addr} {slL7 : Array (Option Value)}
  {fL8 : Addr} {ocL8 kVL8 dcL8 pmL8 ctL8 : Value} {odL8 anL8 : Option Addr} {slL8 : Array (Option Value)}
  {qL8 PL8 : Addr} {ccL8 : Value} {codL8 : Option Addr} {cvsL8 : Array Value} {cslL8 : Array (Option Value)}
  {fL9 : Addr} {ocL9 kVL9 dcL9 pmL9 ctL9 : Value} {odL9 anL9 : Option Addr} {slL9 : Array (Option Value)}
  {qL9 PL9 : Addr} {ccL9 : Value} {codL9 : Option Addr} {cvsL9 : Array Value} {cslL9 : Array (Option Value)}
  {fL0 : Addr} {ocL0 kVL0 dcL0 pmL0 cdL0 ctL0 : Value} {odL0 anL0 : Option Addr} {slL0 : Array (Option Value)}
  {fM1 : Addr} {ocM1 kVM1 dcM1 pmM1 cdM1 ctM1 : Value} {odM1 anM1 : Option Addr} {slM1 : Array (Option Value)}
  {fM2 : Addr} {ocM2 kVM2 dcM2 pmM2 cdM2 ctM2 : Value} {odM2 anM2 : Option Addr} {slM2 : Array (Option Value)}
  {fM3 : Addr} {ocM3 kVM3 dcM3 pmM3 cdM3 ctM3 : Value} {odM3 anM3 : Option Addr} {slM3 : Array (Option Value)}
  {fM4 : Addr} {ocM4 kVM4 dcM4 pmM4 cdM4 ctM4 : Value} {odM4 anM4 : Option Addr} {slM4 : Array (Option Value)}
  {fM5 : Addr} {ocM5 kVM5 dcM5 pmM5 cdM5 ctM5 : Value} {odM5 anM5 : Option Addr} {slM5 : Array (Option Value)}
  {C pS pO : Addr} {rS rO : List Value} {tM : Tok}
  {CR CU CM CSt CLi : Addr}
  {CS gS : Addr} {ocxS kVxS dcxS pmxS cdxS ctxS : Value} {odxS anxS : Option Addr} {slxS : Array (Option Value)}
  {CP gP : Addr} {ocxP kVxP dcxP pmxP cdxP ctxP : Value} {odxP anxP : Option Addr} {slxP : Array (Option Value)}
  {CL gL : Addr} {ocxL kVxL dcxL pmxL cdxL ctxL : Value} {odxL anxL : Option Addr} {slxL : Array (Option Value)}
  (aI1 : PySem.W.nsIn K mainGlobals "is_integer" = some (some (.ref fI1)))
  (lI1 : K.lookup fI1 = some ⟨ocI1, odI1, .func (PySem.W.fnOf "is_integer" "is_integer" (defArgs s_is_integer) (defBody s_is_integer) (defScope s_is_integer) .none kVI1 dcI1 pmI1 anI1 cdI1 ctI1), slI1⟩)
  (cI1 : PySem.W.codeIn K cdI1 "is_integer" = true)
  (kI1 : PySem.W.keepIn K (.ref fI1) = true)
  (aI2 : PySem.W.nsIn K mainGlobals "is_number_from" = some (some (.ref fI2)))
  (lI2 : K.lookup fI2 = some ⟨ocI2, odI2, .func (PySem.W.fnOf "is_number_from" "is_number_from" (defArgs s_is_number_from) (defBody s_is_number_from) (defScope s_is_number_from) .none kVI2 dcI2 pmI2 anI2 cdI2 ctI2), slI2⟩)
  (cI2 : PySem.W.codeIn K cdI2 "is_number_from" = true)
  (kI2 : PySem.W.keepIn K (.ref fI2) = true)
  (aI3 : PySem.W.nsIn K mainGlobals "is_pair_of_stations" = some (some (.ref fI3)))
  (lI3 : K.lookup fI3 = some ⟨ocI3, odI3, .func (PySem.W.fnOf "is_pair_of_stations" "is_pair_of_stations" (defArgs s_is_pair_of_stations) (defBody s_is_pair_of_stations) (defScope s_is_pair_of_stations) .none kVI3 dcI3 pmI3 anI3 cdI3 ctI3), slI3⟩)
  (cI3 : PySem.W.codeIn K cdI3 "is_pair_of_stations" = true)
  (kI3 : PySem.W.keepIn K (.ref fI3) = true)
  (aI4 : PySem.W.nsIn K mainGlobals "is_station" = some (some (.ref fI4)))
  (lI4 : K.lookup fI4 = some ⟨ocI4, odI4, .func (PySem.W.fnOf "is_station" "is_station" (defArgs s_is_station) (defBody s_is_station) (defScope s_is_station) .none kVI4 dcI4 pmI4 anI4 cdI4 ctI4), slI4⟩)
  (cI4 : PySem.W.codeIn K cdI4 "is_station" = true)
  (kI4 : PySem.W.keepIn K (.ref fI4) = true)
  (aI5 : PySem.W.nsIn K mainGlobals "check_station" = some (some (.ref fI5)))
  (lI5 : K.lookup fI5 = some ⟨ocI5, odI5, .func (PySem.W.fnOf "check_station" "check_station" (defArgs s_check_station) (defBody s_check_station) (defScope s_check_station) .none kVI5 dcI5 pmI5 anI5 cdI5 ctI5), slI5⟩)
  (cI5 : PySem.W.codeIn K cdI5 "check_station" = true)
  (kI5 : PySem.W.keepIn K (.ref fI5) = true)
  (aI6 : PySem.W.nsIn K mainGlobals "check_length" = some (some (.ref fI6)))
  (lI6 : K.lookup fI6 = some ⟨ocI6, odI6, .func (PySem.W.fnOf "check_length" "check_length" (defArgs s_check_length) (defBody s_check_length) (defScope s_check_length) .none kVI6 dcI6 pmI6 anI6 cdI6 ctI6), slI6⟩)
  (cI6 : PySem.W.codeIn K cdI6 "check_length" = true)
  (kI6 : PySem.W.keepIn K (.ref fI6) = true)
  (aI7 : PySem.W.nsIn K mainGlobals "layers" = some (some (.ref fI7)))
  (lI7 : K.lookup fI7 = some ⟨ocI7, odI7, .func (PySem.W.fnOf "layers" "layers" (defArgs s_layers) (defBody s_layers) (defScope s_layers) .none kVI7 dcI7 pmI7 anI7 cdI7 ctI7), slI7⟩)
  (cI7 : PySem.W.codeIn K cdI7 "layers" = true)
  (kI7 : PySem.W.keepIn K (.ref fI7) = true)
  (aI8 : PySem.W.nsIn K mainGlobals "behind" = some (some (.ref fI8)))
  (lI8 : K.lookup fI8 = some ⟨ocI8, odI8, .func (PySem.W.fnOf "behind" "behind" (defArgs s_behind) (defBody s_behind) (defScope s_behind) .none kVI8 dcI8 pmI8 anI8 cdI8 ctI8), slI8⟩)
  (cI8 : PySem.W.codeIn K cdI8 "behind" = true)
  (kI8 : PySem.W.keepIn K (.ref fI8) = true)
  (aI9 : PySem.W.nsIn K mainGlobals "depth_behind" = some (some (.ref fI9)))
  (lI9 : K.lookup fI9 = some ⟨ocI9, odI9, .func (PySem.W.fnOf "depth_behind" "depth_behind" (defArgs s_depth_behind) (defBody s_depth_behind) (defScope s_depth_behind) .none kVI9 dcI9 pmI9 anI9 cdI9 ctI9), slI9⟩)
  (cI9 : PySem.W.codeIn K cdI9 "depth_behind" = true)
  (kI9 : PySem.W.keepIn K (.ref fI9) = true)
  (aIA : PySem.W.nsIn K mainGlobals "branch_depths" = some (some (.ref fIA)))
  (lIA : K.lookup fIA = some ⟨ocIA, odIA, .func (PySem.W.fnOf "branch_depths" "branch_depths" (defArgs s_branch_depths) (defBody s_branch_depths) (defScope s_branch_depths) .none kVIA dcIA pmIA anIA cdIA ctIA), slIA⟩)
  (cIA : PySem.W.codeIn K cdIA "branch_depths" = true)
  (kIA : PySem.W.keepIn K (.ref fIA) = true)
  (aIB : PySem.W.nsIn K mainGlobals "deep_branches" = some (some (.ref fIB)))
  (lIB : K.lookup fIB = some ⟨ocIB, odIB, .func (PySem.W.fnOf "deep_branches" "deep_branches" (defArgs s_deep_branches) (defBody s_deep_branches) (defScope s_deep_branches) .none kVIB dcIB pmIB anIB cdIB ctIB), slIB⟩)
  (cIB : PySem.W.codeIn K cdIB "deep_branches" = true)
  (kIB : PySem.W.keepIn K (.ref fIB) = true)
  (aIC : PySem.W.nsIn K mainGlobals "trunk" = some (some (.ref fIC)))
  (lIC : K.lookup fIC = some ⟨ocIC, odIC, .func (PySem.W.fnOf "trunk" "trunk" (defArgs s_trunk) (defBody s_trunk) (defScope s_trunk) .none kVIC dcIC pmIC anIC cdIC ctIC), slIC⟩)
  (cIC : PySem.W.codeIn K cdIC "trunk" = true)
  (kIC : PySem.W.keepIn K (.ref fIC) = true)
  (aID : PySem.W.nsIn K mainGlobals "pivots" = some (some (.ref fID)))
  (lID : K.lookup fID = some ⟨ocID, odID, .func (PySem.W.fnOf "pivots" "pivots" (defArgs s_pivots) (defBody s_pivots) (defScope s_pivots) .none kVID dcID pmID anID cdID ctID), slID⟩)
  (cID : PySem.W.codeIn K cdID "pivots" = true)
  (kID : PySem.W.keepIn K (.ref fID) = true)
  (aIE : PySem.W.nsIn K mainGlobals "_layers_behind" = some (some (.ref fIE)))
  (lIE : K.lookup fIE = some ⟨ocIE, odIE, .func (PySem.W.fnOf "_layers_behind" "_layers_behind" (defArgs s_layers_behind) (defBody s_layers_behind) (defScope s_layers_behind) .none kVIE dcIE pmIE anIE cdIE ctIE), slIE⟩)
  (cIE : PySem.W.codeIn K cdIE "_layers_behind" = true)
  (kIE : PySem.W.keepIn K (.ref fIE) = true)
  (aIF : PySem.W.nsIn K mainGlobals "_stations_with_deep_branches" = some (some (.ref fIF)))
  (lIF : K.lookup fIF = some ⟨ocIF, odIF, .func (PySem.W.fnOf "_stations_with_deep_branches" "_stations_with_deep_branches" (defArgs s_stations_with_deep_branches) (defBody s_stations_with_deep_branches) (defScope s_stations_with_deep_branches) .none kVIF dcIF pmIF anIF cdIF ctIF), slIF⟩)
  (cIF : PySem.W.codeIn K cdIF "_stations_with_deep_branches" = true)
  (kIF : PySem.W.keepIn K (.ref fIF) = true)
  (aJ1 : PySem.W.nsIn K mainGlobals "joined" = some (some (.ref fJ1)))
  (lJ1 : K.lookup fJ1 = some ⟨ocJ1, odJ1, .func (PySem.W.fnOf "joined" "joined" (defArgs s_joined) (defBody s_joined) (defScope s_joined) .none kVJ1 dcJ1 pmJ1 anJ1 cdJ1 ctJ1), slJ1⟩)
  (cJ1 : PySem.W.codeIn K cdJ1 "joined" = true)
  (kJ1 : PySem.W.keepIn K (.ref fJ1) = true)
  (aJ2 : PySem.W.nsIn K mainGlobals "first_wrong_track" = some (some (.ref fJ2)))
  (lJ2 : K.lookup fJ2 = some ⟨ocJ2, odJ2, .func (PySem.W.fnOf "first_wrong_track" "first_wrong_track" (defArgs s_first_wrong_track) (defBody s_first_wrong_track) (defScope s_first_wrong_track) .none kVJ2 dcJ2 pmJ2 anJ2 cdJ2 ctJ2), slJ2⟩)
  (cJ2 : PySem.W.codeIn K cdJ2 "first_wrong_track" = true)
  (kJ2 : PySem.W.keepIn K (.ref fJ2) = true)
  (aJ3 : PySem.W.nsIn K mainGlobals "_neighbours_of" = some (some (.ref fJ3)))
  (lJ3 : K.lookup fJ3 = some ⟨ocJ3, odJ3, .func (PySem.W.fnOf "_neighbours_of" "_neighbours_of" (defArgs s_neighbours_of) (defBody s_neighbours_of) (defScope s_neighbours_of) .none kVJ3 dcJ3 pmJ3 anJ3 cdJ3 ctJ3), slJ3⟩)
  (cJ3 : PySem.W.codeIn K cdJ3 "_neighbours_of" = true)
  (kJ3 : PySem.W.keepIn K (.ref fJ3) = true)
  (aJ4 : PySem.W.nsIn K mainGlobals "_places_below_first" = some (some (.ref fJ4)))
  (lJ4 : K.lookup fJ4 = some ⟨ocJ4, odJ4, .func (PySem.W.fnOf "_places_below_first" "_places_below_first" (defArgs s_places_below_first) (defBody s_places_below_first) (defScope s_places_below_first) .none kVJ4 dcJ4 pmJ4 anJ4 cdJ4 ctJ4), slJ4⟩)
  (cJ4 : PySem.W.codeIn K cdJ4 "_places_below_first" = true)
  (kJ4 : PySem.W.keepIn K (.ref fJ4) = true)
  (aL1 : PySem.W.nsIn K mainGlobals "_law_begin" = some (some (.ref fL1)))
  (lL1 : K.lookup fL1 = some ⟨ocL1, odL1, .func (PySem.W.fnOf "_law_begin" "_law_begin" (defArgs s_law_begin) (defBody s_law_begin) (defScope s_law_begin) .none kVL1 dcL1 pmL1 anL1 cdL1 ctL1), slL1⟩)
  (cL1 : PySem.W.codeIn K cdL1 "_law_begin" = true)
  (kL1 : PySem.W.keepIn K (.ref fL1) = true)
  (aL2 : PySem.W.nsIn K mainGlobals "_law_mixed" = some (some (.ref fL2)))
  (lL2 : K.lookup fL2 = some ⟨ocL2, odL2, .func (PySem.W.fnOf "_law_mixed" "_law_mixed" (defArgs s_law_mixed) (defBody s_law_mixed) (defScope s_law_mixed) .none kVL2 dcL2 pmL2 anL2 cdL2 ctL2), slL2⟩)
  (cL2 : PySem.W.codeIn K cdL2 "_law_mixed" = true)
  (kL2 : PySem.W.keepIn K (.ref fL2) = true)
  (aL3 : PySem.W.nsIn K mainGlobals "_law_next" = some (some (.ref fL3)))
  (lL3 : K.lookup fL3 = some ⟨ocL3, odL3, .func (PySem.W.fnOf "_law_next" "_law_next" (defArgs s_law_next) (defBody s_law_next) (defScope s_law_next) .none kVL3 dcL3 pmL3 anL3 cdL3 ctL3), slL3⟩)
  (cL3 : PySem.W.codeIn K cdL3 "_law_next" = true)
  (kL3 : PySem.W.keepIn K (.ref fL3) = true)
  (aL4 : PySem.W.nsIn K mainGlobals "_law_tracks" = some (some (.ref fL4)))
  (lL4 : K.lookup fL4 = some ⟨ocL4, odL4, .func (PySem.W.fnOf "_law_tracks" "_law_tracks" (defArgs s_law_tracks) (defBody s_law_tracks) (defScope s_law_tracks) .none kVL4 dcL4 pmL4 anL4 cdL4 ctL4), slL4⟩)
  (cL4 : PySem.W.codeIn K cdL4 "_law_tracks" = true)
  (kL4 : PySem.W.keepIn K (.ref fL4) = true)
  (aL5 : PySem.W.nsIn K mainGlobals "_law_said" = some (some (.ref fL5)))
  (lL5 : K.lookup fL5 = some ⟨ocL5, odL5, .func (PySem.W.fnOf "_law_said" "_law_said" (defArgs s_law_said) (defBody s_law_said) (defScope s_law_said) .none kVL5 dcL5 pmL5 anL5 cdL5 ctL5), slL5⟩)
  (cL5 : PySem.W.codeIn K cdL5 "_law_said" = true)
  (kL5 : PySem.W.keepIn K (.ref fL5) = true)
  (aL6 : PySem.W.nsIn K mainGlobals "_law_no_station" = some (some (.ref fL6)))
  (lL6 : K.lookup fL6 = some ⟨ocL6, odL6, .func (PySem.W.fnOf "_law_no_station" "_law_no_station" (defArgs s_law_no_station) (defBody s_law_no_station) (defScope s_law_no_station) .none kVL6 dcL6 pmL6 anL6 cdL6 ctL6), slL6⟩)
  (cL6 : PySem.W.codeIn K cdL6 "_law_no_station" = true)
  (kL6 : PySem.W.keepIn K (.ref fL6) = true)
  (aL7 : PySem.W.nsIn K mainGlobals "_law_no_length" = some (some (.ref fL7)))
  (lL7 : K.lookup fL7 = some ⟨ocL7, odL7, .func (PySem.W.fnOf "_law_no_length" "_law_no_length" (defArgs s_law_no_length) (defBody s_law_no_length) (defScope s_law_no_length) .none kVL7 dcL7 pmL7 anL7 cdL7 ctL7), slL7⟩)
  (cL7 : PySem.W.codeIn K cdL7 "_law_no_length" = true)
  (kL7 : PySem.W.keepIn K (.ref fL7) = true)
  (aL8 : PySem.W.nsIn K mainGlobals "_law_pairs_right" = some (some (.ref fL8)))
  (lL8 : K.lookup fL8 = some ⟨ocL8, odL8, .func (PySem.W.fnOf "_law_pairs_right" "_law_pairs_right" (defArgs s_law_pairs_right) (defBody s_law_pairs_right) (defScope s_law_pairs_right) .none kVL8 dcL8 pmL8 anL8 (.ref qL8) ctL8), slL8⟩)
  (cL8 : PySem.W.codeIn K (.ref qL8) "_law_pairs_right" = true)
  (kL8 : PySem.W.keepIn K (.ref fL8) = true)
  (oL8 : K.lookup qL8 = some ⟨ccL8, codL8, .fields cvsL8, cslL8⟩)
  (pL8 : cvsL8[11]? = some (.ref PL8))
  (hL8 : PySem.W.codeHdIn K qL8 PL8 = true)
  (nL8 : K.lookup PL8 = none)
  (tL8 : h.get? PL8 = some { cls := .none, data := .fields #[] })
  (aL9 : PySem.W.nsIn K mainGlobals "_law_lengths_right" = some (some (.ref fL9)))
  (lL9 : K.lookup fL9 = some ⟨ocL9, odL9, .func (PySem.W.fnOf "_law_lengths_right" "_law_lengths_right" (defArgs s_law_lengths_right) (defBody s_law_lengths_right) (defScope s_law_lengths_right) .none kVL9 dcL9 pmL9 anL9 (.ref qL9) ctL9), slL9⟩)
  (cL9 : PySem.W.codeIn K (.ref qL9) "_law_lengths_right" = true)
  (kL9 : PySem.W.keepIn K (.ref fL9) = true)
  (oL9 : K.lookup qL9 = some ⟨ccL9, codL9, .fields cvsL9, cslL9⟩)
  (pL9 : cvsL9[11]? = some (.ref PL9))
  (hL9 : PySem.W.codeHdIn K qL9 PL9 = true)
  (nL9 : K.lookup PL9 = none)
  (tL9 : h.get? PL9 = some { cls := .none, data := .fields #[] })
  (aL0 : PySem.W.nsIn K mainGlobals "law" = some (some (.ref fL0)))
  (lL0 : K.lookup fL0 = some ⟨ocL0, odL0, .func (PySem.W.fnOf "law" "law" (defArgs s_law) (defBody s_law) (defScope s_law) .none kVL0 dcL0 pmL0 anL0 cdL0 ctL0), slL0⟩)
  (cL0 : PySem.W.codeIn K cdL0 "law" = true)
  (kL0 : PySem.W.keepIn K (.ref fL0) = true)
  (nPP : PL8 ≠ PL9)
  (aC : PySem.W.nsIn K mainGlobals "Railway" = some (some (.ref C)))
  (aM1 : PySem.W.findIn K (.ref C) "__init__" = some (some (.ref fM1)))
  (iM1 : PySem.W.isFn K (.ref fM1) = true)
  (aM2 : PySem.W.findIn K (.ref C) "path" = some (some (.ref fM2)))
  (iM2 : PySem.W.isFn K (.ref fM2) = true)
  (aM5 : PySem.W.findIn K (.ref C) "neighbours" = some (some (.ref fM5)))
  (iM5 : PySem.W.isFn K (.ref fM5) = true)
  (aM3 : PySem.W.findIn K (.ref C) "size" = some (some (.ref pS)))
  (gM3 : PySem.W.specialIn K (.ref pS) "__get__" = some (some (.builtin "property.__get__")))
  (tM3 : PySem.W.takesIn K (.ref pS) = some true)
  (rM3 : PySem.W.recIn K pS "property" = some (.ref fM3 :: rS))
  (aM4 : PySem.W.findCls K (.ref C) (.type "type") "of" = some (.get (.builtin "classmethod.__get__") (.ref pO) .none (.ref C)))
  (rM4 : PySem.W.recIn K pO "classmethod" = some (.ref fM4 :: rO))
  (iM4 : PySem.W.fnIn K fM4 = true)
  (lM1 : K.lookup fM1 = some ⟨ocM1, odM1, .func (PySem.W.fnOf "__init__" "Railway.__init__" (defArgs s_Railway_init) (defBody s_Railway_init) (defScope s_Railway_init) .none kVM1 dcM1 pmM1 anM1 cdM1 ctM1), slM1⟩)
  (cM1 : PySem.W.codeIn K cdM1 "Railway.__init__" = true)
  (kM1 : PySem.W.keepIn K (.ref fM1) = true)
  (lM2 : K.lookup fM2 = some ⟨ocM2, odM2, .func (PySem.W.fnOf "path" "Railway.path" (defArgs s_Railway_path) (defBody s_Railway_path) (defScope s_Railway_path) .none kVM2 dcM2 pmM2 anM2 cdM2 ctM2), slM2⟩)
  (cM2 : PySem.W.codeIn K cdM2 "Railway.path" = true)
  (kM2 : PySem.W.keepIn K (.ref fM2) = true)
  (lM3 : K.lookup fM3 = some ⟨ocM3, odM3, .func (PySem.W.fnOf "size" "Railway.size" (defArgs s_Railway_size) (defBody s_Railway_size) (defScope s_Railway_size) .none kVM3 dcM3 pmM3 anM3 cdM3 ctM3), slM3⟩)
  (cM3 : PySem.W.codeIn K cdM3 "Railway.size" = true)
  (kM3 : PySem.W.keepIn K (.ref fM3) = true)
  (lM4 : K.lookup fM4 = some ⟨ocM4, odM4, .func (PySem.W.fnOf "of" "Railway.of" (defArgs s_Railway_of) (defBody s_Railway_of) (defScope s_Railway_of) .none kVM4 dcM4 pmM4 anM4 cdM4 ctM4), slM4⟩)
  (cM4 : PySem.W.codeIn K cdM4 "Railway.of" = true)
  (kM4 : PySem.W.keepIn K (.ref fM4) = true)
  (lM5 : K.lookup fM5 = some ⟨ocM5, odM5, .func (PySem.W.fnOf "neighbours" "Railway.neighbours" (defArgs s_Railway_neighbours) (defBody s_Railway_neighbours) (defScope s_Railway_neighbours) .none kVM5 dcM5 pmM5 anM5 cdM5 ctM5), slM5⟩)
  (cM5 : PySem.W.codeIn K cdM5 "Railway.neighbours" = true)
  (kM5 : PySem.W.keepIn K (.ref fM5) = true)
  (cR : PySem.W.readsIn K C (.type "type") = true)
  (cG : PySem.W.specialIn K (.ref C) "__getattribute__" = some (some (.builtin "type.__getattribute__")))
  (cM : PySem.W.findCls K (.ref C) (.type "type") "MOST_STATIONS" = some (.val (.int 100 tM)))
  (pg : PySem.W.plainGet K C Str.empty = true)
  (hd : PySem.W.hasDictIn K C = true)
  (po : PySem.W.plainOver K C = true)
  (sa : PySem.W.findIn K (.ref C) "__setattr__" = some (some (.builtin "object.__setattr__")))
  (mk : PySem.W.makesIn K C = true)
  (kc : PySem.W.keepIn K (.ref C) = true)
  (n0 : PySem.W.findIn K (.ref C) "_tracks" = some none)
  (n1 : PySem.W.findIn K (.ref C) "_neighbours" = some none)
  (n2 : PySem.W.findIn K (.ref C) "_above" = some none)
  (n3 : PySem.W.findIn K (.ref C) "_levels" = some none)
  (z_len : PySem.W.nsIn K mainGlobals "len" = some none)
  (z_isinstance : PySem.W.nsIn K mainGlobals "isinstance" = some none)
  (z_int : PySem.W.nsIn K mainGlobals "int" = some none)
  (z_bool : PySem.W.nsIn K mainGlobals "bool" = some none)
  (z_tuple : PySem.W.nsIn K mainGlobals "tuple" = some none)
  (z_list : PySem.W.nsIn K mainGlobals "list" = some none)
  (z_sorted : PySem.W.nsIn K mainGlobals "sorted" = some none)
  (z_min : PySem.W.nsIn K mainGlobals "min" = some none)
  (z_max : PySem.W.nsIn K mainGlobals "max" = some none)
  (z_range : PySem.W.nsIn K mainGlobals "range" = some none)
  (z_enumerate : PySem.W.nsIn K mainGlobals "enumerate" = some none)
  (z_repr : PySem.W.nsIn K mainGlobals "repr" = some none)
  (z_ValueError : PySem.W.nsIn K mainGlobals "ValueError" = some none)
  (z_RuntimeError : PySem.W.nsIn K mainGlobals "RuntimeError" = some none)
  (z_LookupError : PySem.W.nsIn K mainGlobals "LookupError" = some none)
  (xCR : PySem.W.nsIn K mainGlobals "RailError" = some (some (.ref CR)))
  (xCU : PySem.W.nsIn K mainGlobals "RunError" = some (some (.ref CU)))
  (xCM : PySem.W.nsIn K mainGlobals "MissingError" = some (some (.ref CM)))
  (xCSt : PySem.W.nsIn K mainGlobals "InvalidStanding" = some (some (.ref CSt)))
  (xCLi : PySem.W.nsIn K mainGlobals "InvalidLine" = some (some (.ref CLi)))
  (xaS : PySem.W.nsIn K mainGlobals "InvalidStation" = some (some (.ref CS)))
  (xiS : PySem.W.findIn K (.ref CS) "__init__" = some (some (.ref gS)))
  (xlS : K.lookup gS = some ⟨ocxS, odxS, .func (PySem.W.fnOf "__init__" "InvalidStation.__init__" (defArgs s_InvalidStation_init) (defBody s_InvalidStation_init) (defScope s_InvalidStation_init) .none kVxS dcxS pmxS anxS cdxS ctxS), slxS⟩)
  (xcS : PySem.W.codeIn K cdxS "InvalidStation.__init__" = true)
  (xkS : PySem.W.keepIn K (.ref gS) = true)
  (xzS : ClsK K CS gS bmV "ValueError.__new__" "value")
  (xoS : OxK K CS)
  (xaP : PySem.W.nsIn K mainGlobals "InvalidPair" = some (some (.ref CP)))
  (xiP : PySem.W.findIn K (.ref CP) "__init__" = some (some (.ref gP)))
  (xlP : K.lookup gP = some ⟨ocxP, odxP, .func (PySem.W.fnOf "__init__" "InvalidPair.__init__" (defArgs s_InvalidPair_init) (defBody s_InvalidPair_init) (defScope s_InvalidPair_init) .none kVxP dcxP pmxP anxP cdxP ctxP), slxP⟩)
  (xcP : PySem.W.codeIn K cdxP "InvalidPair.__init__" = true)
  (xkP : PySem.W.keepIn K (.ref gP) = true)
  (xzP : ClsK K CP gP bmV "ValueError.__new__" "value")
  (xoP : OxK K CP)
  (xaL : PySem.W.nsIn K mainGlobals "InvalidLength" = some (some (.ref CL)))
  (xiL : PySem.W.findIn K (.ref CL) "__init__" = some (some (.ref gL)))
  (xlL : K.lookup gL = some ⟨ocxL, odxL, .func (PySem.W.fnOf "__init__" "InvalidLength.__init__" (defArgs s_InvalidLength_init) (defBody s_InvalidLength_init) (defScope s_InvalidLength_init) .none kVxL dcxL pmxL anxL cdxL ctxL), slxL⟩)
  (xcL : PySem.W.codeIn K cdxL "InvalidLength.__init__" = true)
  (xkL : PySem.W.keepIn K (.ref gL) = true)
  (xzL : ClsK K CL gL bmV "ValueError.__new__" "value")
  (xoL : OxK K CL)
  (yeS : PySem.W.exmAny K (.ref CS) [.ref CR, .ref CU, .ref CM] = some true)
  (y0S : PySem.W.kitOne K (.ref CS) (.ref CS) = some (decide (0 = 0)))
  (y1S : PySem.W.kitOne K (.ref CS) (.ref CP) = some (decide (0 = 1)))
  (y2S : PySem.W.kitOne K (.ref CS) (.ref CL) = some (decide (0 = 2)))
  (ytS : PySem.W.kitAny K (.ref CS) [.ref CSt, .ref CLi] = some false)
  (yVS : PySem.W.kitOne K (.ref CS) (.type "ValueError") = some true)
  (yRS : PySem.W.kitOne K (.ref CS) (.type "RuntimeError") = some false)
  (yLS : PySem.W.kitOne K (.ref CS) (.type "LookupError") = some false)
  (yeP : PySem.W.exmAny K (.ref CP) [.ref CR, .ref CU, .ref CM] = some true)
  (y0P : PySem.W.kitOne K (.ref CP) (.ref CS) = some (decide (1 = 0)))
  (y1P : PySem.W.kitOne K (.ref CP) (.ref CP) = some (decide (1 = 1)))
  (y2P : PySem.W.kitOne K (.ref CP) (.ref CL) = some (decide (1 = 2)))
  (ytP : PySem.W.kitAny K (.ref CP) [.ref CSt, .ref CLi] = some false)
  (yVP : PySem.W.kitOne K (.ref CP) (.type "ValueError") = some true)
  (yRP : PySem.W.kitOne K (.ref CP) (.type "RuntimeError") = some false)
  (yLP : PySem.W.kitOne K (.ref CP) (.type "LookupError") = some false)
  (yeL : PySem.W.exmAny K (.ref CL) [.ref CR, .ref CU, .ref CM] = some true)
  (y0L : PySem.W.kitOne K (.ref CL) (.ref CS) = some (decide (2 = 0)))
  (y1L : PySem.W.kitOne K (.ref CL) (.ref CP) = some (decide (2 = 1)))
  (y2L : PySem.W.kitOne K (.ref CL) (.ref CL) = some (decide (2 = 2)))
  (ytL : PySem.W.kitAny K (.ref CL) [.ref CSt, .ref CLi] = some false)
  (yVL : PySem.W.kitOne K (.ref CL) (.type "ValueError") = some true)
  (yRL : PySem.W.kitOne K (.ref CL) (.type "RuntimeError") = some false)
  (yLL : PySem.W.kitOne K (.ref CL) (.type "LookupError") = some false)
  (sg : PySem.W.specialIn K (.builtin "object.__class__") "__get__" = some (some (.builtin "getset_descriptor.__get__")))
  (st : PySem.W.takesIn K (.builtin "object.__class__") = some true) :
  ∃ (fd : FuncData) (cs : List (Addr × Addr)) (sp : Sp), (∀ p ∈ cs, h.get? p.2 = some { cls := .none, data := .fields #[] }) ∧ (∀ p ∈ cs, K.lookup p.2 = none) ∧ (∀ p ∈ cs, PySem.W.CodeHd h p.1 p.2) ∧ (∀ (s : Shared) (u : Value), BindsTo s fd ⟨[u], []⟩ [("script", u)]) ∧
    (∀ (H : Hp) (a : Addr) (ns : List Int), ns.length ≤ 63 → (∀ p ∈ cs, H p.2 = some (.tbl #[])) → SqL K H a (ns.map V.int) → sp [.ref a] H (fun v _ => v = .bl true) fun _ _ _ => False) ∧
    ∀ base : Heap, K.In base → base.Ns mainGlobals mg → (∀ p ∈ cs, TabB base mg p.1 p.2) → FnG P w K mg base CX0 16 fa fd ["script"] sp := by
  have e := hfa.symm.trans (PySem.W.mg_of X G aL0)
  cases e
  have N : Nm mg := ⟨PySem.W.mg_none_of X G z_len, PySem.W.mg_none_of X G z_isinstance, PySem.W.mg_none_of X G z_int, PySem.W.mg_none_of X G z_bool, PySem.W.mg_none_of X G z_tuple, PySem.W.mg_none_of X G z_list, PySem.W.mg_none_of X G z_sorted, PySem.W.mg_none_of X G z_min, PySem.W.mg_none_of X G z_max, PySem.W.mg_none_of X G z_range, PySem.W.mg_none_of X G z_enumerate, PySem.W.mg_none_of X G z_repr⟩
  have cl : Cls K C := ⟨pg, hd, po, sa⟩
  have cr : CRead K C (.type "type") := ⟨cR, cG⟩
  have TX : TxtR K mg C := ⟨cl, n0, n1, n2, n3, PySem.W.mg_of X G aC, .type "type", tM, cr, ⟨cM, ⟨tM, rfl⟩⟩⟩
  have FI1 := fun_mk (st := s_is_integer) lI1 cI1 kI1
  have FI2 := fun_mk (st := s_is_number_from) lI2 cI2 kI2
  have FI3 := fun_mk (st := s_is_pair_of_stations) lI3 cI3 kI3
  have FI4 := fun_mk (st := s_is_station) lI4 cI4 kI4
  have FI5 := fun_mk (st := s_check_station) lI5 cI5 kI5
  have FI6 := fun_mk (st := s_check_length) lI6 cI6 kI6
  have FI7 := fun_mk (st := s_layers) lI7 cI7 kI7
  have FI8 := fun_mk (st := s_behind) lI8 cI8 kI8
  have FI9 := fun_mk (st := s_depth_behind) lI9 cI9 kI9
  have FIA := fun_mk (st := s_branch_depths) lIA cIA kIA
  have FIB := fun_mk (st := s_deep_branches) lIB cIB kIB
  have FIC := fun_mk (st := s_trunk) lIC cIC kIC
  have FID := fun_mk (st := s_pivots) lID cID kID
  have FIE := fun_mk (st := s_layers_behind) lIE cIE kIE
  have FIF := fun_mk (st := s_stations_with_deep_branches) lIF cIF kIF
  have FJ1 := fun_mk (st := s_joined) lJ1 cJ1 kJ1
  have FJ2 := fun_mk (st := s_first_wrong_track) lJ2 cJ2 kJ2
  have FJ3 := fun_mk (st := s_neighbours_of) lJ3 cJ3 kJ3
  have FJ4 := fun_mk (st := s_places_below_first) lJ4 cJ4 kJ4
  have FL1 := fun_mk (st := s_law_begin) lL1 cL1 kL1
  have FL2 := fun_mk (st := s_law_mixed) lL2 cL2 kL2
  have FL3 := fun_mk (st := s_law_next) lL3 cL3 kL3
  have FL4 := fun_mk (st := s_law_tracks) lL4 cL4 kL4
  have FL5 := fun_mk (st := s_law_said) lL5 cL5 kL5
  have FL6 := fun_mk (st := s_law_no_station) lL6 cL6 kL6
  have FL7 := fun_mk (st := s_law_no_length) lL7 cL7 kL7
  have FL8 := fun_mk (st := s_law_pairs_right) lL8 cL8 kL8
  have FL9 := fun_mk (st := s_law_lengths_right) lL9 cL9 kL9
  have FL0 := fun_mk (st := s_law) lL0 cL0 kL0
  have FM1 := fun_mk (st := s_Railway_init) lM1 cM1 kM1
  have FM2 := fun_mk (st := s_Railway_path) lM2 cM2 kM2
  have FM3 := fun_mk (st := s_Railway_size) lM3 cM3 kM3
  have FM4 := fun_mk (st := s_Railway_of) lM4 cM4 kM4
  have FM5 := fun_mk (st := s_Railway_neighbours) lM5 cM5 kM5
  have bI1 := FI1.binds (ps := ["value"]) fun _ _ _ _ _ _ us hl => match us, hl with | [_], _ => rfl
  have bI2 := FI2.binds (ps := ["value", "least", "greatest"]) fun _ _ _ _ _ _ us hl => match us, hl with | [_, _, _], _ => rfl
  have bI3 := FI3.binds (ps := ["value", "size"]) fun _ _ _ _ _ _ us hl => match us, hl with | [_, _], _ => rfl
  have bI4 := FI4.binds (ps := ["railway", "value"]) fun _ _ _ _ _ _ us hl => match us, hl with | [_, _], _ => rfl
  have bI5 := FI5.binds (ps := ["railway", "station"]) fun _ _ _ _ _ _ us hl => match us, hl with | [_, _], _ => rfl
  have bI6 := FI6.binds (ps := ["length"]) fun _ _ _ _ _ _ us hl => match us, hl with | [_], _ => rfl
  have bI7 := FI7.binds (ps := ["railway", "station", "barred"]) fun _ _ _ _ _ _ us hl => match us, hl with | [_, _, _], _ => rfl
  have bI8 := FI8.binds (ps := ["railway", "station", "seen_from"]) fun _ _ _ _ _ _ us hl => match us, hl with | [_, _, _], _ => rfl
  have bI9 := FI9.binds (ps := ["railway", "station", "seen_from"]) fun _ _ _ _ _ _ us hl => match us, hl with | [_, _, _], _ => rfl
  have bIA := FIA.binds (ps := ["railway", "station"]) fun _ _ _ _ _ _ us hl => match us, hl with | [_, _], _ => rfl
  have bIB := FIB.binds (ps := ["railway", "station", "length"]) fun _ _ _ _ _ _ us hl => match us, hl with | [_, _, _], _ => rfl
  have bIC := FIC.binds (ps := ["railway", "length"]) fun _ _ _ _ _ _ us hl => match us, hl with | [_, _], _ => rfl
  have bID := FID.binds (ps := ["railway", "length"]) fun _ _ _ _ _ _ us hl => match us, hl with | [_, _], _ => rfl
  have bIE := FIE.binds (ps := ["railway", "station", "seen_from"]) fun _ _ _ _ _ _ us hl => match us, hl with | [_, _, _], _ => rfl
  have bIF := FIF.binds (ps := ["railway", "length", "least"]) fun _ _ _ _ _ _ us hl => match us, hl with | [_, _, _], _ => rfl
  have bJ1 := FJ1.binds (ps := ["groups", "one", "other"]) fun _ _ _ _ _ _ us hl => match us, hl with | [_, _, _], _ => rfl
  have bJ2 := FJ2.binds (ps := ["tracks"]) fun _ _ _ _ _ _ us hl => match us, hl with | [_], _ => rfl
  have bJ3 := FJ3.binds (ps := ["tracks"]) fun _ _ _ _ _ _ us hl => match us, hl with | [_], _ => rfl
  have bJ4 := FJ4.binds (ps := ["neighbours"]) fun _ _ _ _ _ _ us hl => match us, hl with | [_], _ => rfl
  have bL1 := FL1.binds (ps := ["script"]) fun _ _ _ _ _ _ us hl => match us, hl with | [_], _ => rfl
  have bL2 := FL2.binds (ps := ["cell", "k"]) fun _ _ _ _ _ _ us hl => match us, hl with | [_, _], _ => rfl
  have bL3 := FL3.binds (ps := ["draw", "bound"]) fun _ _ _ _ _ _ us hl => match us, hl with | [_, _], _ => rfl
  have bL4 := FL4.binds (ps := ["draw", "most"]) fun _ _ _ _ _ _ us hl => match us, hl with | [_, _], _ => rfl
  have bL5 := FL5.binds (ps := ["call"]) fun _ _ _ _ _ _ us hl => match us, hl with | [_], _ => rfl
  have bL6 := FL6.binds (ps := ["draw", "count"]) fun _ _ _ _ _ _ us hl => match us, hl with | [_, _], _ => rfl
  have bL7 := FL7.binds (ps := ["draw"]) fun _ _ _ _ _ _ us hl => match us, hl with | [_], _ => rfl
  have bL8 := FL8.binds (ps := ["road", "spot", "odd", "far"]) fun _ _ _ _ _ _ us hl => match us, hl with | [_, _, _, _], _ => rfl
  have bL9 := FL9.binds (ps := ["road", "spot", "odd", "bad"]) fun _ _ _ _ _ _ us hl => match us, hl with | [_, _, _, _], _ => rfl
  have bM2 := FM2.binds (ps := ["self", "one", "other"]) fun _ _ _ _ _ _ us hl => match us, hl with | [_, _, _], _ => rfl
  have bM3 := FM3.binds (ps := ["self"]) fun _ _ _ _ _ _ us hl => match us, hl with | [_], _ => rfl
  have bM4 := FM4.binds (ps := ["cls", "tracks"]) fun _ _ _ _ _ _ us hl => match us, hl with | [_, _], _ => rfl
  have bM5 := FM5.binds (ps := ["self", "station"]) fun _ _ _ _ _ _ us hl => match us, hl with | [_, _], _ => rfl
  have FCL8 : FunC K "_law_pairs_right" "_law_pairs_right" s_law_pairs_right fL8 _ qL8 := ⟨_, _, _, _, _, _, _, _, rfl, lL8, cL8⟩
  have FCL9 : FunC K "_law_lengths_right" "_law_lengths_right" s_law_lengths_right fL9 _ qL9 := ⟨_, _, _, _, _, _, _, _, rfl, lL9, cL9⟩
  refine ⟨PySem.W.fnOf "law" "law" (defArgs s_law) (defBody s_law) (defScope s_law) .none kVL0 dcL0 pmL0 anL0 cdL0 ctL0, [(qL8, PL8), (qL9, PL9)], spLaw K [(PL8, qPr), (PL9, qLn)], ?_, ?_, ?_, fun s v => .of_eq rfl, fun H a ns hl hH hS => ⟨a, ns, rfl, hS, hl, ?_, fun _ => rfl⟩, fun base _ _ TB => ?_⟩
  · intro p hp
    rcases List.mem_cons.mp hp with rfl | hp
    · exact tL8
    · rcases List.mem_cons.mp hp with rfl | hp
      · exact tL9
      · cases hp
  · intro p hp
    rcases List.mem_cons.mp hp with rfl | hp
    · exact nL8
    · rcases List.mem_cons.mp hp with rfl | hp
      · exact nL9
      · cases hp
  · intro p hp
    rcases List.mem_cons.mp hp with rfl | hp
    · exact PySem.W.codeHd_of_K X hL8
    · rcases List.mem_cons.mp hp with rfl | hp
      · exact PySem.W.codeHd_of_K X hL9
      · cases hp
  · intro p hp
    rcases List.mem_cons.mp hp with rfl | hp
    · exact TabS.nil (hH (qL8, PL8) (by simp))
    · rcases List.mem_cons.mp hp with rfl | hp
      · exact TabS.nil (hH (qL9, PL9) (by simp))
      · cases hp
  have UI1 : Use P w K mg base CX0 1 _ _ _ _ _ := ⟨ok_isInt FI1 N, PySem.W.mg_of X G aI1, kI1, bI1⟩
  have UI2 : Use P w K mg base CX0 2 _ _ _ _ _ := ⟨ok_num FI2 UI1, PySem.W.mg_of X G aI2, kI2, bI2⟩
  have UI3 : Use P w K mg base CX0 3 _ _ _ _ _ := ⟨ok_pair FI3 N UI2, PySem.W.mg_of X G aI3, kI3, bI3⟩
  have Z : SizeOf P w K mg base C pS fM3 _ := ⟨cl, ⟨aM3, gM3, tM3, ⟨rS, rM3⟩⟩, ok_size FM3 N TX, bM3⟩
  have UI4 : Use P w K mg base CX0 3 _ _ _ _ _ := ⟨ok_isst FI4 UI2 Z, PySem.W.mg_of X G aI4, kI4, bI4⟩
  have UI5 : Use P w K mg base CX0 4 _ _ _ _ _ := ⟨ok_chk FI5 UI4, PySem.W.mg_of X G aI5, kI5, bI5⟩
  have GP := ok_path (P := P) (w := w) (base := base) FM2 N TX UI5
  have UJ1 : Use P w K mg base CX0 1 _ _ _ _ _ := ⟨ok_join FJ1, PySem.W.mg_of X G aJ1, kJ1, bJ1⟩
  have UJ2 : Use P w K mg base CX0 4 _ _ _ _ _ := ⟨ok_first FJ2 N UI3 UJ1, PySem.W.mg_of X G aJ2, kJ2, bJ2⟩
  have UJ3 : Use P w K mg base CX0 1 _ _ _ _ _ := ⟨ok_nbs FJ3 N, PySem.W.mg_of X G aJ3, kJ3, bJ3⟩
  have UJ4 : Use P w K mg base CX0 1 _ _ _ _ _ := ⟨ok_places FJ4 N, PySem.W.mg_of X G aJ4, kJ4, bJ4⟩
  have GI := fn_init (P := P) (w := w) (base := base) FM1 N TX UJ2 UJ3 UJ4
  have M : Mk K C fM1 := ⟨mk, aM1, iM1, kc⟩
  have GO : FnR P w K mg base CX0 7 fM4 (spRof C) := ((ok_rof FM4 N M GI).raw bM4 .nil).imp fun vs H Q E h => by rw [List.append_nil]; exact h
  have UL1 : Use P w K mg base CX0 1 _ _ _ _ _ := ⟨ok_begin FL1, PySem.W.mg_of X G aL1, kL1, bL1⟩
  have UL3 : Use P w K mg base CX0 2 _ _ _ _ _ := ⟨ok_next FL3 ⟨PySem.W.mg_none_of X G z_len, PySem.W.mg_of X G aL2⟩ FL2 bL2, PySem.W.mg_of X G aL3, kL3, bL3⟩
  have UL4 : Use P w K mg base CX0 3 _ _ _ _ _ := ⟨ok_trk FL4 N UL3, PySem.W.mg_of X G aL4, kL4, bL4⟩
  have UL6 : Use P w K mg base CX0 3 _ _ _ _ _ := ⟨ok_nost FL6 UL3, PySem.W.mg_of X G aL6, kL6, bL6⟩
  have UL7 : Use P w K mg base CX0 3 _ _ _ _ _ := ⟨ok_nolen FL7 UL3, PySem.W.mg_of X G aL7, kL7, bL7⟩
  have GN := ok_nbr (P := P) (w := w) (base := base) FM5 TX UI5
  have UI7 : Use P w K mg base CX0 6 _ _ _ _ _ := ⟨ok_layers FI7 TX ⟨aM5, iM5, kM5⟩ GN bM5, PySem.W.mg_of X G aI7, kI7, bI7⟩
  have UIE : Use P w K mg base CX0 7 _ _ _ _ _ := ⟨ok_lb FIE TX UI5 UI7 ⟨aM2, iM2, kM2⟩ GP bM2, PySem.W.mg_of X G aIE, kIE, bIE⟩
  have UI9 : Use P w K mg base CX0 8 _ _ _ _ _ := ⟨ok_db FI9 N UIE, PySem.W.mg_of X G aI9, kI9, bI9⟩
  have UI6 : Use P w K mg base CX0 2 _ _ _ _ _ := ⟨ok_chklen FI6 UI1, PySem.W.mg_of X G aI6, kI6, bI6⟩
  have UIA : Use P w K mg base CX0 9 _ _ _ _ _ := ⟨ok_bd FIA N TX UI5 UI9 ⟨aM5, iM5, kM5⟩ GN bM5, PySem.W.mg_of X G aIA, kIA, bIA⟩
  have UIB : Use P w K mg base CX0 10 _ _ _ _ _ := ⟨ok_dp FIB N UI5 UI6 UIA, PySem.W.mg_of X G aIB, kIB, bIB⟩
  have FXS := fun_mk (st := s_InvalidStation_init) xlS xcS xkS
  have bXS := FXS.binds (ps := ["self", "value"]) fun _ _ _ _ _ _ us hl => match us, hl with | [_, _], _ => rfl
  have RZS : RzC P w K mg base "InvalidStation" CS "value" := ⟨xoS.oexc xzS, PySem.W.mg_of X G xaS, ⟨gS, _, xiS, xzS.tI, ok_init1 (P := P) (w := w) (base := base) (st := s_InvalidStation_init) (dvs := []) ⟨⟨_, _, _, _, _, _, _, _, _, _, rfl, xlS, xcS, .inl ⟨rfl, rfl⟩, .inl rfl⟩, xkS⟩ xbV xzS.xc xzS.nF ⟨_, _, _, _, rfl⟩ sc_xS (.inl rfl) (.inl rfl) (by decide +kernel) (by decide +kernel), bXS⟩⟩
  have FXP := fun_mk (st := s_InvalidPair_init) xlP xcP xkP
  have bXP := FXP.binds (ps := ["self", "value"]) fun _ _ _ _ _ _ us hl => match us, hl with | [_, _], _ => rfl
  have RZP : RzC P w K mg base "InvalidPair" CP "value" := ⟨xoP.oexc xzP, PySem.W.mg_of X G xaP, ⟨gP, _, xiP, xzP.tI, ok_init1 (P := P) (w := w) (base := base) (st := s_InvalidPair_init) (dvs := []) ⟨⟨_, _, _, _, _, _, _, _, _, _, rfl, xlP, xcP, .inl ⟨rfl, rfl⟩, .inl rfl⟩, xkP⟩ xbV xzP.xc xzP.nF ⟨_, _, _, _, rfl⟩ sc_xP (.inl rfl) (.inl rfl) (by decide +kernel) (by decide +kernel), bXP⟩⟩
  have FXL := fun_mk (st := s_InvalidLength_init) xlL xcL xkL
  have bXL := FXL.binds (ps := ["self", "value"]) fun _ _ _ _ _ _ us hl => match us, hl with | [_, _], _ => rfl
  have RZL : RzC P w K mg base "InvalidLength" CL "value" := ⟨xoL.oexc xzL, PySem.W.mg_of X G xaL, ⟨gL, _, xiL, xzL.tI, ok_init1 (P := P) (w := w) (base := base) (st := s_InvalidLength_init) (dvs := []) ⟨⟨_, _, _, _, _, _, _, _, _, _, rfl, xlL, xcL, .inl ⟨rfl, rfl⟩, .inl rfl⟩, xkL⟩ xbV xzL.xc xzL.nF ⟨_, _, _, _, rfl⟩ sc_xL (.inl rfl) (.inl rfl) (by decide +kernel) (by decide +kernel), bXL⟩⟩
  have XI5 : UseX P w K mg base 4 "check_station" fI5 _ ["railway", "station"] (spChkX C CS K) := ⟨ok_chkX FI5 UI4 RZS, PySem.W.mg_of X G aI5, kI5, bI5⟩
  have XI6 : UseX P w K mg base 3 "check_length" fI6 _ ["length"] (spChkLX CL K) := ⟨ok_chklenX FI6 UI1 RZL, PySem.W.mg_of X G aI6, kI6, bI6⟩
  have XIE : UseX P w K mg base 5 "_layers_behind" fIE _ ["railway", "station", "seen_from"] (spLBX C CS CP K) := ⟨ok_lbX FIE XI5 UI5 RZP, PySem.W.mg_of X G aIE, kIE, bIE⟩
  have XI8 : UseX P w K mg base 6 "behind" fI8 _ ["railway", "station", "seen_from"] (spLBX C CS CP K) := ⟨ok_behX FI8 XIE, PySem.W.mg_of X G aI8, kI8, bI8⟩
  have XI9 : UseX P w K mg base 6 "depth_behind" fI9 _ ["railway", "station", "seen_from"] (spLBX C CS CP K) := ⟨ok_dbX FI9 N XIE, PySem.W.mg_of X G aI9, kI9, bI9⟩
  have XIA : UseX P w K mg base 5 "branch_depths" fIA _ ["railway", "station"] (spChkX C CS K) := ⟨ok_bdX FIA XI5, PySem.W.mg_of X G aIA, kIA, bIA⟩
  have XIB : UseX P w K mg base 5 "deep_branches" fIB _ ["railway", "station", "length"] (spDeepX C CS CL K) := ⟨ok_dpX FIB XI5 UI5 XI6, PySem.W.mg_of X G aIB, kIB, bIB⟩
  have XIF : UseX P w K mg base 4 "_stations_with_deep_branches" fIF _ ["railway", "length", "least"] (spSwX CL K) := ⟨ok_swX FIF XI6, PySem.W.mg_of X G aIF, kIF, bIF⟩
  have XIC : UseX P w K mg base 5 "trunk" fIC _ ["railway", "length"] (spTrX CL K) := ⟨ok_tkX FIC XIF, PySem.W.mg_of X G aIC, kIC, bIC⟩
  have XID : UseX P w K mg base 5 "pivots" fID _ ["railway", "length"] (spTrX CL K) := ⟨ok_pvX FID XIF, PySem.W.mg_of X G aID, kID, bID⟩
  have KI8 : UseKX P w K mg base 6 "behind" fI8 _ ["railway", "station", "seen_from"] ["seen_from", "station", "railway"] rv3 (spLBX C CS CP K) := ⟨XI8, L2.TT.Fun.kb FI8 (fun _ _ _ _ _ _ ws hl => match ws, hl with | [_, _, _], _ => rfl)⟩
  have KI9 : UseKX P w K mg base 6 "depth_behind" fI9 _ ["railway", "station", "seen_from"] ["seen_from", "station", "railway"] rv3 (spLBX C CS CP K) := ⟨XI9, L2.TT.Fun.kb FI9 (fun _ _ _ _ _ _ ws hl => match ws, hl with | [_, _, _], _ => rfl)⟩
  have KID : UseKX P w K mg base 5 "pivots" fID _ ["railway", "length"] ["length", "railway"] swp (spTrX CL K) := ⟨XID, L2.TT.Fun.kb FID (fun _ _ _ _ _ _ ws hl => match ws, hl with | [_, _], _ => rfl)⟩
  have KIB : UseK P w K mg base 10 "deep_branches" fIB _ ["railway", "station", "length"] ["length", "station", "railway"] rv3 (spDeep C) := ⟨UIB, L2.TT.Fun.kb FIB (fun _ _ _ _ _ _ ws hl => match ws, hl with | [_, _, _], _ => rfl)⟩
  have W : SayF K mg CR CU CM CS CP CL CSt CLi := ⟨⟨sg, st⟩, PySem.W.mg_of X G xCR, PySem.W.mg_of X G xCU, PySem.W.mg_of X G xCM, PySem.W.mg_of X G xaS, PySem.W.mg_of X G xaP, PySem.W.mg_of X G xaL, PySem.W.mg_of X G xCSt, PySem.W.mg_of X G xCLi, PySem.W.mg_none_of X G z_ValueError, PySem.W.mg_none_of X G z_RuntimeError, PySem.W.mg_none_of X G z_LookupError, PySem.W.mg_none_of X G z_isinstance⟩
  have ZC : SCs K CR CU CM CS CP CL CSt CLi := ⟨⟨yeS, ⟨_, _, xzS.xc⟩, xzS.nF, y0S, y1S, y2S, ytS, yVS, yRS, yLS⟩, ⟨yeP, ⟨_, _, xzP.xc⟩, xzP.nF, y0P, y1P, y2P, ytP, yVP, yRP, yLP⟩, ⟨yeL, ⟨_, _, xzL.xc⟩, xzL.nF, y0L, y1L, y2L, ytL, yVL, yRL, yLL⟩⟩
  have hu8 : ∀ p ∈ ([(PL8, qPr), (PL9, qLn)] : List (Addr × Str)), p.1 = PL8 → p.2 = qPr := fun p hp e => by
    rcases List.mem_cons.mp hp with rfl | hp
    · rfl
    · rcases List.mem_cons.mp hp with rfl | hp
      · exact absurd e.symm nPP
      · cases hp
  have hu9 : ∀ p ∈ ([(PL8, qPr), (PL9, qLn)] : List (Addr × Str)), p.1 = PL9 → p.2 = qLn := fun p hp e => by
    rcases List.mem_cons.mp hp with rfl | hp
    · exact absurd e nPP
    · rcases List.mem_cons.mp hp with rfl | hp
      · rfl
      · cases hp
  have G8 : FnG P w K mg base CX0 11 fL8 _ ["road", "spot", "odd", "far"] (spPrsE C K [(PL8, qPr), (PL9, qLn)]) := fnG_ex fun dr => ok_prs (dr := dr) FCL8 (TB (qL8, PL8) (by simp)) (by simp) hu8 N FL5 bL5 W (PySem.W.mg_of X G aL5) ZC KI8 KI9
  have G9 : FnG P w K mg base CX0 15 fL9 _ ["road", "spot", "odd", "bad"] (spLnsE C K [(PL8, qPr), (PL9, qLn)]) := fnG_ex fun dr => ok_lns (dr := dr) FCL9 (TB (qL9, PL9) (by simp)) (by simp) hu9 N FL5 bL5 W (PySem.W.mg_of X G aL5) ZC XIA XIB XIC KID KIB
  exact ok_law FL0 N TX cr ⟨aM4, ⟨rO, rM4⟩, iM4⟩ GO UL1 UL3 UL4 UL6 UL7 G8 (PySem.W.mg_of X G aL8) kL8 bL8 G9 (PySem.W.mg_of X G aL9) kL9 bL9
end TR

open PySem PySem.W PyProof.Rows
set_option maxRecDepth 100000 in
set_option maxHeartbeats 0 in
theorem PySem.Challenge.cw_treetrain_k14_depths_refused_holds : PySem.Challenge.rw_treetrain_k14_depths_refused.Holds := by
  w_on; o_law; k_head; (case hw => w_witness2)
  k_fill
  refine L2.TL.walkG_ofTs (l := PySem.Challenge.rw_treetrain_k14_depths_refused) (n := 63) (k := 16) (x := "script") rfl (by decide) rfl ⟨rfl, by decide, by decide⟩ (fun w h Y => PySem.W.km_in_of Y) ?F
  case F =>
    intro w mg fa h Y KX G hmg
    refine' TR.all_mk KX G hmg ?aI1 ?lI1 ?cI1 ?kI1 ?aI2 ?lI2 ?cI2 ?kI2 ?aI3 ?lI3 ?cI3 ?kI3 ?aI4 ?lI4 ?cI4 ?kI4 ?aI5 ?lI5 ?cI5 ?kI5 ?aI6 ?lI6 ?cI6 ?kI6 ?aI7 ?lI7 ?cI7 ?kI7 ?aI8 ?lI8 ?cI8 ?kI8 ?aI9 ?lI9 ?cI9 ?kI9 ?aIA ?lIA ?cIA ?kIA ?aIB ?lIB ?cIB ?kIB ?aIC ?lIC ?cIC ?kIC ?aID ?lID ?cID ?kID ?aIE ?lIE ?cIE ?kIE ?aIF ?lIF ?cIF ?kIF ?aJ1 ?lJ1 ?cJ1 ?kJ1 ?aJ2 ?lJ2 ?cJ2 ?kJ2 ?aJ3 ?lJ3 ?cJ3 ?kJ3 ?aJ4 ?lJ4 ?cJ4 ?kJ4 ?aL1 ?lL1 ?cL1 ?kL1 ?aL2 ?lL2 ?cL2 ?kL2 ?aL3 ?lL3 ?cL3 ?kL3 ?aL4 ?lL4 ?cL4 ?kL4 ?aL5 ?lL5 ?cL5 ?kL5 ?aL6 ?lL6 ?cL6 ?kL6 ?aL7 ?lL7 ?cL7 ?kL7 ?aL8 ?lL8 ?cL8 ?kL8 ?oL8 ?pL8 ?hL8 ?nL8 ?tL8 ?aL9 ?lL9 ?cL9 ?kL9 ?oL9 ?pL9 ?hL9 ?nL9 ?tL9 ?aL0 ?lL0 ?cL0 ?kL0 ?nPP ?aC ?aM1 ?iM1 ?aM2 ?iM2 ?aM5 ?iM5 ?aM3 ?gM3 ?tM3 ?rM3 ?aM4 ?rM4 ?iM4 ?lM1 ?cM1 ?kM1 ?lM2 ?cM2 ?kM2 ?lM3 ?cM3 ?kM3 ?lM4 ?cM4 ?kM4 ?lM5 ?cM5 ?kM5 ?cR ?cG ?cM ?pg ?hd ?po ?sa ?mk ?kc ?n0 ?n1 ?n2 ?n3 ?z_len ?z_isinstance ?z_int ?z_bool ?z_tuple ?z_list ?z_sorted ?z_min ?z_max ?z_range ?z_enumerate ?z_repr ?z_ValueError ?z_RuntimeError ?z_LookupError ?xCR ?xCU ?xCM ?xCSt ?xCLi ?xaS ?xiS ?xlS ?xcS ?xkS ?xzS ?xoS ?xaP ?xiP ?xlP ?xcP ?xkP ?xzP ?xoP ?xaL ?xiL ?xlL ?xcL ?xkL ?xzL ?xoL ?yeS ?y0S ?y1S ?y2S ?ytS ?yVS ?yRS ?yLS ?yeP ?y0P ?y1P ?y2P ?ytP ?yVP ?yRP ?yLP ?yeL ?y0L ?y1L ?y2L ?ytL ?yVL ?yRL ?yLL ?sg ?st
    (case aI1 => first | k_is | kx_is)
    (case lI1 => first | k_is | kx_is)
    (case cI1 => first | k_is | kx_is)
    (case kI1 => first | k_is | kx_is)
    (case aI2 => first | k_is | kx_is)
    (case lI2 => first | k_is | kx_is)
    (case cI2 => first | k_is | kx_is)
    (case kI2 => first | k_is | kx_is)
    (case aI3 => first | k_is | kx_is)
    (case lI3 => first | k_is | kx_is)
    (case cI3 => first | k_is | kx_is)
    (case kI3 => first | k_is | kx_is)
    (case aI4 => first | k_is | kx_is)
    (case lI4 => first | k_is | kx_is)
    (case cI4 => first | k_is | kx_is)
    (case kI4 => first | k_is | kx_is)
    (case aI5 => first | k_is | kx_is)
    (case lI5 => first | k_is | kx_is)
    (case cI5 => first | k_is | kx_is)
    (case kI5 => first | k_is | kx_is)
    (case aI6 => first | k_is | kx_is)
    (case lI6 => first | k_is | kx_is)
    (case cI6 => first | k_is | kx_is)
    (case kI6 => first | k_is | kx_is)
    (case aI7 => first | k_is | kx_is)
    (case lI7 => first | k_is | kx_is)
    (case cI7 => first | k_is | kx_is)
    (case kI7 => first | k_is | kx_is)
    (case aI8 => first | k_is | kx_is)
    (case lI8 => first | k_is | kx_is)
    (case cI8 => first | k_is | kx_is)
    (case kI8 => first | k_is | kx_is)
    (case aI9 => first | k_is | kx_is)
    (case lI9 => first | k_is | kx_is)
    (case cI9 => first | k_is | kx_is)
    (case kI9 => first | k_is | kx_is)
    (case aIA => first | k_is | kx_is)
    (case lIA => first | k_is | kx_is)
    (case cIA => first | k_is | kx_is)
    (case kIA => first | k_is | kx_is)
    (case aIB => first | k_is | kx_is)
    (case lIB => first | k_is | kx_is)
    (case cIB => first | k_is | kx_is)
    (case kIB => first | k_is | kx_is)
    (case aIC => first | k_is | kx_is)
    (case lIC => first | k_is | kx_is)
    (case cIC => first | k_is | kx_is)
    (case kIC => first | k_is | kx_is)
    (case aID => first | k_is | kx_is)
    (case lID => first | k_is | kx_is)
    (case cID => first | k_is | kx_is)
    (case kID => first | k_is | kx_is)
    (case aIE => first | k_is | kx_is)
    (case lIE => first | k_is | kx_is)
    (case cIE => first | k_is | kx_is)
    (case kIE => first | k_is | kx_is)
    (case aIF => first | k_is | kx_is)
    (case lIF => first | k_is | kx_is)
    (case cIF => first | k_is | kx_is)
    (case kIF => first | k_is | kx_is)
    (case aJ1 => first | k_is | kx_is)
    (case lJ1 => first | k_is | kx_is)
    (case cJ1 => first | k_is | kx_is)
    (case kJ1 => first | k_is | kx_is)
    (case aJ2 => first | k_is | kx_is)
    (case lJ2 => first | k_is | kx_is)
    (case cJ2 => first | k_is | kx_is)
    (case kJ2 => first | k_is | kx_is)
    (case aJ3 => first | k_is | kx_is)
    (case lJ3 => first | k_is | kx_is)
    (case cJ3 => first | k_is | kx_is)
    (case kJ3 => first | k_is | kx_is)
    (case aJ4 => first | k_is | kx_is)
    (case lJ4 => first | k_is | kx_is)
    (case cJ4 => first | k_is | kx_is)
    (case kJ4 => first | k_is | kx_is)
    (case aL1 => first | k_is | kx_is)
    (case lL1 => first | k_is | kx_is)
    (case cL1 => first | k_is | kx_is)
    (case kL1 => first | k_is | kx_is)
    (case aL2 => first | k_is | kx_is)
    (case lL2 => first | k_is | kx_is)
    (case cL2 => first | k_is | kx_is)
    (case kL2 => first | k_is | kx_is)
    (case aL3 => first | k_is | kx_is)
    (case lL3 => first | k_is | kx_is)
    (case cL3 => first | k_is | kx_is)
    (case kL3 => first | k_is | kx_is)
    (case aL4 => first | k_is | kx_is)
    (case lL4 => first | k_is | kx_is)
    (case cL4 => first | k_is | kx_is)
    (case kL4 => first | k_is | kx_is)
    (case aL5 => first | k_is | kx_is)
    (case lL5 => first | k_is | kx_is)
    (case cL5 => first | k_is | kx_is)
    (case kL5 => first | k_is | kx_is)
    (case aL6 => first | k_is | kx_is)
    (case lL6 => first | k_is | kx_is)
    (case cL6 => first | k_is | kx_is)
    (case kL6 => first | k_is | kx_is)
    (case aL7 => first | k_is | kx_is)
    (case lL7 => first | k_is | kx_is)
    (case cL7 => first | k_is | kx_is)
    (case kL7 => first | k_is | kx_is)
    (case aL8 => first | k_is | kx_is)
    (case lL8 => first | k_is | kx_is)
    (case cL8 => first | k_is | kx_is)
    (case kL8 => first | k_is | kx_is)
    (case oL8 => first | k_is | kx_is)
    (case pL8 => first | exact rfl | with_unfolding_all rfl)
    (case hL8 => kernel_rfl)
    (case nL8 => kernel_rfl)
    (case tL8 => exact PySem.W.km_tabs_of Y _ (by decide))
    (case aL9 => first | k_is | kx_is)
    (case lL9 => first | k_is | kx_is)
    (case cL9 => first | k_is | kx_is)
    (case kL9 => first | k_is | kx_is)
    (case oL9 => first | k_is | kx_is)
    (case pL9 => first | exact rfl | with_unfolding_all rfl)
    (case hL9 => kernel_rfl)
    (case nL9 => kernel_rfl)
    (case tL9 => exact PySem.W.km_tabs_of Y _ (by decide))
    (case aL0 => first | k_is | kx_is)
    (case lL0 => first | k_is | kx_is)
    (case cL0 => first | k_is | kx_is)
    (case kL0 => first | k_is | kx_is)
    (case nPP => decide)
    (case aC => first | k_is | kx_is)
    (case aM1 => first | k_is | kx_is)
    (case iM1 => first | k_is | kx_is)
    (case aM2 => first | k_is | kx_is)
    (case iM2 => first | k_is | kx_is)
    (case aM5 => first | k_is | kx_is)
    (case iM5 => first | k_is | kx_is)
    (case aM3 => first | k_is | kx_is)
    (case gM3 => first | k_is | kx_is)
    (case tM3 => first | k_is | kx_is)
    (case rM3 => first | k_is | kx_is)
    (case aM4 => first | k_is | kx_is)
    (case rM4 => first | k_is | kx_is)
    (case iM4 => first | k_is | kx_is)
    (case lM1 => first | k_is | kx_is)
    (case cM1 => first | k_is | kx_is)
    (case kM1 => first | k_is | kx_is)
    (case lM2 => first | k_is | kx_is)
    (case cM2 => first | k_is | kx_is)
    (case kM2 => first | k_is | kx_is)
    (case lM3 => first | k_is | kx_is)
    (case cM3 => first | k_is | kx_is)
    (case kM3 => first | k_is | kx_is)
    (case lM4 => first | k_is | kx_is)
    (case cM4 => first | k_is | kx_is)
    (case kM4 => first | k_is | kx_is)
    (case lM5 => first | k_is | kx_is)
    (case cM5 => first | k_is | kx_is)
    (case kM5 => first | k_is | kx_is)
    (case cR => first | k_is | kx_is)
    (case cG => first | k_is | kx_is)
    (case cM => first | k_is | kx_is)
    (case pg => first | k_is | kx_is)
    (case hd => first | k_is | kx_is)
    (case po => first | k_is | kx_is)
    (case sa => first | k_is | kx_is)
    (case mk => first | k_is | kx_is)
    (case kc => first | k_is | kx_is)
    (case n0 => first | k_is | kx_is)
    (case n1 => first | k_is | kx_is)
    (case n2 => first | k_is | kx_is)
    (case n3 => first | k_is | kx_is)
    (case z_len => first | k_is | kx_is)
    (case z_isinstance => first | k_is | kx_is)
    (case z_int => first | k_is | kx_is)
    (case z_bool => first | k_is | kx_is)
    (case z_tuple => first | k_is | kx_is)
    (case z_list => first | k_is | kx_is)
    (case z_sorted => first | k_is | kx_is)
    (case z_min => first | k_is | kx_is)
    (case z_max => first | k_is | kx_is)
    (case z_range => first | k_is | kx_is)
    (case z_enumerate => first | k_is | kx_is)
    (case z_repr => first | k_is | kx_is)
    (case z_ValueError => first | k_is | kx_is)
    (case z_RuntimeError => first | k_is | kx_is)
    (case z_LookupError => first | k_is | kx_is)
    (case xCR => first | k_is | kx_is)
    (case xCU => first | k_is | kx_is)
    (case xCM => first | k_is | kx_is)
    (case xCSt => first | k_is | kx_is)
    (case xCLi => first | k_is | kx_is)
    (case xaS => first | k_is | kx_is)
    (case xiS => first | k_is | kx_is)
    (case xlS => first | k_is | kx_is)
    (case xcS => first | k_is | kx_is)
    (case xkS => first | k_is | kx_is)
    (case xzS => constructor <;> first | k_is | kx_is)
    (case xoS => exact ⟨_, _, _, _, _, _, _, _, _, _, _, _, _, _, _, by first | k_is | kx_is, by first | rfl | decide⟩)
    (case xaP => first | k_is | kx_is)
    (case xiP => first | k_is | kx_is)
    (case xlP => first | k_is | kx_is)
    (case xcP => first | k_is | kx_is)
    (case xkP => first | k_is | kx_is)
    (case xzP => constructor <;> first | k_is | kx_is)
    (case xoP => exact ⟨_, _, _, _, _, _, _, _, _, _, _, _, _, _, _, by first | k_is | kx_is, by first | rfl | decide⟩)
    (case xaL => first | k_is | kx_is)
    (case xiL => first | k_is | kx_is)
    (case xlL => first | k_is | kx_is)
    (case xcL => first | k_is | kx_is)
    (case xkL => first | k_is | kx_is)
    (case xzL => constructor <;> first | k_is | kx_is)
    (case xoL => exact ⟨_, _, _, _, _, _, _, _, _, _, _, _, _, _, _, by first | k_is | kx_is, by first | rfl | decide⟩)
    (case yeS => kts_exm)
    (case y0S => first | kernel_rfl | k_is | kx_is)
    (case y1S => first | kernel_rfl | k_is | kx_is)
    (case y2S => first | kernel_rfl | k_is | kx_is)
    (case ytS => first | kernel_rfl | k_is | kx_is)
    (case yVS => first | kernel_rfl | k_is | kx_is)
    (case yRS => first | kernel_rfl | k_is | kx_is)
    (case yLS => first | kernel_rfl | k_is | kx_is)
    (case yeP => kts_exm)
    (case y0P => first | kernel_rfl | k_is | kx_is)
    (case y1P => first | kernel_rfl | k_is | kx_is)
    (case y2P => first | kernel_rfl | k_is | kx_is)
    (case ytP => first | kernel_rfl | k_is | kx_is)
    (case yVP => first | kernel_rfl | k_is | kx_is)
    (case yRP => first | kernel_rfl | k_is | kx_is)
    (case yLP => first | kernel_rfl | k_is | kx_is)
    (case yeL => kts_exm)
    (case y0L => first | kernel_rfl | k_is | kx_is)
    (case y1L => first | kernel_rfl | k_is | kx_is)
    (case y2L => first | kernel_rfl | k_is | kx_is)
    (case ytL => first | kernel_rfl | k_is | kx_is)
    (case yVL => first | kernel_rfl | k_is | kx_is)
    (case yRL => first | kernel_rfl | k_is | kx_is)
    (case yLL => first | kernel_rfl | k_is | kx_is)
    (case sg => first | k_is | kx_is)
    (case st => first | k_is | kx_is)
#print axioms PySem.Challenge.cw_treetrain_k14_depths_refused_holds
