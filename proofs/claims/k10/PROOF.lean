import PyProof.Rows.All
import Wide.All
import OpenK.AllK
import Wide.FinOn
import PyProof.EqAt
import PyProof.EqKinds
import PyProof.TupleCall
import KE.KExcInit
import KE.KExcIs
import KE.KExcLine
import HandS.ForMost
import HandS.Exc
import HandS.ExcInit
import HandS.ExcValue
import HandS.Defaults
import HandS.IsInst
import HandS.EndTab
import HandS.Lambda
import HandS.SetFor
import HandS.Star
import HandS.ExcOwn
import KE.KTryMore
import KE.GoesEnum
import HandS.Iter
import HandS.ClsMeth
import HandS.CallLocal
import HandS.Property
import HandS.SortInts
import HandS.SortRule
import HandS.Comp
import HandS.Flow
import HandS.Conv
import HandS.Style
import PyProof.ReprLen
import PyProof.ReprRoads
import PyProof.ReprNest
import PyProof.ReprHeadsEmpty
import HandS.List
import HandS.TupAny
import KE.KRevSl
import HandS.WordsExc
import HandS.Zip
import HandS.RaiseMore
import HandS.GenCall
import HandS.GenList
import KE.GoesZip
import KE.GoesMore
import HandS.Walk
import KE.RegKTryMore
import PySem.Challenge.RW_treetrain_k10_standings_refused
set_option Elab.async false
set_option linter.all false
set_option maxRecDepth 100000
set_option maxHeartbeats 4000000
/-! Exceptions of the program as values: made by a call, a field read, isinstance. -/
namespace L2.TT
open PySem PySem.Spec PyProof.Rows PySem.W

/-- what the written part says of an exception class of the program -/
structure XC (K : Frag) (C : Addr) (bmB : List Value) (newId : String) : Prop where
  ini : excInitIn K C bmB newId = true
  ovr : excOver K C bmB = true
  sa : findIn K (.ref C) "__setattr__" = some (some (.builtin "object.__setattr__"))
  ga : findIn K (.ref C) "__getattribute__" = some (some (.builtin "BaseException.__getattribute__"))
  gg : findIn K (.ref C) "__getattr__" = some none
  sub : subIn K (.ref C) (.type "BaseException") = some true
  hd : hasDictIn K C = true
  kp : keepIn K (.ref C) = true
  ca : findIn K (.ref C) "__class__" = some (some (.builtin "object.__class__"))
  ob : mroIn K C (.type "object") = some true
/-- a built-in base of exceptions -/
structure XB (B newId initId : String) (bmB : List Value) : Prop where
  ex : ExcBaseFacts B newId initId bmB
  st : StoreFacts B bmB "object.__setattr__" "object"
abbrev bmV : List Value := [.type "ValueError", .type "Exception", .type "BaseException", .type "object"]
abbrev bmR : List Value := [.type "RuntimeError", .type "Exception", .type "BaseException", .type "object"]
abbrev bmL : List Value := [.type "LookupError", .type "Exception", .type "BaseException", .type "object"]
theorem xbV : XB "ValueError" "ValueError.__new__" "ValueError.__init__" bmV := ⟨F.excBase_ValueError, F.store_ValueError⟩
theorem xbR : XB "RuntimeError" "RuntimeError.__new__" "RuntimeError.__init__" bmR := ⟨F.excBase_RuntimeError, F.store_RuntimeError⟩
theorem xbL : XB "LookupError" "LookupError.__new__" "LookupError.__init__" bmL := ⟨F.excBase_LookupError, F.store_LookupError⟩

section
variable {prog : Program} {w : World} {A : Around} {E : Value → Shared → Prop} {R : Result → Shared → Prop} {hp : Heap} {g : Array GenState} {d : Drawn} {t : Nat} {os : OsState}
variable {K : Frag} {C x t0 : Addr} {name : Str} {tk : Tok} {v : Value} {B newId initId : String} {bmB : List Value}
/-- the heap after the exception's dict was laid, empty -/
def dictLaid (hp : Heap) (x : Addr) : Heap := (hp.push (dictOf [] 0)).update x fun o => { o with dict := some hp.objs.size }
theorem osa_first (Y : XB B newId initId bmB) (T : XC K C bmB newId) (X : K.In hp) (hx : hp.get? x = some (excObj C t0 none .none)) (ha : findIn K (.ref C) name = some none)
    (hq : ∀ h' tk', h'.Ns1 hp.objs.size (fun y => if y = name then some v else none) → Heap.SameBut hp.objs.size (dictLaid hp x) h' → R (.ok (.ret .none)) ⟨h', g, d, tk', os⟩) :
    codeAny (model prog w) A (.call (.builtin "object.__setattr__") ⟨[.ref x, .str name tk, v], []⟩) R ⟨hp, g, d, t, os⟩ := by
  have ht : takerIn K C name = some none := by unfold takerIn; rw [ha]; rfl
  refine osa_openX (s := ⟨hp, g, d, t, os⟩) (od := none) Y.st X ⟨hx, rfl, rfl, trivial⟩ T.ovr ht fun b => ?_
  obtain ⟨cd, hc, hd'⟩ := any_some T.hd
  have hxs : x ≠ hp.objs.size := Nat.ne_of_lt (Heap.lt_size hx)
  refine wpAny_bind (wpAny_pure (wpAny_bind (instanceDict_exc (s := ⟨hp, g, d, t, os⟩) hx (looks_clsIn X hc) hd' ?_)))
  refine HandSPX.store_in_new (hp := dictLaid hp x) ?_ fun h' tk' hn hs => hq h' tk' hn hs
  exact ⟨_, #[], _, (Heap.get?_update_ne _ _ _ _ hxs.symm).trans (Heap.get?_push_at rfl rfl), rfl, fun e he => absurd he (by simp), fun _ => rfl⟩
end
end L2.TT

namespace L2.TT
open PySem PySem.Spec PyProof.Rows

/-! ### a def's promise where no repr is under way: repr asks the guards -/
def NoGuard (A : Around) : Prop := A.guards = some []
structure FnG (P : Program) (w : World) (K : PySem.W.Frag) (mg : Str → Option Value) (base : Heap) (CX : CXT) (k : Nat) (f : Addr) (fd : FuncData) (ps : List Str) (sp : Sp) : Prop where
  len : ∀ vs H Q E, sp vs H Q E → vs.length = ps.length
  run : ∀ (A : Around) (outer : List Env) (s : Shared) (H : Hp) (args : Args) (us : List Value) (vs : List V) (Q : VK) (E : XK), NoGuard A → Room k A → Env0 P w K mg base A outer s H → BindsTo s fd args (ps.zip us) → Vals vs us → sp vs H Q E →
    codeAny (model P w) A (.call (.ref f) args) (CR CX outer P w H s Q E) s

/-- a def by its body, where no repr is under way -/
theorem fnG_of {CX : CXT} {P : Program} {w : World} {K : PySem.W.Frag} {mg : Str → Option Value} {base : Heap} {k : Nat} {f : Addr} {name qual : Str} {params : Arguments} {body : List Stmt} {scope : Scope} {dV kV doc pm cdv ct oc : Value} {an od : Option Addr}
    {osl : Array (Option Value)} {N ps : List Str} {sp : Sp} (lk : K.lookup f = some ⟨oc, od, .func (PySem.W.fnOf name qual params body scope dV kV doc pm an cdv ct), osl⟩) (hcd : PySem.W.codeIn K cdv qual = true) (S : FnScope N ps scope)
    (len : ∀ vs H Q E, sp vs H Q E → vs.length = ps.length)
    (hbody : ∀ (A : Around) (outer : List Env) (s : Shared) (H : Hp) (vs : List V) (Q : VK) (E : XK), NoGuard (A.deeper (envOfC qual scope s.heap.objs.size f cdv)) → Room k (A.deeper (envOfC qual scope s.heap.objs.size f cdv)) → sp vs H Q E →
      ∃ t, PSs (cxOf CX P w K mg base N qual scope f cdv A outer s H E) body t ∧ t { nx := fun _ H' => Q .non H', rt := Q } (start N vs) H) :
    FnG P w K mg base CX (k + 1) f (PySem.W.fnOf name qual params body scope dV kV doc pm an cdv ct) ps sp := by
  refine ⟨len, fun A outer s H args us vs Q E hG hr e0 hb r hsp => ?_⟩
  have KX : K.In s.heap := e0.mod.kin.keeps fun b o e => (e0.bs b o e).1
  have lim : s.heap.NoLimit := e0.mod.nolimit.keeps fun b o e => (e0.bs b o e).1
  refine codeAny_call_function hr.depth (KX _ _ lk) rfl S.co S.gen rfl (PySem.W.codeRec_of KX hcd) (hb _ _ _ _ ?_)
  refine wpAny_newFunctionEnv_cells S.kind (fun ⟨n, v⟩ hy => ?_) fun env he s1 x => ?_
  · rcases S.par n (List.of_mem_zip hy).1 with q | q
    · exact .inl q
    · exact .inr ⟨q, PySem.W.cellsFrom_some _ _ _ (.inl q)⟩
  · subst he
    refine ⟨lim.keeps x.toInCall.keep, codeAny_func ?_⟩
    obtain ⟨t, ht, hq⟩ := hbody A outer s H vs Q E hG (hr.deeper _) hsp
    have I : Inv (cxOf CX P w K mg base N qual scope f cdv A outer s H E) [] (start N vs) H s1 := inv_start S hr.hd e0 (len _ _ _ _ hsp) r x
    refine wpAny_mono (ht.run [] s1 (start N vs) H _ I hq) (fun fl s' hs => ?_) fun e s' hs => hs
    cases fl with
    | ret u =>
      obtain ⟨v, σ', H', J, rv, q⟩ := hs
      exact ⟨v, H', J.os, J.bare, J.base, J.hok, rv, q⟩
    | next =>
      obtain ⟨σ', H', J, q⟩ := hs
      exact ⟨.non, H', J.os, J.bare, J.base, J.hok, rfl, q⟩
    | brk => exact hs.elim fun _ z => z.elim fun _ y => y.2.elim
    | cont => exact hs.elim fun _ z => z.elim fun _ y => y.2.elim
section
variable {P : Program} {w : World} {K : PySem.W.Frag} {mg : Str → Option Value} {base : Heap}
theorem Fun.okG {x qual : Str} {st : Stmt} {f : Addr} {fd : FuncData} {N ps : List Str} {k : Nat} {sp : Sp} (F : Fun K x qual st f fd) (S : FnScope N ps (defScope st)) (len : ∀ vs H Q E, sp vs H Q E → vs.length = ps.length)
    (hbody : ∀ (cdv : Value) (A : Around) (outer : List Env) (s : Shared) (H : Hp) (vs : List V) (Q : VK) (E : XK), NoGuard (A.deeper (envOfC qual (defScope st) s.heap.objs.size f cdv)) → Room k (A.deeper (envOfC qual (defScope st) s.heap.objs.size f cdv)) → sp vs H Q E →
      ∃ t, PSs (cxOf CX0 P w K mg base N qual (defScope st) f cdv A outer s H E).nox (defBody st) t ∧ t { nx := fun _ H' => Q .non H', rt := Q } (start N vs) H) : FnG P w K mg base CX0 (k + 1) f fd ps sp := by
  obtain ⟨oc, od, kV, doc, pm, an, cdv, ct, osl, rfl, lk, hcd⟩ := F.ex
  refine fnG_of lk hcd S len fun A outer s H vs Q E hG hr hsp => ?_
  obtain ⟨t, h, q⟩ := hbody cdv A outer s H vs Q E hG hr hsp
  exact ⟨t, h.nox, q⟩
end

/-- what the script's object is taken for: known, or an object of the module -/
def scriptHp (K : PySem.W.Frag) (a : Addr) (o : Obj) (xs : List V) : Hp := fun b => if b = a ∧ K.lookup a = none then some (.frz o (.lst xs)) else none
theorem lawG_call {P : Program} {w : World} {K : PySem.W.Frag} {mg mb : Str → Option Value} {k : Nat} {fa a : Addr} {fd : FuncData} {x : Str} {sp : Sp} {s₁ : Shared} {vs : List Value} {ns : List Int}
    (KX : K.In s₁.heap) (hns : s₁.heap.Ns mainGlobals mg) (hb : s₁.heap.Ns builtinsNs mb) (hbb : ∀ x : Str, x ≠ "__name__" → mb x = bootBuiltins x) (hlim : s₁.heap.NoLimit) (hg : s₁.gens = #[])
    (ha : s₁.heap.get? a = some { cls := .type "list", data := .seq vs.toArray }) (hi : IntsAre vs ns) (hl : ns.length ≤ sizeLine) (hr : Room k callerA)
    (F : ∀ base : Heap, K.In base → base.Ns mainGlobals mg → FnG P w K mg base CX0 k fa fd [x] sp) (hbind : ∀ (s : Shared) (u : Value), BindsTo s fd ⟨[u], []⟩ [(x, u)])
    (hsp : ∀ H : Hp, Only H → SqL K H a (ns.map V.int) → sp [.ref a] H (fun v _ => v = .bl true) fun _ _ _ => False) :
    codeAny (model P w) callerA (.call (.ref fa) ⟨[.ref a], []⟩) (fun r s' => r = .ok (.ret (.bool true)) ∧ OldK s₁.heap s'.heap ∧ s'.os = s₁.os ∧ AllBare s'.gens) s₁ := by
  have rv := vals_ints hi
  have lenV := hi.length
  generalize eH : scriptHp K a { cls := .type "list", data := .seq vs.toArray } (ns.map V.int) = H
  have at_ : ∀ b u, H b = some u → b = a ∧ K.lookup a = none ∧ u = .frz { cls := .type "list", data := .seq vs.toArray } (.lst (ns.map V.int)) := fun b u z => by
    rw [← eH] at z
    unfold scriptHp at z
    by_cases c : b = a ∧ K.lookup a = none
    · rw [if_pos c] at z
      exact ⟨c.1, c.2, (Option.some.inj z).symm⟩
    · rw [if_neg c] at z
      cases z
  have hO : Only H := fun b => by
    cases q : H b with
    | none => exact .inl rfl
    | some u =>
      obtain ⟨_, _, e⟩ := at_ b u q
      exact .inr ⟨_, _, by rw [e]⟩
  have hok : HOk P w H s₁.heap := fun b u z => by
    obtain ⟨e1, _, e2⟩ := at_ b u z
    subst e1 e2
    exact ⟨ha, by rw [List.length_map]; exact hl, vs, _, rv, ha⟩
  have hS : SqL K H a (ns.map V.int) := by
    cases hk : K.lookup a with
    | some o =>
      have e := KX a o hk
      rw [ha] at e
      cases e
      exact .inr ⟨_, vs.toArray, _, hk, rfl, rfl, rfl, by rw [List.size_toArray, lenV]; exact hl, by simpa using rv⟩
    | none => exact .inl (.inr ⟨{ cls := .type "list", data := .seq vs.toArray }, by rw [← eH]; exact if_pos ⟨rfl, hk⟩⟩)
  -- the base: what is not tracked
  have off : ∀ {b : Addr} {o : Obj}, s₁.heap.get? b = some o → (b = a → K.lookup a ≠ none ∨ o.data ≠ .seq vs.toArray) → H b = none := fun {b o} e n => by
    cases q : H b with
    | none => rfl
    | some u =>
      obtain ⟨e1, e2, _⟩ := at_ b u q
      rcases n e1 with z | z
      · exact absurd e2 z
      · rw [e1, ha] at e
        cases e
        exact absurd rfl z
  have ns0 : ∀ {b : Addr} {m : Str → Option Value}, s₁.heap.Ns b m → (hidT s₁.heap H).Ns b m := fun {b m} ⟨o, es, ep, e, d, r⟩ =>
    ⟨o, es, ep, hidT_get e (off e fun _ => .inr (by rw [d]; intro z; cases z)), d, r⟩
  have hKb : K.In (hidT s₁.heap H) := fun b o e => hidT_get (KX b o e) (off (KX b o e) fun z => .inl (by rw [← z, e]; intro y; cases y))
  have hM : Mod K mg (hidT s₁.heap H) := ⟨hKb, ns0 hns, ⟨mb, ns0 hb, hbb⟩, let ⟨mc, h1, h2⟩ := hlim; ⟨mc, ns0 h1, h2⟩⟩
  have e0 : Env0 P w K mg (hidT s₁.heap H) callerA [] s₁ H := ⟨rfl, hM, fun b o e => of_hidT e, Nat.le_of_eq (hidT_size _ _), trivial, fun b hb => absurd (show b ∈ ([] : List Addr) from hb) (by simp), hok, .of_eq hg⟩
  refine codeAny_mono ((F _ hKb (ns0 hns)).run callerA [] s₁ H ⟨[.ref a], []⟩ [.ref a] [.ref a] _ _ rfl hr e0 (hbind s₁ (.ref a)) (.cons rfl .nil) (hsp H hO hS)) fun r s' h => ?_
  cases r with
  | error e => exact h.elim
  | ok fl =>
    cases fl with
    | next => exact False.elim h
    | brk => exact False.elim h
    | cont => exact False.elim h
    | ret u =>
      obtain ⟨v, H', os, bare, un, hok', r', q⟩ := h
      have q' : v = .bl true := q
      subst q'
      obtain rfl : u = Value.bool true := r'
      refine ⟨rfl, OldK.of_keep fun b o e => ?_, os, bare⟩
      cases q : H b with
      | none => exact un.keep b o e q (fun z => absurd (show b ∈ ([] : List Addr) from z) (by simp)) (by simp)
      | some u =>
        obtain ⟨e1, _, e2⟩ := at_ b u q
        rw [e2] at q
        obtain ⟨z, _⟩ := hok' b _ (un.frzs b _ _ q)
        rw [e1, ha] at e
        cases e
        rw [e1]
        rw [e1] at z
        exact z
theorem walkG_of {l : PySem.W.OpenLaw} {n k : Nat} {q : Program} {loose : List Str} {XP : (Str → Option Value) → Heap → Prop} {YP : World → Heap → Prop} {d : DefRec} {K : Params → PySem.W.Frag} {sp : World → Sp} {x : Str}
    (hn : l.most = some n) (hn2 : n ≤ sizeLine) (hdf : d.params.defaults = []) (hr : Room k callerA)
    (hY : ∀ (w : World) (h : Heap), YP w h → (K w.params).In h)
    (F : ∀ (w : World) (mg : Str → Option Value) (fa : Addr) (h : Heap), (K w.params).In h → h.Ns mainGlobals mg → mg d.name = some (.ref fa) →
      ∃ fd : FuncData, (∀ (s : Shared) (u : Value), BindsTo s fd ⟨[u], []⟩ [(x, u)]) ∧
        ∀ base : Heap, (K w.params).In base → base.Ns mainGlobals mg → FnG l.prog w (K w.params) mg base CX0 k fa fd [x] (sp w))
    (hsp : ∀ (w : World) (H : Hp) (a : Addr) (ns : List Int), ns.length ≤ n → Only H → SqL (K w.params) H a (ns.map V.int) → sp w [.ref a] H (fun v _ => v = .bl true) fun _ _ _ => False) :
    PySem.W.WalkO q loose XP YP l.row.toRowW d [] (fun f vs => PySem.call f vs) := by
  refine Att.attach_call hn hdf fun w s₀ s₁ mg mb fa o pm cd doc a vs ns G Y ho hd hcd hmg hobj hints hlen hg => ?_
  obtain ⟨fd, hb, hF⟩ := F w mg fa _ (hY w _ Y) G.T.g hmg
  exact lawG_call (hY w _ Y) G.T.g G.T.b G.T.builtins G.T.nolimit hg hobj hints (Nat.le_trans hlen hn2) hr hF hb fun H hO hS => hsp w H a ns hlen hO hS
end L2.TT

namespace L2.TL
open PySem PySem.Spec PyProof.Rows L2 L2.TT LamX
/-! the twin of lawG_call where tables of code objects stand -/
theorem lawG_callTs {P : Program} {w : World} {K : PySem.W.Frag} {mg mb : Str → Option Value} {k : Nat} {fa a : Addr} {cs : List (Addr × Addr)} {fd : FuncData} {x : Str} {sp : Sp} {s₁ : Shared} {vs : List Value} {ns : List Int}
    (KX : K.In s₁.heap) (hns : s₁.heap.Ns mainGlobals mg) (hb : s₁.heap.Ns builtinsNs mb) (hbb : ∀ x : Str, x ≠ "__name__" → mb x = bootBuiltins x) (hlim : s₁.heap.NoLimit) (hg : s₁.gens = #[])
    (hT : ∀ p ∈ cs, s₁.heap.get? p.2 = some { cls := .none, data := .fields #[] }) (nT : ∀ p ∈ cs, K.lookup p.2 = none) (C : ∀ p ∈ cs, PySem.W.CodeHd s₁.heap p.1 p.2)
    (hbm : ∃ (bm : Addr) (ob : Obj), mg "__builtins__" = some (.ref bm) ∧ bm ≠ builtinsNs ∧ s₁.heap.get? bm = some ob ∧ ob.cls = .type "module" ∧ ob.dict = some builtinsNs ∧ ob.data = .plain)
    (ha : s₁.heap.get? a = some { cls := .type "list", data := .seq vs.toArray }) (hi : IntsAre vs ns) (hl : ns.length ≤ sizeLine) (hr : Room k callerA)
    (F : ∀ base : Heap, K.In base → base.Ns mainGlobals mg → (∀ p ∈ cs, TabB base mg p.1 p.2) → FnG P w K mg base CX0 k fa fd [x] sp) (hbind : ∀ (s : Shared) (u : Value), BindsTo s fd ⟨[u], []⟩ [(x, u)])
    (hsp : ∀ H : Hp, (∀ p ∈ cs, H p.2 = some (.tbl #[])) → SqL K H a (ns.map V.int) → sp [.ref a] H (fun v _ => v = .bl true) fun _ _ _ => False) :
    codeAny (model P w) callerA (.call (.ref fa) ⟨[.ref a], []⟩) (fun r s' => r = .ok (.ret (.bool true)) ∧ OldK s₁.heap s'.heap ∧ s'.os = s₁.os ∧ AllBare s'.gens) s₁ := by
  have rv := vals_ints hi
  have lenV := hi.length
  have isT : ∀ b : Addr, b ∈ cs.map (·.2) → s₁.heap.get? b = some { cls := .none, data := .fields #[] } := fun b hb => by
    obtain ⟨p, hp, e⟩ := List.mem_map.mp hb
    rw [← e]
    exact hT p hp
  have aT : a ∉ cs.map (·.2) := fun z => by
    have q := isT a z
    rw [ha] at q
    have z' : Data.seq vs.toArray _ = Data.fields #[] := congrArg Obj.data (Option.some.inj q)
    cases z'
  have memT : ∀ p ∈ cs, p.2 ∈ cs.map (·.2) := fun p hp => List.mem_map.mpr ⟨p, hp, rfl⟩
  -- from an abstract heap in which nothing but the script and the tables may be tracked
  have core : ∀ H : Hp, (∀ p ∈ cs, H p.2 = some (.tbl #[])) → (∀ b, H b = none ∨ b ∈ cs.map (·.2) ∨ ∃ o xs, H b = some (.frz o (.lst xs))) → SqL K H a (ns.map V.int) → HOk P w H s₁.heap → (∀ b, H b ≠ none → b = a ∨ b ∈ cs.map (·.2)) → (H a ≠ none → K.lookup a = none) →
      codeAny (model P w) callerA (.call (.ref fa) ⟨[.ref a], []⟩) (fun r s' => r = .ok (.ret (.bool true)) ∧ OldK s₁.heap s'.heap ∧ s'.os = s₁.os ∧ AllBare s'.gens) s₁ := by
    intro H hH hO hS hok hA hK
    have base_of : ∀ {b : Addr} {o : Obj}, s₁.heap.get? b = some o → H b = none → (hidT s₁.heap H).get? b = some o := fun e n => hidT_get e n
    have noD : ∀ {b : Addr} {o : Obj}, s₁.heap.get? b = some o → (∀ vs n, o.data ≠ .seq vs n) → o.data ≠ .fields #[] → H b = none := fun {b o} e h1 h2 => by
      cases q : H b with
      | none => rfl
      | some u =>
        rcases hA b (by rw [q]; simp) with e' | e'
        · rw [e', ha] at e
          cases e
          exact (h1 _ _ rfl).elim
        · rw [isT b e'] at e
          cases e
          exact (h2 rfl).elim
    have noA : ∀ {b : Addr} {o : Obj} {es : Array DictEntry} {ep : Nat}, s₁.heap.get? b = some o → o.data = .dict es ep → H b = none := fun {b o es ep} e d => by
      refine noD e (fun vs n z => ?_) fun z => ?_
      · rw [d] at z
        cases z
      · rw [d] at z
        cases z
    have nsK : ∀ {b : Addr} {m : Str → Option Value}, s₁.heap.Ns b m → (hidT s₁.heap H).Ns b m := fun {b m} ⟨o, es, ep, e, d, r⟩ => ⟨o, es, ep, base_of e (noA e d), d, r⟩
    have hKb : K.In (hidT s₁.heap H) := fun b o e => base_of (KX b o e) (by
      cases q : H b with
      | none => rfl
      | some u =>
        rcases hA b (by rw [q]; simp) with e' | e'
        · rw [e'] at e q
          rw [hK (by rw [q]; simp)] at e
          cases e
        · obtain ⟨p, hp, ep⟩ := List.mem_map.mp e'
          rw [← ep, nT p hp] at e
          cases e)
    have hM : L2.Mod K mg (hidT s₁.heap H) := ⟨hKb, nsK hns, ⟨mb, nsK hb, hbb⟩, let ⟨mc, h1, h2⟩ := hlim; ⟨mc, nsK h1, h2⟩⟩
    have TB : ∀ p ∈ cs, TabB (hidT s₁.heap H) mg p.1 p.2 := fun p hp => by
      have hTp := hT p hp
      refine ⟨?_, ?_, fun z => ?_⟩
      · obtain ⟨o, us, file, tf, flags, tg, inF, text, tt, e1, r1, r2, r3, r4, r5, r6, r7, r8, hne⟩ := C p hp
        refine ⟨o, us, file, tf, flags, tg, inF, text, tt, base_of e1 (noD e1 (fun vs n z => ?_) fun z => ?_), r1, r2, r3, r4, r5, r6, r7, r8, hne⟩
        · rw [r2] at z
          cases z
        · rw [r2] at z
          cases z
          simp at r3
      · obtain ⟨bm, ob, b1, b2, b3, b4, b5, b6⟩ := hbm
        have nG : bm ≠ mainGlobals := fun q => by
          obtain ⟨o, es, ep, e, hd, _⟩ := hns
          rw [q, e] at b3
          cases b3
          rw [hd] at b6
          cases b6
        have nP : bm ≠ p.2 := fun q => by
          rw [q, hTp] at b3
          cases b3
          cases b6
        refine ⟨bm, ob, b1, b2, nG, nP, base_of b3 (noD b3 (fun vs n z => ?_) fun z => ?_), b4, b5, b6⟩
        · rw [b6] at z
          cases z
        · rw [b6] at z
          cases z
      · obtain ⟨o, es, ep, e, hd, _⟩ := hns
        rw [z, hTp] at e
        cases e
        cases hd
    have e0 : Env0 P w K mg (hidT s₁.heap H) callerA [] s₁ H := ⟨rfl, hM, fun b o e => of_hidT e, Nat.le_of_eq (hidT_size _ _), trivial, fun b hb => absurd (show b ∈ ([] : List Addr) from hb) (by simp), hok, .of_eq hg⟩
    refine codeAny_mono ((F _ hKb (nsK hns) TB).run callerA [] s₁ H ⟨[.ref a], []⟩ [.ref a] [.ref a] _ _ rfl hr e0 (hbind s₁ (.ref a)) (.cons rfl .nil) (hsp H hH hS)) fun r s' h => ?_
    cases r with
    | error e => exact h.elim
    | ok fl =>
      cases fl with
      | next => exact False.elim h
      | brk => exact False.elim h
      | cont => exact False.elim h
      | ret u =>
        obtain ⟨v, H', os, bare, un, hok', r', q⟩ := h
        have q' : v = .bl true := q
        subst q'
        obtain rfl : u = Value.bool true := r'
        have key : ∀ b o, b ∉ cs.map (·.2) → s₁.heap.get? b = some o → s'.heap.get? b = some o := fun b o nb e => by
          cases q : H b with
          | none => exact un.keep b o e q (by intro z; exact absurd (show b ∈ ([] : List Addr) from z) (by simp)) (by simp)
          | some u =>
            rcases hO b with z | z | ⟨ob, xs, z⟩
            · rw [q] at z; cases z
            · exact absurd z nb
            · have z2 := un.frzs b ob _ z
              obtain ⟨e1, _⟩ := hok b _ z
              obtain ⟨e2, _⟩ := hok' b _ z2
              rw [e] at e1; cases e1
              exact e2
        have grown : ∀ p ∈ cs, ∃ more : Array Value, s'.heap.get? p.2 = some { cls := .none, data := .fields more } := fun p hp => by
          obtain ⟨more, z⟩ := un.tbls p.2 #[] (hH p hp)
          exact ⟨_, hok' p.2 _ z⟩
        refine ⟨rfl, ⟨fun b o e => ?_, fun b o e => ?_⟩, os, bare⟩
        · by_cases hb : b ∈ cs.map (·.2)
          · obtain ⟨p, hp, ep⟩ := List.mem_map.mp hb
            obtain ⟨more, hm⟩ := grown p hp
            rw [← ep] at e ⊢
            rw [hT p hp] at e
            cases e
            exact .inr (.inl ⟨((C p hp).tab (hT p hp)).isCodeTable, rfl, #[], more, rfl, by rw [Array.empty_append]; exact hm⟩)
          · exact .inl (key b o hb e)
        · by_cases hb : b ∈ cs.map (·.2)
          · obtain ⟨p, hp, ep⟩ := List.mem_map.mp hb
            obtain ⟨more, hm⟩ := grown p hp
            rw [← ep]
            exact ⟨_, hm⟩
          · exact ⟨o, key b o hb e⟩
  cases hk : K.lookup a with
  | some o =>
    have e := KX a o hk
    rw [ha] at e
    cases e
    refine core (fun b => if b ∈ cs.map (·.2) then some (.tbl #[]) else none) (fun p hp => if_pos (memT p hp)) (fun b => ?_) (.inr ⟨_, vs.toArray, _, hk, rfl, rfl, rfl, by rw [List.size_toArray, lenV]; exact hl, by simpa using rv⟩) (fun b u z => ?_) (fun b z => ?_) fun z => absurd (show (if a ∈ cs.map (·.2) then some (HO.tbl #[]) else none) = none from if_neg aT) z
    · by_cases hb : b ∈ cs.map (·.2)
      · exact .inr (.inl hb)
      · exact .inl (if_neg hb)
    · by_cases hb : b ∈ cs.map (·.2)
      · have z' := (if_pos hb).symm.trans z
        cases z'
        exact isT b hb
      · have z' := (if_neg hb).symm.trans z
        cases z'
    · by_cases hb : b ∈ cs.map (·.2)
      · exact .inr hb
      · exact absurd (if_neg hb) z
  | none =>
    refine core (fun b => if b = a then some (.frz { cls := .type "list", data := .seq vs.toArray } (.lst (ns.map V.int))) else if b ∈ cs.map (·.2) then some (.tbl #[]) else none) (fun p hp => (if_neg (show ¬ p.2 = a from fun z => aT (by rw [← z]; exact memT p hp))).trans (if_pos (memT p hp))) (fun b => ?_)
      (.inl (.inr ⟨{ cls := .type "list", data := .seq vs.toArray }, if_pos rfl⟩)) (fun b u z => ?_) (fun b z => ?_) fun _ => hk
    · by_cases hb : b = a
      · exact .inr (.inr ⟨_, _, if_pos hb⟩)
      · by_cases hb2 : b ∈ cs.map (·.2)
        · exact .inr (.inl hb2)
        · exact .inl ((if_neg hb).trans (if_neg hb2))
    · by_cases hb : b = a
      · have z' := (if_pos hb).symm.trans z
        cases z'
        rw [hb]
        exact ⟨ha, by rw [List.length_map]; exact hl, vs, _, rv, ha⟩
      · have z1 := (if_neg hb).symm.trans z
        by_cases hb2 : b ∈ cs.map (·.2)
        · have z' := (if_pos hb2).symm.trans z1
          cases z'
          exact isT b hb2
        · have z' := (if_neg hb2).symm.trans z1
          cases z'
    · by_cases hb : b = a
      · exact .inl hb
      · by_cases hb2 : b ∈ cs.map (·.2)
        · exact .inr hb2
        · exact absurd ((if_neg hb).trans (if_neg hb2)) z
theorem walkG_ofTs {l : PySem.W.OpenLaw} {n k : Nat} {q : Program} {loose : List Str} {XP : (Str → Option Value) → Heap → Prop} {YP : World → Heap → Prop} {d : DefRec} {K : Params → PySem.W.Frag} {x : Str}
    (hn : l.most = some n) (hn2 : n ≤ sizeLine) (hdf : d.params.defaults = []) (hr : Room k callerA) (hY : ∀ (w : World) (h : Heap), YP w h → (K w.params).In h)
    (F : ∀ (w : World) (mg : Str → Option Value) (fa : Addr) (h : Heap), YP w h → (K w.params).In h → h.Ns mainGlobals mg → mg d.name = some (.ref fa) →
      ∃ (fd : FuncData) (cs : List (Addr × Addr)) (sp : Sp), (∀ p ∈ cs, h.get? p.2 = some { cls := .none, data := .fields #[] }) ∧ (∀ p ∈ cs, (K w.params).lookup p.2 = none) ∧ (∀ p ∈ cs, PySem.W.CodeHd h p.1 p.2) ∧ (∀ (s : Shared) (u : Value), BindsTo s fd ⟨[u], []⟩ [(x, u)]) ∧
        (∀ (H : Hp) (a : Addr) (ns : List Int), ns.length ≤ n → (∀ p ∈ cs, H p.2 = some (.tbl #[])) → SqL (K w.params) H a (ns.map V.int) → sp [.ref a] H (fun v _ => v = .bl true) fun _ _ _ => False) ∧
        ∀ base : Heap, (K w.params).In base → base.Ns mainGlobals mg → (∀ p ∈ cs, TabB base mg p.1 p.2) → FnG l.prog w (K w.params) mg base CX0 k fa fd [x] sp) :
    PySem.W.WalkO q loose XP YP l.row.toRowW d [] (fun f vs => PySem.call f vs) := by
  refine Att.attach_callB hn hdf fun w s₀ s₁ mg mb fa o pm cd doc a vs ns G Y ho hd hcd hmg hobj hints hlen hbits hg => ?_
  have KX := hY w _ Y
  obtain ⟨fd, cs, sp, hT, nT, C, hb, hsp, hF⟩ := F w mg fa _ Y KX G.T.g hmg
  exact lawG_callTs KX G.T.g G.T.b G.T.builtins G.T.nolimit hg hT nT C G.T.bmain hobj hints (Nat.le_trans hlen hn2) hr hF hb (fun H hH hS => hsp H a ns hlen hH hS)
end L2.TL

namespace L2.TT
open PySem PySem.Spec PyProof.Rows
section
variable {X : Cx} {pins : List (Addr × Obj)} {σ : St} {H : Hp} {s : Shared}
/-- xs + ys, two lists that may be known ones -/
def rCatL (K : PySem.W.Frag) : R2 := fun x y H Q => ∃ l b xs zs, x = .ref l ∧ y = .ref b ∧ SqL K H l xs ∧ SqL K H b zs ∧ xs.length + zs.length ≤ sizeLine ∧ ∀ p, H p = none → Q (.ref p) (upd H p (.lst (xs ++ zs)))
theorem op_catL : OpR X (binaryOp .Add) (rCatL X.K) := by
  intro pins s σ H x y v u Q I rx ry h
  obtain ⟨l, b, xs, zs, rfl, rfl, h1, h2, hz, q⟩ := h
  cases rx
  cases ry
  obtain ⟨its, r1, ⟨⟨c1, d1, e1, sl1⟩, n1, ho1, hc1, hd1, he1⟩, _⟩ := I.list h1
  obtain ⟨jts, r2, ⟨⟨c2, d2, e2, sl2⟩, n2, ho2, hc2, hd2, he2⟩, _⟩ := I.list h2
  simp only at hc1 he1 hc2 he2
  subst hc1 he1 hc2 he2
  have l1 := r1.length
  have l2 := r2.length
  refine concat_meets ⟨_, ho1, rfl⟩ ⟨_, ho2, rfl⟩ noFill_list_add seq_list_add PySem.F.slot_list_add PySem.F.entry_list_add (PySem.F.args_list_add_2 _ _) (list_addW l b its.toArray jts.toArray n1 n2 d1 d2 sl1 sl2 (by rw [List.size_toArray, List.size_toArray]; omega)) ⟨ho1, ho2, ?_⟩
  have ea : its.toArray ++ jts.toArray = (its ++ jts).toArray := by simp
  rw [ea]
  exact ⟨.ref _, _, I.lnew (t' := s.toks) (r1.append r2) (by rw [List.length_append]; omega), rfl, q _ I.fresh⟩
/-- the bools of a list counted -/
def eqb (k : Bool) : Value → Bool
  | .bool b => b == k
  | _ => false
theorem vals_bools : ∀ {us : List Value} {bs : List Bool}, Vals (bs.map V.bl) us → us = bs.map Value.bool
  | [], [], _ => rfl
  | _ :: _, [], h => by cases h
  | [], _ :: _, h => by cases h
  | u :: us, b :: bs, h => by
    cases h with
    | cons r t =>
      cases (show u = Value.bool b from r)
      rw [vals_bools t]
      rfl
theorem count_bools (k : Bool) : ∀ bs : List Bool, (bs.map Value.bool).countP (eqb k) = bs.count k
  | [] => rfl
  | b :: r => by
    rw [List.map_cons, List.countP_cons, List.count_cons, count_bools k r]
    rfl
def rCntB (K : PySem.W.Frag) : V → List V → Hp → VK → Prop := fun x xs H Q => ∃ (p : Addr) (bs : List Bool) (k : Bool), x = .ref p ∧ xs = [.bl k] ∧ SqL K H p (bs.map V.bl) ∧ Q (.int (bs.count k : Nat)) H
theorem mt_cntB : MtR X "list.count" (rCntB X.K) := by
  intro pins s σ H x xs v us Q I rx rxs h
  obtain ⟨p, bs, k, rfl, rfl, hs, q⟩ := h
  cases rx
  obtain ⟨u, rfl, ru⟩ := rxs.one
  cases (show u = Value.bool k from ru)
  obtain ⟨its, rv, ⟨⟨cls, dd, data, sl⟩, n, ho, hc, hdn, hd⟩, hlen⟩ := I.list hs
  simp only at hc hd
  subst hc hd
  have e := vals_bools rv
  subst e
  refine call_meets PySem.F.slot_list_count ⟨_, ho, rfl⟩ PySem.F.entry_list_count (PySem.F.args_list_count_2 _ _)
    (SeqAt.list_countAt p (bs.map Value.bool).toArray n dd sl (.bool k) (eqb k)) ⟨ho, fun y hy => ?_, ?_⟩
  · obtain ⟨b, _, rfl⟩ := List.mem_map.mp (List.mem_toArray.mp hy)
    exact SeqAt.EqAt.bool_bool b k
  · refine ⟨.int (bs.count k : Nat), H, I.tok _, ⟨s.toks, ?_⟩, q⟩
    show Value.int (((bs.map Value.bool).toArray.toList.countP (eqb k) : Nat) : Int) s.toks = Value.int ((bs.count k : Nat) : Int) s.toks
    rw [List.toList_toArray, count_bools]
end
/-- for i, x in enumerate(xs), xs standing still -/
theorem for_enumL {K : PySem.W.Frag} {a : Addr} {xs : List V} {g : TG} {tb : TS} {D : Ends} {σ : L2.St} {H : Hp} (Pv : Nat → L2.St → Hp → Prop) (h0 : Pv 0 σ H) (hl : ∀ i σ H, i ≤ xs.length → Pv i σ H → SqL K H a xs)
    (hs : ∀ i x T σ H, xs[i]? = some x → Pv i σ H → H T = none → g (.ref T) σ (upd H T (.tup [.int (i : Nat), x])) fun σ2 H2 => tb { D with nx := Pv (i + 1), ct := Pv (i + 1), bk := D.nx } σ2 H2) (hd : ∀ σ H, Pv xs.length σ H → D.nx σ H) :
    ∃ W : Nat → Nat → L2.St → Hp → Prop, (∃ m, W 0 m σ H) ∧ ∀ i m σ H, W i m σ H →
      ((Ite K a).stop i H ∧ D.nx σ H) ∨ ((Ite K a).go i H ∧ ∃ N : L2.St → Hp → Prop, (∀ σ' H', N σ' H' → ∃ m', m' < m ∧ W (i + 1) m' σ' H') ∧ ∀ x H', (Ite K a).yld i H x H' → g x σ H' fun σ2 H2 => tb { D with nx := N, ct := N, bk := D.nx } σ2 H2) := by
  refine ⟨fun i m σ H => m = xs.length - i ∧ i ≤ xs.length ∧ Pv i σ H, ⟨xs.length, by simp, Nat.zero_le _, h0⟩, ?_⟩
  rintro i m σ H ⟨rfl, hi, p⟩
  have q := hl i σ H hi p
  by_cases hlt : i < xs.length
  · refine .inr ⟨⟨xs, xs[i], q, by simp [hlt]⟩, Pv (i + 1), fun σ' H' p' => ⟨xs.length - (i + 1), by omega, rfl, hlt, p'⟩, fun x H' y => ?_⟩
    obtain ⟨T, z, rfl, hT, rfl, y⟩ := y
    exact hs i z T σ H (y xs q) p hT
  · have e : i = xs.length := by omega
    subst e
    exact .inl ⟨⟨xs, q, Nat.le_refl _⟩, hd σ H p⟩
end L2.TT

namespace L2.TT
open PySem PySem.Spec PyProof.Rows PySem.W StX
section
variable {X : Cx} {CX : CXT} {k : Nat} {f C : Addr} {fd : FuncData} {ps ks : List Str} {sp : Sp} {E : XK} {x : Str} {p pos : Pos} {e : Expr} {es : List Expr} {kws : List Keyword} {t tk : TA}
/-- f(k = v, ..), all by name -/
def tKW (m : Nat) (sp : Sp) (gV : List V → List V) (E : XK) (tk : TA) : TE := fun σ H Q => tk σ H fun zs H1 => zs.length = m ∧ sp (gV zs) H1 Q E
theorem pe_callKW0 {gg : List Value → List Value} {hV : List V → List V} (F : FnOk X.prog X.w X.K X.mg X.base CX k f fd ps sp) (hr : Room k X.A)
    (hb : ∀ (s : Shared) (ws : List Value), X.K.In s.heap → ws.length = ks.length → BindsTo s fd ⟨[], ks.zip ws⟩ (ps.zip (gg ws))) (hrel : ∀ {zs : List V} {ws : List Value}, zs.length = ks.length → Vals zs ws → Vals (hV zs) (gg ws))
    (hx : Passes CX X E) (hg : Gl X x) (hm : X.mg x = some (.ref f)) (hk : keepIn X.K (.ref f) = true) (hkw : PK X kws tk)
    (hall : (backToKw pos (keywordEach kws X.env)).all (·.1.isSome) = true := by rfl) (hks : (backToKw pos (keywordEach kws X.env)).filterMap (·.1) = ks := by rfl) (hdb : (x == ("__debug__" : Str)) = false := by decide)
    (hpl : ((backTo pos (starEach [] X.env)).any (·.1) || (backToKw pos (keywordEach kws X.env)).any (·.1.isNone)) = false := by rfl) :
    PE X (.Call (.Name x p) [] kws pos) (tKW ks.length sp hV E tk) := by
  refine ⟨fun pins s σ H Q I h => ?_⟩
  refine wpAny_Call_Name_kw (ld_glob I hg hm ?_ hdb)
  refine callWith_KW0 (h₀ := X.base) I.ok.mod.kin hk hall ?_ hpl
  refine thn (hkw.run pos pins s σ H _ I h) fun ws s2 ⟨zs, H2, I2, rz, l2, q2⟩ => ⟨I2.kIn, ?_⟩
  rw [hks]
  have lw : ws.length = ks.length := rz.length.symm.trans l2
  refine wpAny_call (codeAny_mono (F.run X.A X.stack s2 H2 ⟨[], ks.zip ws⟩ (gg ws) (hV zs) Q E hr I2.env0 (hb s2 ws I2.kIn lw) (hrel l2 rz) q2) fun r s' hq => ?_)
  cases r with
  | error er => exact hx pins σ H2 s2 er s' I2 hq
  | ok fl =>
    cases fl with
    | ret u => exact I2.after hq
    | next => exact False.elim hq
    | brk => exact False.elim hq
    | cont => exact False.elim hq
/-- f(e, ..), f a def that asks that no repr is under way -/
theorem pe_callG (F : FnG X.prog X.w X.K X.mg X.base CX k f fd ps sp) (hG : NoGuard X.A) (hr : Room k X.A) (hg : Gl X x) (hm : X.mg x = some (.ref f)) (hk : keepIn X.K (.ref f) = true) (hb : Binds X.K fd ps []) (hx : Passes CX X E) (ha : PA X (e :: es) t)
    (hdb : (x == ("__debug__" : Str)) = false := by decide) (he : starEach (e :: es) X.env = (false, eval e X.env) :: starEach es X.env := by rfl) (hpl : (backTo pos (starEach es X.env)).any (·.1) = false := by rfl) :
    PE X (.Call (.Name x p) (e :: es) [] pos) (fun σ H Q => t σ H fun vs H1 => sp vs H1 Q E) := by
  refine ⟨fun pins s σ H Q I h => ?_⟩
  refine wpAny_Call_Name_kw (ld_glob I hg hm ?_ hdb)
  refine callWith_K (h₀ := X.base) I.ok.mod.kin hk (thn (ha.run pos pins s σ H _ I h) fun us s1 ⟨vs, H1, I1, r, q⟩ => ⟨I1.kIn, ?_⟩) he hpl
  have hl : (us ++ []).length = ps.length := by rw [List.append_nil, ← r.length]; exact F.len _ _ _ _ q
  have hb1 := hb s1 us I1.kIn hl
  rw [List.append_nil] at hb1
  refine wpAny_call (codeAny_mono (F.run X.A X.stack s1 H1 ⟨us, []⟩ us vs Q E hG hr I1.env0 hb1 r q) fun r s' hq => ?_)
  cases r with
  | error er => exact hx pins σ H1 s1 er s' I1 hq
  | ok fl =>
    cases fl with
    | ret u => exact I1.after hq
    | next => exact False.elim hq
    | brk => exact False.elim hq
    | cont => exact False.elim hq
/-- C(), C's __init__ told by its positional promise -/
theorem pe_makeR0 (M : Mk X.K C f) (F : FnR X.prog X.w X.K X.mg X.base CX k f sp) (hr : Room (k + 1) X.A) (hg : Gl X x) (hm : X.mg x = some (.ref C)) (hx : Passes CX X E) (hdb : (x == ("__debug__" : Str)) = false := by decide) :
    PE X (.Call (.Name x p) [] [] pos) (tMakeR C sp E tNil) := by
  refine ⟨fun pins s σ H Q I h => ?_⟩
  refine wpAny_Call_Name_kw (ld_glob I hg hm ?_ hdb)
  refine callWith_K0 I.kIn M.kp ?_
  exact run_makeR M F hr hx I .nil h
end
theorem Fun.kb {K : PySem.W.Frag} {x qual : Str} {st : Stmt} {f : Addr} {fd : FuncData} {ps ks : List Str} {gg : List Value → List Value} (F : Fun K x qual st f fd)
    (h : ∀ (kV doc pm : Value) (an : Option Addr) (cdv ct : Value) (ws : List Value), ws.length = ks.length → bindArgs (PySem.W.fnOf x qual (defArgs st) (defBody st) (defScope st) .none kV doc pm an cdv ct) ⟨[], ks.zip ws⟩ = pure (ps.zip (gg ws))) :
    ∀ (s : Shared) (ws : List Value), K.In s.heap → ws.length = ks.length → BindsTo s fd ⟨[], ks.zip ws⟩ (ps.zip (gg ws)) := by
  obtain ⟨oc, od, kV, doc, pm, an, cdv, ct, osl, rfl, lk, hcd⟩ := F.ex
  exact fun s ws _ hl => .of_eq (h kV doc pm an cdv ct ws hl)
end L2.TT

namespace L2.TL
open PySem PySem.Spec PyProof.Rows L2 LamX
section
variable {X : Cx} {pins : List (Addr × Obj)} {σ : L2.St} {H HZ : Hp} {s s1 : Shared}
/-- x(), in the def that got the lambda, the wish about errors by the slots -/
theorem pe_actS {CXg : CXT} {Eg : XK} {Ng : List Str} {qg : Str} {sg : Scope} {g f c' : Addr} {cdg pm ctv : Value} {params : Arguments} {body : Expr} {scope : Scope} {k i : Nat} {a : Str} {pn : List (Addr × Obj)} {xe : Value → Shared → Prop} {E : L2.St → XK} {tb : XK → TE} {p1 p2 : Pos}
    (I : Inv X pins σ H s) (L : LamS X.env.scope scope) (hf : s.heap.get? f = some (PySem.W.kla_obj "<lambda>" (X.env.qual ++ "<lambda>") params body scope (cloFrom X.env.cells scope.names []) pm c' ctv)) (hfn : H f = none) (hfr : f ∉ frs X.stack)
    (hbind : bindArgs (PySem.W.kla_fn "<lambda>" (X.env.qual ++ "<lambda>") params body scope (cloFrom X.env.cells scope.names []) pm (.ref c') ctv) ⟨[], []⟩ = pure [])
    (hx : ∀ σZ, PassesAt (L2.CX X.prog X.w) ((cxOf CXg X.prog X.w X.K X.mg X.base Ng qg sg g cdg X.A X.stack s H Eg).tr pn xe) σZ (E σZ)) (hr : Room (k + 1) (X.A.deeper (envOfC qg sg s.heap.objs.size g cdg)))
    (hbody : ∀ (A : Around) (outer : List Env) (s : Shared) (H : Hp) (E : XK), Room k (A.deeper (lamEnv X scope s.heap.objs.size f c')) → PE (lamCx X A outer s H E scope f c') body (tb E))
    (hN : Ng[i]? = some a) (hv : Vis sg a) (hd : (a == ("__debug__" : Str)) = false := by decide) (hcd : (a == ("__classdict__" : Str)) = false := by decide) :
    PE ((cxOf CXg X.prog X.w X.K X.mg X.base Ng qg sg g cdg X.A X.stack s H Eg).tr pn xe) (.Call (.Name a p1) [] [] p2)
      (fun σZ HZ Q => σZ[i]? = some (some (.ref f)) ∧ HZ c' = some (CodeO c' (X.env.qual ++ "<lambda>")) ∧ tb (E σZ) σ HZ Q) := by
  refine ⟨fun pinsZ sZ σZ HZ Q IZ h => ?_⟩
  obtain ⟨hs, hc, ht⟩ := h
  refine wpAny_Call_Name_kw (thn ((pe_var (pos := p1) (i := i) hN hv hd hcd).run pinsZ sZ σZ HZ (fun v H1 => v = .ref f ∧ H1 = HZ) IZ ⟨.ref f, hs, rfl, rfl⟩) fun u s1 ⟨v, H1, I1, r1, q1⟩ => ?_)
  obtain ⟨ev, eH⟩ := q1
  subst ev
  rw [eH] at I1
  obtain rfl : u = Value.ref f := r1
  have of1 : s1.heap.get? f = some (PySem.W.kla_obj "<lambda>" (X.env.qual ++ "<lambda>") params body scope (cloFrom X.env.cells scope.names []) pm c' ctv) := I1.base.keep f _ hf hfn hfr (fun z => nomatch (show f ∈ ([] : List Addr) from z))
  refine PySem.W.callWith_F0 ⟨_, _, _, _, of1⟩ ?_
  have un : Un (frs X.stack) [] H HZ s.heap s1.heap := I1.base
  obtain ⟨⟨oc, vs, t, hoc, hdc, hvc⟩, _, _⟩ := I1.hok c' _ hc
  have rc : codeAny (model X.prog X.w) (X.A.deeper (envOfC qg sg s.heap.objs.size g cdg)) (.call (.ref f) ⟨[], []⟩) (CR (L2.CX X.prog X.w) (envOfC qg sg s.heap.objs.size g cdg :: X.stack) X.prog X.w HZ s1 Q (E σZ)) s1 := by
    refine PySem.W.kla_callFunE hr.depth of1 rfl L.co L.gen rfl ⟨c', oc, vs, t, rfl, hoc, hdc, hvc⟩ ?_
    rw [hbind]
    refine wpAny_pure (wpAny_newFunctionEnv (fun y hy => (L.own y hy).2) (fun y hy => absurd hy (by simp)) (fun h₁ hns hsb => ⟨I1.nolimit.fresh _ hsb, ?_⟩) L.kind)
    show codeAny _ _ (.expr body (lamEnv X scope s1.heap.objs.size f c')) _ _
    have kp : ∀ b o, s1.heap.get? b = some o → h₁.get? b = some o := fun b o e => hsb.extBut b o (Nat.ne_of_lt (Heap.lt_size e)) (Heap.get?_push_of_some _ e)
    have J : Inv (lamCx X (X.A.deeper (envOfC qg sg s.heap.objs.size g cdg)) (envOfC qg sg s.heap.objs.size g cdg :: X.stack) s1 HZ (E σZ) scope f c') [] σ HZ { s1 with heap := h₁, toks := s1.toks + ([] : List (Str × Value)).length } :=
      lam_start2 I L I1.env0 hr.hd un hns kp
    refine PySem.W.kla_codeExpr (wpAny_mono ((hbody _ _ s1 HZ (E σZ) (hr.deeper _)).run [] _ _ HZ Q J ht) (fun v s' hq => ?_) fun e s' hq => hq)
    obtain ⟨w', H', J', rv, q⟩ := hq
    exact ⟨w', H', J'.os, J'.bare, J'.base, J'.hok, rv, q⟩
  refine wpAny_call (codeAny_mono rc fun r s' hq => ?_)
  cases r with
  | error e => exact hx σZ pinsZ HZ s1 e s' I1 hq
  | ok fl =>
    cases fl with
    | ret u => exact I1.after hq
    | next => exact False.elim hq
    | brk => exact False.elim hq
    | cont => exact False.elim hq
end
/-- as GivesTo, the wish about errors by the slots -/
def GivesS (X : Cx) (Ng : List Str) (x : Str) (sg : Scope) (g : Addr) (cdg : Value) (bg : List Stmt) (a : Str) (q : Str) (TT : (XK → Hp → VK → Prop) → Hp → VK → Prop) : Prop :=
  ∀ (f c' : Addr) (s : Shared) (H : Hp) (Q : VK) (tl : XK → Hp → VK → Prop),
    (∀ (pn : List (Addr × Obj)) (xe : Value → Shared → Prop) (E : L2.St → XK) (p1 p2 : Pos), (∀ σZ, PassesAt (L2.CX X.prog X.w) ((cxOf C8.CX0 X.prog X.w X.K X.mg X.base Ng x sg g cdg X.A X.stack s H C8.E0).tr pn xe) σZ (E σZ)) →
      PE ((cxOf C8.CX0 X.prog X.w X.K X.mg X.base Ng x sg g cdg X.A X.stack s H C8.E0).tr pn xe) (.Call (.Name a p1) [] [] p2) (fun σZ HZ Q => σZ[0]? = some (some (.ref f)) ∧ HZ c' = some (CodeO c' q) ∧ tl (E σZ) HZ Q)) →
    H c' = some (CodeO c' q) → TT tl H Q → Room 2 (X.A.deeper (envOfC x sg s.heap.objs.size g cdg)) →
    ∃ t, PSs (cxOf C8.CX0 X.prog X.w X.K X.mg X.base Ng x sg g cdg X.A X.stack s H C8.E0).nox bg t ∧ t { nx := fun _ H' => Q .non H', rt := Q } (L2.start Ng [.ref f]) H
section
variable {X : Cx}
/-- x(lambda: body) -/
theorem pe_lamcallS {T : List (Addr × Str)} {TT : (XK → Hp → VK → Prop) → Hp → VK → Prop} {x a : Str} {g c P : Addr} {k : Nat} {pg : Arguments} {bg : List Stmt} {sg : Scope} {dV kV doc pm cdv ct oc : Value} {an od : Option Addr} {osl : Array (Option Value)} {Ng : List Str}
    {params : Arguments} {body : Expr} {scope : Scope} {t : XK → TE} {p lpos pos : Pos} (hg : Gl X x) (hm : X.mg x = some (.ref g)) (hk : PySem.W.keepIn X.K (.ref g) = true)
    (lk : X.K.lookup g = some ⟨oc, od, .func (PySem.W.fnOf x x pg bg sg dV kV doc pm an cdv ct), osl⟩) (hcg : PySem.W.codeIn X.K cdv x = true) (hb : L2.Binds X.K (PySem.W.fnOf x x pg bg sg dV kV doc pm an cdv ct) [a] []) (Sg : FnScope Ng [a] sg) (hNg : Ng[0]? = some a) (hva : Vis sg a)
    (hG : GivesS X Ng x sg g cdv bg a (X.env.qual ++ "<lambda>") TT)
    (TB : TabB X.base X.mg c P) (hcode : X.env.code = .ref c) (hmT : (P, X.env.qual ++ "<lambda>") ∈ T) (hu : ∀ p ∈ T, p.1 = P → p.2 = X.env.qual ++ "<lambda>") (hr : Room (k + 4) X.A) (L : LamS X.env.scope scope) (hdef : defaultsOf params X.env = ([], []))
    (hbind : ∀ (q : Str) (cl : List (Str × Addr)) (pm cv ctv : Value), bindArgs (PySem.W.kla_fn "<lambda>" q params body scope cl pm cv ctv) ⟨[], []⟩ = pure [])
    (hbody : ∀ (A : Around) (outer : List Env) (s : Shared) (H : Hp) (E : XK) (f c' : Addr), Room (k + 2) (A.deeper (lamEnv X scope s.heap.objs.size f c')) → PE (lamCx X A outer s H E scope f c') body (t E))
    (hdb : (x == ("__debug__" : Str)) = false := by decide) (hd : (a == ("__debug__" : Str)) = false := by decide) (hcd : (a == ("__classdict__" : Str)) = false := by decide) :
    PE X (.Call (.Name x p) [.Lambda params body scope lpos] [] pos) (tLam T TT t) := by
  refine ⟨fun pins s σ H Q I h => ?_⟩
  obtain ⟨hT, h⟩ := h
  refine wpAny_Call_Name_kw (ld_glob I hg hm ?_ hdb)
  refine PySem.W.callWith_K (h₀ := X.base) I.ok.mod.kin hk ?_ (by rfl) (by rfl)
  show wpAny _ _ (spliced ((false, eval (.Lambda params body scope lpos) X.env) :: backTo pos (starEach [] X.env))) _ _ s
  refine Calls.spliced_cons (lam_make2 I TB hcode hmT hu hT hdef (L.has I.ok) fun f c' pm' ctv H1 s' I1 eN T1 hf hfn hfr hco => ?_)
  refine Calls.spliced_nil ⟨I1.kIn, ?_⟩
  have rc : codeAny (model X.prog X.w) X.A (.call (.ref g) ⟨[.ref f], []⟩) (CR C8.CX0 X.stack X.prog X.w H1 s' Q C8.E0) s' := by
    refine run_ofS (N := Ng) (ps := [a]) (us := [.ref f]) (vs := [.ref f]) (k := k + 3) lk hcg Sg hr I1.env0 (hb s' [.ref f] I1.kIn rfl) (.cons rfl .nil) rfl fun hr' => ?_
    obtain ⟨t', ht', hq'⟩ := hG f c' s' H1 Q (fun E H' Q' => t E σ H' Q') (fun pn xe E p1 p2 hx => pe_actS (i := 0) I1 L hf hfn hfr (hbind _ _ _ _ _) hx hr' (fun A outer s H E hr2 => hbody A outer s H E f c' hr2) hNg hva hd hcd) hco (h H1 eN T1) (hr'.mono (by omega))
    exact ⟨t', ht'.nox, hq'⟩
  refine wpAny_call (codeAny_mono rc fun r s2 hq => ?_)
  cases r with
  | error e => exact (show False from hq).elim
  | ok fl =>
    cases fl with
    | ret u => exact I1.after hq
    | next => exact False.elim hq
    | brk => exact False.elim hq
    | cont => exact False.elim hq
end
end L2.TL

namespace L2.TT
open PySem PySem.Spec PyProof.Rows PySem.W

/-- an exception stands at a: of the class at C, with these fields -/
def ExcAt (H : Hp) (a C : Addr) (fs : List (Str × V)) : Prop := ∃ d, H a = some (exo a C (some d)) ∧ H d = some (exd d fs)
theorem ExcAt.same {H H' : Hp} {a C : Addr} {fs : List (Str × V)} (e : ExcAt H a C fs) (s : Same H H') : ExcAt H' a C fs := by
  obtain ⟨d, h1, h2⟩ := e
  exact ⟨d, s _ _ h1, s _ _ h2⟩

section
variable {X : Cx} {pins : List (Addr × Obj)} {σ : St} {H : Hp} {s : Shared} {a C : Addr} {f : Str} {y : V} {u : Value} {Q : Unit → Shared → Prop} {E : Value → Shared → Prop} {A : Around} {B newId initId : String} {bmB : List Value}
/-- self.f = y on an exception that is being made: its dict is laid -/
theorem xset_first (Y : XB B newId initId bmB) (T : XC X.K C bmB newId) (I : Inv X pins σ H s) (e : H a = some (exo a C none)) (hno : findIn X.K (.ref C) f = some none) (ry : RelV y u)
    (h : ∀ dx s', H dx = none → dx ≠ a → Inv X pins σ (upd (upd H dx (exd dx [(f, y)])) a (exo a C (some dx))) s' → Q () s') : wpAny (model X.prog X.w) A (setAttr (.ref a) f u) Q E s := by
  obtain ⟨t1, ho⟩ := exo_at I.hok e
  obtain ⟨hp, g, d, t, os⟩ := s
  refine set_plain I.kIn (ox := excObj C t1 none .none) (od := none) ⟨ho, rfl, rfl, trivial⟩ T.sa ?_
  refine osa_first Y T I.kIn ho hno (fun h' tk' hn hs => ?_)
  have nda : hp.objs.size ≠ a := (Nat.ne_of_lt (Heap.lt_size ho)).symm
  have fr : H hp.objs.size = none := I.hok.fresh (Nat.le_refl _)
  -- the dict, empty
  have n0 : (hp.push (dictOf [] 0)).Ns1 hp.objs.size (fun _ => none) := Heap.Ns1.of_empty ⟨_, #[], _, Heap.get?_push_at rfl rfl, rfl, fun e he => absurd he (by simp), fun _ => rfl⟩
  have I1 := I.laid (t' := t) (a := hp.objs.size) (o := exd hp.objs.size []) (h' := hp.push (dictOf [] 0)) (fun b o e => Heap.get?_push_of_some _ e) (Nat.le_refl _) (exd_ok n0 fun _ => True.intro)
  have ho1 : (hp.push (dictOf [] 0)).get? a = some (excObj C t1 none .none) := Heap.get?_push_of_some _ ho
  have hx2 : (dictLaid hp a).get? a = some (excObj C t1 (some hp.objs.size) .none) := Heap.get?_update_self _ ho1 rfl
  have ea1 : upd H hp.objs.size (exd hp.objs.size []) a = some (exo a C none) := by rw [upd_ne nda.symm]; exact e
  have I2 := I1.write (t' := t) (x := a) (e := a) (o := exo a C (some hp.objs.size)) (h' := dictLaid hp a) (by rw [ea1]; exact True.intro) (.inl rfl) (fun b o hb e => (Heap.get?_update_ne _ _ _ _ hb).trans e) ⟨_, hx2⟩ (exo_ok hx2)
  have ed2 : upd (upd H hp.objs.size (exd hp.objs.size [])) a (exo a C (some hp.objs.size)) hp.objs.size = some (exd hp.objs.size []) := by rw [upd_ne nda, upd_same]
  have I3 := I2.write (t' := tk') (x := hp.objs.size) (e := hp.objs.size) (o := exd hp.objs.size [(f, y)]) (h' := h') (by rw [ed2]; exact True.intro) (.inl rfl) (fun b o hb e => (hs.2 b hb).trans e)
    (by obtain ⟨o, _, _, q, _⟩ := hn; exact ⟨o, q⟩) (exd_ok hn (relO_put (fs := []) ry fun g => True.intro))
  refine h hp.objs.size _ fr nda ?_
  have eq : upd (upd (upd H hp.objs.size (exd hp.objs.size [])) a (exo a C (some hp.objs.size))) hp.objs.size (exd hp.objs.size [(f, y)]) = upd (upd H hp.objs.size (exd hp.objs.size [(f, y)])) a (exo a C (some hp.objs.size)) := by
    funext b
    by_cases h1 : b = hp.objs.size
    · rw [h1, upd_same, upd_ne nda, upd_same]
    · rw [upd_ne h1]
      by_cases h2 : b = a
      · rw [h2, upd_same, upd_same]
      · rw [upd_ne h2, upd_ne h1, upd_ne h2, upd_ne h1]
  rw [← eq]
  exact I3
/-- self.f = y, a further field -/
theorem xset_more (Y : XB B newId initId bmB) (T : XC X.K C bmB newId) {dx : Addr} {fs : List (Str × V)} (I : Inv X pins σ H s) (e : H a = some (exo a C (some dx))) (ed : H dx = some (exd dx fs)) (hl : fs.length ≤ 900) (hno : findIn X.K (.ref C) f = some none) (ry : RelV y u)
    (h : ∀ s', Inv X pins σ (upd H dx (exd dx ((f, y) :: fs))) s' → Q () s') : wpAny (model X.prog X.w) A (setAttr (.ref a) f u) Q E s := by
  obtain ⟨t1, ho⟩ := exo_at I.hok e
  obtain ⟨mA, hns, rel⟩ := exd_at I.hok ed
  have hw := within_of rel
  obtain ⟨hp, g, d, t, os⟩ := s
  obtain ⟨oD, _, _, hoD, _, _⟩ := hns.count hw
  have ht : takerIn X.K C f = some none := by unfold takerIn; rw [hno]; rfl
  refine set_plain I.kIn (ox := excObj C t1 (some dx) .none) (od := some oD) ⟨ho, rfl, rfl, hoD⟩ T.sa ?_
  refine osa_openX (s := ⟨hp, g, d, t + 1, os⟩) (od := some oD) Y.st I.kIn ⟨ho, rfl, rfl, hoD⟩ T.ovr ht fun b => ?_
  obtain ⟨cd, hc, hd'⟩ := any_some T.hd
  refine wpAny_bind (wpAny_pure (wpAny_bind (wpAny_bind (wpAny_loadPart (s := ⟨hp, g, d, t + 1, os⟩) ho (wpAny_bind ((looks_clsIn (h := hp) I.kIn hc).at ?_))))))
  rw [hd']
  refine wpAny_pure (a := some dx) ?_
  refine OEX.store_in_old hns hw (by rw [List.length_map]; omega) fun h' tk' hn hs => ?_
  refine h _ (I.write (t' := tk') (x := dx) (e := dx) (o := exd dx ((f, y) :: fs)) (by rw [ed]; exact True.intro) (.inl rfl) (fun b o hb e => (hs.2 b hb).trans e) ?_ (exd_ok hn (relO_put ry rel)))
  obtain ⟨o, _, _, e', _⟩ := hn
  exact ⟨o, e'⟩
end

/-- self.f = e, self an exception that is being made -/
def tXst (K : Frag) (f : Str) (to te : TE) : TS := fun D σ H => te σ H fun y H1 => to σ H1 fun x H2 => ∃ (a C : Addr) (B newId initId : String) (bmB : List Value), x = .ref a ∧ XB B newId initId bmB ∧ XC K C bmB newId ∧ findIn K (.ref C) f = some none ∧
  ((H2 a = some (exo a C none) ∧ ∀ dx, H2 dx = none → dx ≠ a → D.nx σ (upd (upd H2 dx (exd dx [(f, y)])) a (exo a C (some dx)))) ∨
    ∃ (dx : Addr) (fs : List (Str × V)), H2 a = some (exo a C (some dx)) ∧ H2 dx = some (exd dx fs) ∧ fs.length ≤ 900 ∧ D.nx σ (upd H2 dx (exd dx ((f, y) :: fs))))
section
variable {X : Cx} {o e : Expr} {to te : TE} {f : Str} {p' pos : Pos}
theorem ps_xst (ho : PE X o to) (he : PE X e te) (hs : swapsWith e (some (.Attribute o f p')) pos.line X.env = pure false := by rfl) : PS X (.Assign [.Attribute o f p'] e pos) (tXst X.K f to te) := by
  refine ⟨fun pins s σ H D I h => ?_⟩
  refine plainObj_wpAny_Assign_Attribute (thn (he.run pins s σ H _ I h) fun v s1 ⟨y, H1, I1, r1, q1⟩ => thn (ho.run pins s1 σ H1 _ I1 q1) fun u s2 ⟨x, H2, I2, r2, a, C, B, newId, initId, bmB, ex, Y, T, hno, q⟩ => ?_) hs
  subst ex
  obtain rfl : u = Value.ref a := r2
  rcases q with ⟨ea, q⟩ | ⟨dx, fs, ea, ed, hl, q⟩
  · exact xset_first Y T I2 ea hno r1 fun dx s' n ne J => ⟨σ, _, J, q dx n ne⟩
  · exact xset_more Y T I2 ea ed hl hno r1 fun s' J => ⟨σ, _, J, q⟩
end

/-- the promise of an __init__ that stores its one argument -/
def spI1 (C : Addr) (f : Str) : Sp := fun vs H Q _ => ∃ (a : Addr) (y : V), vs = [.ref a, y] ∧ H a = some (exo a C none) ∧ ∀ d, H d = none → d ≠ a → Q .non (upd (upd H d (exd d [(f, y)])) a (exo a C (some d)))
/-- .. its two arguments -/
def spI2 (C : Addr) (f g : Str) : Sp := fun vs H Q _ => ∃ (a : Addr) (y z : V), vs = [.ref a, y, z] ∧ H a = some (exo a C none) ∧ ∀ d, H d = none → d ≠ a → Q .non (upd (upd H d (exd d [(g, z), (f, y)])) a (exo a C (some d)))
end L2.TT

namespace L2.TT
open PySem PySem.Spec PyProof.Rows PySem.W
open Builtin

/-! ### the call of an exception class with keywords -/
section
variable {prog : Program} {w : World} {A : Around} {E : Value → Shared → Prop} {R : Result → Shared → Prop} {h : Heap} {g : Array GenState} {d : Drawn} {t : Nat} {os : OsState}
variable {nm q : Str} {C N : Addr} {bs bm bmB : List Value} {hdct : Bool} {sn : List Str} {sub : List Value} {ab : Bool} {col : Option Bool} {dd : Option Addr} {k0 k1 k2 k3 k5 : Option Value} {B newId initId : String} {rest : List Value} {kw : List (Str × Value)}
theorem chk_call (hC : h.get? C = some (excClassObj nm q C N bs bm hdct sn sub ab col dd k0 k1 k2 k3 k5 newId)) {Q : Unit → Shared → Prop}
    (hq : Q () ⟨h, g, d, t, os⟩) : wpAny (model prog w) A (checkBuiltinCall "type.__call__" ⟨.ref C :: rest, kw⟩) Q E ⟨h, g, d, t, os⟩ := by
  have hTy : (⟨h, g, d, t, os⟩ : Shared).TypeIs (.ref C) "type" := ⟨_, hC, rfl⟩
  have f3 := tc_sub
  simp only [checkBuiltinCall, tc_kind, tc_split]
  repeat (any_goals (first | assumption | with_reducible refine wpAny_loadPart_at hC ?_ | with_reducible refine wpAny_onRaise ?_ | with_reducible refine wpAny_map ?_ | wp_step))

theorem chk_new (F : ExcBaseFacts B newId initId bmB) (hT : ∀ X : String, bm.contains (.type X) = bmB.contains (.type X)) {Q : Unit → Shared → Prop}
    (hC : h.get? C = some (excClassObj nm q C N bs bm hdct sn sub ab col dd k0 k1 k2 k3 k5 newId)) (hq : Q () ⟨h, g, d, t, os⟩) : wpAny (model prog w) A (checkBuiltinCall newId ⟨.ref C :: rest, kw⟩) Q E ⟨h, g, d, t, os⟩ := by
  have c1 : (Value.ref C :: bm).contains (.type B) = true := by rw [List.contains_cons, hT, F.hasB, Bool.or_true]
  have c2 := F.noStar
  simp only [checkBuiltinCall, F.newKind, F.newSplit, F.newRow]
  repeat (first | refine wpAny_loadPart_at hC ?_ | (refine wpAny_isSubtype_exc hC ?_; rw [c1]) | refine wpAny_staticBase_exc hC ?_ | refine wpAny_madeBy_exc hC ?_ | simp only [bne_self_eq_false, Bool.false_eq_true, if_false] | wp_step)
  exact hq
theorem run_new (F : ExcBaseFacts B newId initId bmB) (hT : ∀ X : String, bm.contains (.type X) = bmB.contains (.type X))
    (hC : h.get? C = some (excClassObj nm q C N bs bm hdct sn sub ab col dd k0 k1 k2 k3 k5 newId))
    (hq : R (.ok (.ret (.ref (h.objs.size + 1)))) ⟨(h.push (kdv_tup rest)).push (HandSPX.excO C h.objs.size), g, d, t, os⟩) (hrest : rest.length ≤ sizeLine) :
    codeAny (model prog w) A (.builtin newId ⟨.ref C :: rest, kw⟩) R ⟨h, g, d, t, os⟩ := by
  have c0 := F.ends
  have c1 : (Value.ref C :: bm).contains (.type B) = true := by rw [List.contains_cons, hT, F.hasB, Bool.or_true]
  have c2 : (Value.ref C :: bm).contains (.type "AttributeError") = false := by rw [List.contains_cons, hT, F.noAttr]; rfl
  have c3 : (Value.ref C :: bm).contains (.type "NameError") = false := by rw [List.contains_cons, hT, F.noName]; rfl
  refine codeAny_builtinAt F.entry ?_
  unfold Builtin.«BaseException.__new__»
  refine PySem.wpAt_bind ?_
  show PySem.wpAt _ _ _ (stack >>= _) _ _ _
  refine PySem.wpAt_bind (PySem.wpAt_stack fun p below => PySem.wpAt_of_wpAny ?_)
  wp_walk
  refine PySem.wpAt_of_wpAny ?_
  rw [F.owner]
  repeat (first | with_reducible refine wpAny_madeHere_exc F.canon hC ?_ | with_reducible refine wpAny_loadPart_at hC ?_ | (with_reducible refine wpAny_isSubtype_exc hC ?_; first | rw [c1] | rw [c2] | rw [c3]) | wp_step)
  show R _ _
  rw [Heap.size_push]
  exact hq
theorem typ_call (F : ExcBaseFacts B newId initId bmB) (hT : ∀ X : String, bm.contains (.type X) = bmB.contains (.type X)) {fI : Addr} {Q : Fin → Shared → Prop}
    (hC : h.get? C = some (excClassObj nm q C N bs bm hdct sn sub ab col dd k0 k1 k2 k3 k5 newId))
    (hi : Looks (model prog w) h (typeLookup (.ref C) "__init__") (some (.ref fI))) (hb : ∀ self, Looks (model prog w) h (bindSpecial (.ref fI) self) (.ref fI, [self])) (hrest : rest.length ≤ sizeLine)
    (hq : codeAny (model prog w) A (.call (.ref fI) ⟨.ref (h.objs.size + 1) :: rest, kw⟩)
      (fun r s' => match r with | .ok (.ret v) => v = .none ∧ Q (.done (.ret (.ref (h.objs.size + 1)))) s' | .ok _ => False | .error e => E e s')
      ⟨(h.push (kdv_tup rest)).push (HandSPX.excO C h.objs.size), g, d, t, os⟩) :
    wpAny (model prog w) A (Builtin.«type.__call__» ⟨.ref C :: rest, kw⟩) Q E ⟨h, g, d, t, os⟩ := by
  repeat (first | with_reducible refine wpAny_loadPart_at hC ?_ | with_reducible refine wpAny_madeBy_exc hC ?_ | wp_step)
  refine codeAny_call_builtin_code (Code.quiet_builtin _ F.quiet) (chk_new F hT hC ?_)
  refine run_new F hT hC ?_ hrest
  show wpAny _ _ _ _ _ _
  have k : ∀ b o, h.get? b = some o → ((h.push (kdv_tup rest)).push (HandSPX.excO C h.objs.size)).get? b = some o := fun b o e => Heap.get?_push_of_some _ (Heap.get?_push_of_some _ e)
  have hC₁ := k _ _ hC
  have hget : ((h.push (kdv_tup rest)).push (HandSPX.excO C h.objs.size)).get? (h.objs.size + 1) = some (HandSPX.excO C h.objs.size) := by heap_get
  have hcC : (Value.ref C :: bm).contains (.ref C) = true := by simp
  have i1 := hi.keeps k
  have b1 := (hb (.ref (h.objs.size + 1))).keeps k
  unfold isInstance
  repeat (first | with_reducible refine wpAny_loadPart_at hget ?_ | (with_reducible refine wpAny_isSubtype_exc hC₁ ?_; rw [hcC]) | wp_step)
  show wpAny _ _ (typeLookup (.ref C) _) _ _ _
  refine i1.at ?_
  refine wpAny_holding (wpAny_bind (b1.at ?_))
  refine wpAny_bind (wpAny_call (codeAny_mono hq fun r s' z => ?_))
  rcases r with e | (v | _ | _ | _) <;> first | exact z | exact z.elim | skip
  obtain ⟨rfl, z⟩ := z
  first
    | exact wpAny_pure (wpAny_pure z)
    | (wp_walk; exact z)
theorem call_exc (F : ExcBaseFacts B newId initId bmB) (hT : ∀ X : String, bm.contains (.type X) = bmB.contains (.type X)) {fI : Addr}
    (hC : h.get? C = some (excClassObj nm q C N bs bm hdct sn sub ab col dd k0 k1 k2 k3 k5 newId))
    (hi : Looks (model prog w) h (typeLookup (.ref C) "__init__") (some (.ref fI))) (hb : ∀ self, Looks (model prog w) h (bindSpecial (.ref fI) self) (.ref fI, [self])) (hrest : rest.length ≤ sizeLine)
    (hq : codeAny (model prog w) (A.under (.builtin "type.__call__" ⟨.ref C :: rest, kw⟩)) (.call (.ref fI) ⟨.ref (h.objs.size + 1) :: rest, kw⟩) (InitBack (h.objs.size + 1) R)
      ⟨(h.push (kdv_tup rest)).push (HandSPX.excO C h.objs.size), g, d, t, os⟩) :
    codeAny (model prog w) A (.call (.ref C) ⟨rest, kw⟩) R ⟨h, g, d, t, os⟩ := by
  have f1 := tc_lookup
  have f2 := tc_bind (.ref C)
  have hTy : (⟨h, g, d, t, os⟩ : Shared).TypeIs (.ref C) "type" := ⟨_, hC, rfl⟩
  refine codeAny_of_tree ?_
  show wpAny _ _ (callAny (.ref C) _) _ _ _
  repeat (any_goals (first | assumption | with_reducible refine wpAny_loadPart_at hC ?_ | wp_step))
  refine ⟨rfl, ?_⟩
  refine codeAny_call_builtin_at (Code.quiet_builtin _ (by decide +kernel)) entry_typeCall (chk_call hC (typ_call F hT hC hi hb hrest ?_))
  refine codeAny_mono hq fun r s' z => ?_
  rcases r with e | (v | _ | _ | _) <;> exact z
end
end L2.TT

namespace L2.TT
open PySem PySem.Spec PyProof.Rows PySem.W

/-! ### C(e, ..), C(k = v, ..): a new exception as a value -/
section
variable {X : Cx} {CX : CXT} {k n : Nat} {f C : Addr} {fd : FuncData} {ps ks : List Str} {sp : Sp} {E : XK} {x : Str} {p pos : Pos} {e : Expr} {es : List Expr} {kws : List Keyword} {ta tk : TA} {g : List Value → List Value → List Value} {gV : List V → List V → List V}
variable {B newId initId : String} {bmB : List Value}
/-- the new exception's __init__ is run -/
theorem run_xmk {pins : List (Addr × Obj)} {σ : St} {H : Hp} {s : Shared} {Q : VK} {us ws its : List Value} {zs : List V} (Y : XB B newId initId bmB) (T : XC X.K C bmB newId) (iC : findIn X.K (.ref C) "__init__" = some (some (.ref f))) (tI : typeIn X.K (.ref f) = some (.type "function"))
    (F : FnOk X.prog X.w X.K X.mg X.base CX k f fd ps sp) (hr : Room (k + 1) X.A) (hx : Passes CX X E) (I : Inv X pins σ H s) (hus : us.length ≤ sizeLine)
    (hb : ∀ (s : Shared) (a : Addr), X.K.In s.heap → BindsTo s fd ⟨.ref a :: us, ks.zip ws⟩ (ps.zip (.ref a :: its))) (r : Vals zs its)
    (h : ∀ a, H a = none → sp (.ref a :: zs) (upd H a (exo a C none)) (fun v H2 => v = .non ∧ Q (.ref a) H2) E) :
    wpAny (model X.prog X.w) X.A (call (.ref C) us (ks.zip ws)) (EP X pins σ Q) X.xe s := by
  obtain ⟨nm, N, qn, bs, bm, hdct, sn, sub, ab, col, dd, k0, k1, k2, k3, k5, hC, hT⟩ := excInit_of I.kIn T.ini
  obtain ⟨hp, g, dr, tk, os⟩ := s
  have hsz : hp.objs.size ≤ hp.objs.size + 1 := Nat.le_succ _
  have hn : H (hp.objs.size + 1) = none := I.hok.fresh hsz
  have hq := h (hp.objs.size + 1) hn
  have kk : ∀ b o, hp.get? b = some o → ((hp.push (kdv_tup us)).push (HandSPX.excO C hp.objs.size)).get? b = some o := fun b o e => Heap.get?_push_of_some _ (Heap.get?_push_of_some _ e)
  have hget : ((hp.push (kdv_tup us)).push (HandSPX.excO C hp.objs.size)).get? (hp.objs.size + 1) = some (HandSPX.excO C hp.objs.size) := by heap_get
  have I2 : Inv X pins σ (upd H (hp.objs.size + 1) (exo (hp.objs.size + 1) C none)) ⟨(hp.push (kdv_tup us)).push (HandSPX.excO C hp.objs.size), g, dr, tk, os⟩ :=
    I.laid (t' := tk) (a := hp.objs.size + 1) (o := exo (hp.objs.size + 1) C none) (h' := (hp.push (kdv_tup us)).push (HandSPX.excO C hp.objs.size)) kk hsz (exo_ok hget)
  have r2 : Vals (V.ref (hp.objs.size + 1) :: zs) (Value.ref (hp.objs.size + 1) :: its) := .cons rfl r
  refine wpAny_call (call_exc Y.ex hT hC (looks_findIn I.kIn iC) (fun self => bind_fn I.kIn self tI) hus
    (codeAny_mono (F.run _ X.stack _ _ ⟨Value.ref (hp.objs.size + 1) :: us, ks.zip ws⟩ (Value.ref (hp.objs.size + 1) :: its) _ _ E (hr.make C us (ks.zip ws)) (I2.env0.make C us (ks.zip ws)) (hb _ _ I2.kIn) r2 hq) fun r s' hq' => ?_))
  cases r with
  | error er => exact hx pins σ _ _ er s' I2 hq'
  | ok fl =>
    cases fl with
    | ret u =>
      obtain ⟨v, H2, I3, rv, ev, q2⟩ := I2.after hq'
      subst ev
      exact ⟨rv, .ref (hp.objs.size + 1), H2, I3, rfl, q2⟩
    | next => exact False.elim hq'
    | brk => exact False.elim hq'
    | cont => exact False.elim hq'
/-- C(e, ..) -/
def tXmk (C : Addr) (sp : Sp) (dvs : List V) (E : XK) (ta : TA) : TE := fun σ H Q => ta σ H fun vs H1 => vs.length ≤ 1000 ∧ ∀ a, H1 a = none → sp (.ref a :: (vs ++ dvs)) (upd H1 a (exo a C none)) (fun v H2 => v = .non ∧ Q (.ref a) H2) E
theorem small_of {us : List Value} {vs : List V} (r : Vals vs us) (h : vs.length ≤ 1000) : us.length ≤ sizeLine := by
  rw [← r.length, sizeLine_eq]
  omega
theorem pe_xmk {ds : List Value} {dvs : List V} (Y : XB B newId initId bmB) (T : XC X.K C bmB newId) (iC : findIn X.K (.ref C) "__init__" = some (some (.ref f))) (tI : typeIn X.K (.ref f) = some (.type "function"))
    (F : FnOk X.prog X.w X.K X.mg X.base CX k f fd ps sp) (hr : Room (k + 1) X.A) (hb : Binds X.K fd ps ds) (hd : Vals dvs ds) (hx : Passes CX X E) (hg : Gl X x) (hm : X.mg x = some (.ref C)) (ha : PA X (e :: es) ta)
    (hdb : (x == ("__debug__" : Str)) = false := by decide) (he : starEach (e :: es) X.env = (false, eval e X.env) :: starEach es X.env := by rfl) (hpl : (backTo pos (starEach es X.env)).any (·.1) = false := by rfl) :
    PE X (.Call (.Name x p) (e :: es) [] pos) (tXmk C sp dvs E ta) := by
  refine ⟨fun pins s σ H Q I h => ?_⟩
  refine wpAny_Call_Name_kw (ld_glob I hg hm ?_ hdb)
  refine callWith_K (h₀ := X.base) I.ok.mod.kin T.kp (thn (ha.run pos pins s σ H _ I h) fun us s1 ⟨vs, H1, I1, r1, hz, q1⟩ => ⟨I1.kIn, ?_⟩) he hpl
  have hlen : (vs ++ dvs).length + 1 = ps.length := by
    have := F.len _ _ _ _ (q1 _ (I1.hok.fresh (Nat.le_refl _)))
    rw [List.length_cons] at this
    exact this
  refine run_xmk (ks := []) (ws := []) (us := us) (its := us ++ ds) (zs := vs ++ dvs) Y T iC tI F hr hx I1 (small_of r1 hz) (fun s a X0 => ?_) (r1.append hd) q1
  exact hb s (.ref a :: us) X0 (by
    have := (r1.append hd).length
    rw [List.cons_append, List.length_cons, ← this]
    exact hlen)
/-- C(), the defaults fill up -/
theorem pe_xmk0 {ds : List Value} {dvs : List V} (Y : XB B newId initId bmB) (T : XC X.K C bmB newId) (iC : findIn X.K (.ref C) "__init__" = some (some (.ref f))) (tI : typeIn X.K (.ref f) = some (.type "function"))
    (F : FnOk X.prog X.w X.K X.mg X.base CX k f fd ps sp) (hr : Room (k + 1) X.A) (hb : Binds X.K fd ps ds) (hd : Vals dvs ds) (hx : Passes CX X E) (hg : Gl X x) (hm : X.mg x = some (.ref C))
    (hdb : (x == ("__debug__" : Str)) = false := by decide) :
    PE X (.Call (.Name x p) [] [] pos) (tXmk C sp dvs E tNil) := by
  refine ⟨fun pins s σ H Q I h => ?_⟩
  obtain ⟨hz, q1⟩ := h
  refine wpAny_Call_Name_kw (ld_glob I hg hm ?_ hdb)
  refine callWith_K0 I.kIn T.kp ?_
  have hlen : dvs.length + 1 = ps.length := by
    have := F.len _ _ _ _ (q1 _ (I.hok.fresh (Nat.le_refl _)))
    rw [List.length_cons] at this
    exact this
  refine run_xmk (ks := []) (ws := []) (us := []) (its := ds) (zs := dvs) Y T iC tI F hr hx I (Nat.zero_le _) (fun s a X0 => ?_) hd q1
  exact hb s [.ref a] X0 (by
    have := hd.length
    rw [List.length_append, ← this, List.length_singleton, Nat.add_comm]
    exact hlen)
/-- C(k = v, ..) -/
def tXmkK (C : Addr) (m : Nat) (sp : Sp) (gV : List V → List V) (E : XK) (tk : TA) : TE := fun σ H Q => tk σ H fun zs H1 => zs.length = m ∧ ∀ a, H1 a = none → sp (.ref a :: gV zs) (upd H1 a (exo a C none)) (fun v H2 => v = .non ∧ Q (.ref a) H2) E
theorem pe_xmkK {gg : List Value → List Value} {hV : List V → List V} (Y : XB B newId initId bmB) (T : XC X.K C bmB newId) (iC : findIn X.K (.ref C) "__init__" = some (some (.ref f))) (tI : typeIn X.K (.ref f) = some (.type "function"))
    (F : FnOk X.prog X.w X.K X.mg X.base CX k f fd ps sp) (hr : Room (k + 1) X.A)
    (hb : ∀ (s : Shared) (a : Addr) (ws : List Value), X.K.In s.heap → ws.length = ks.length → BindsTo s fd ⟨[.ref a], ks.zip ws⟩ (ps.zip (.ref a :: gg ws))) (hrel : ∀ {zs : List V} {ws : List Value}, zs.length = ks.length → Vals zs ws → Vals (hV zs) (gg ws))
    (hx : Passes CX X E) (hg : Gl X x) (hm : X.mg x = some (.ref C)) (hkw : PK X kws tk)
    (hall : (backToKw pos (keywordEach kws X.env)).all (·.1.isSome) = true := by rfl) (hks : (backToKw pos (keywordEach kws X.env)).filterMap (·.1) = ks := by rfl) (hdb : (x == ("__debug__" : Str)) = false := by decide)
    (hpl : ((backTo pos (starEach [] X.env)).any (·.1) || (backToKw pos (keywordEach kws X.env)).any (·.1.isNone)) = false := by rfl) :
    PE X (.Call (.Name x p) [] kws pos) (tXmkK C ks.length sp hV E tk) := by
  refine ⟨fun pins s σ H Q I h => ?_⟩
  refine wpAny_Call_Name_kw (ld_glob I hg hm ?_ hdb)
  refine callWith_KW0 (h₀ := X.base) I.ok.mod.kin T.kp hall ?_ hpl
  refine thn (hkw.run pos pins s σ H _ I h) fun ws s2 ⟨zs, H2, I2, rz, l2, q2⟩ => ⟨I2.kIn, ?_⟩
  rw [hks]
  exact run_xmk (us := []) (its := gg ws) (zs := hV zs) Y T iC tI F hr hx I2 (Nat.zero_le _) (fun s a X0 => hb s a ws X0 (rz.length.symm.trans l2)) (hrel l2 rz) q2
end

/-! ### e.f, isinstance(e, C) -/
theorem inst_of {P : Program} {w : World} {H : Hp} {h : Heap} {a C : Addr} {fs : List (Str × V)} (hok : HOk P w H h) (e : ExcAt H a C fs) : ∃ (t1 dd : Addr) (od : Obj) (mA : Str → Option Value),
    InstAt h a { cls := .ref C, dict := some dd, data := .fields #[.ref t1, .none, .none, .none, .bool false, .none] } C (some od) ∧ h.Ns1 dd mA ∧ (∀ f, RelO (fs.lookup f) (mA f)) ∧ (∀ f v, mA f = some v → lookIn f od = some (some v)) := by
  obtain ⟨d, h1, h2⟩ := e
  obtain ⟨t1, ho⟩ := exo_at hok h1
  obtain ⟨mA, hns, rel⟩ := exd_at hok h2
  obtain ⟨od, hod, hl⟩ := lookIn_ns hns
  refine ⟨t1, d, od, mA, ⟨ho, rfl, rfl, hod⟩, hns, rel, fun f v e => by rw [hl, e]⟩
/-- e.f, e an exception that stands there -/
def tXget (K : Frag) (te : TE) (n : Str) : TE := fun σ H Q => te σ H fun x H1 => ∃ (a C : Addr) (fs : List (Str × V)) (v : V) (newId : String) (bmB : List Value), x = .ref a ∧ XC K C bmB newId ∧ findIn K (.ref C) n = some none ∧ ExcAt H1 a C fs ∧ fs.lookup n = some v ∧ Q v H1
/-- isinstance(e, c) -/
def rXis (K : Frag) : List V → Hp → VK → Prop := fun xs H Q => ∃ (a C : Addr) (c : V) (u : Value) (fs : List (Str × V)) (newId : String) (bmB : List Value) (b : Bool), xs = [.ref a, c] ∧ ClsV c u ∧ XC K C bmB newId ∧ ExcAt H a C fs ∧ kitOne K (.ref C) u = some b ∧ Q (.bl b) H
/-- isinstance(e, (c1, c2, ..)) -/
def rXisT (K : Frag) : List V → Hp → VK → Prop := fun xs H Q => ∃ (a C tp : Addr) (cs : List V) (us : List Value) (fs : List (Str × V)) (newId : String) (bmB : List Value) (b : Bool), xs = [.ref a, .ref tp] ∧ H tp = some (.tup cs) ∧ Paired ClsV cs us ∧ XC K C bmB newId ∧ ExcAt H a C fs ∧ kitAny K (.ref C) us = some b ∧ Q (.bl b) H
section
variable {X : Cx} {e : Expr} {te : TE} {n : Str} {pos : Pos}
theorem pe_xget (he : PE X e te) (hb : attributeBase e n X.env (eval e X.env) = eval e X.env := by rfl) : PE X (.Attribute e n pos) (tXget X.K te n) := by
  refine ⟨fun pins s σ H Q I h => ?_⟩
  refine attr_of hb (thn (he.run pins s σ H _ I h) fun u s1 hh => ?_)
  obtain ⟨x, H1, I1, rx, a, C, fs, v, newId, bmB, ex, T, hno, ea, l, q⟩ := hh
  subst ex
  obtain rfl : u = Value.ref a := rx
  obtain ⟨t1, dd, od, mA, J, hns, rel, hl⟩ := inst_of I1.hok ea
  obtain ⟨u, hu, ru⟩ := RelO.some_of (v := v) (o := mA n) (by rw [← l]; exact rel n)
  exact HandSPX.exc_get I1.kIn J T.ga T.gg T.sub (findObj_own T.hd hno rfl (hl n u hu)) (handed_of ru) ⟨v, H1, I1.tok _, ru, q⟩
/-- what the written part says of object's __class__ -/
structure KCls (K : Frag) : Prop where
  gt : specialIn K (.builtin "object.__class__") "__get__" = some (some (.builtin "getset_descriptor.__get__"))
  tk : takesIn K (.builtin "object.__class__") = some true
theorem kit_exc {K : Frag} {a C : Addr} {bmB : List Value} {newId : String} {ox : Obj} {od : Option Obj} (Z : KCls K) (T : XC K C bmB newId) : KitX K (.ref a) (.ref C) (fun h => InstAt h a ox C od) :=
  kitx_exc (by obtain ⟨cd, hc, _⟩ := any_some T.hd; rw [hc]; rfl) T.ga T.gg T.sub T.ca Z.gt Z.tk T.ob
theorem call_xis (Z : KCls X.K) : CallR X (.builtin "isinstance") (rXis X.K) := by
  intro pins s σ H xs us Q I r h
  obtain ⟨a, C, c, u, fs, newId, bmB, b, rfl, k, T, ea, e, q⟩ := h
  obtain ⟨u1, u2, rfl, r1, r2⟩ := vals2 r
  have e2 := k.eq r2
  subst e2
  obtain rfl : u1 = Value.ref a := r1
  obtain ⟨t1, dd, od, mA, J, _⟩ := inst_of I.hok ea
  exact kia_one (kit_exc Z T) I.kIn J e (fun z => nomatch z) fun tk => ⟨.bl b, H, I.tok tk, rfl, q⟩
theorem call_xisT (Z : KCls X.K) : CallR X (.builtin "isinstance") (rXisT X.K) := by
  intro pins s σ H xs us Q I r h
  obtain ⟨a, C, tp, cs, ws, fs, newId, bmB, b, rfl, hT, k, T, ea, e, q⟩ := h
  obtain ⟨u1, u2, rfl, r1, r2⟩ := vals2 r
  obtain rfl : u1 = Value.ref a := r1
  cases (show u2 = Value.ref tp from r2)
  obtain ⟨t1, dd, od, mA, J, _⟩ := inst_of I.hok ea
  obtain ⟨_, its, rv, o, h1, h2, n, h3⟩ := (show ObjOk X.prog X.w H s.heap tp (.tup cs) from I.hok tp _ hT)
  have e3 := ClsV.all k rv
  subst e3
  obtain ⟨oc, od', dt, sl⟩ := o
  simp only at h2 h3
  subst h2 h3
  exact kia_tup (kit_exc Z T) I.kIn J h1 e (fun z => nomatch z) fun tk => ⟨.bl b, H, I.tok tk, rfl, q⟩
end
end L2.TT

namespace L2.TT
open PySem PySem.Spec PyProof.Rows
section
variable {X : Cx} {pins : List (Addr × Obj)} {σ : List (Option V)} {H : Hp} {s : Shared}
/-- an object that is new since the def was entered, from now on tracked -/
theorem inv_track {a : Addr} {o : Obj} {u : HO} (I : Inv X pins σ H s) (ha : s.heap.get? a = some o) (na : H a = none) (new : X.s_0.heap.get? a = none) (nL : a ≠ X.env.locals) (hd : ∀ v, o.data ≠ .cell v) (hp : ∀ p ∈ X.pn ++ pins, p.1 ≠ a)
    (ok : ObjOk X.prog X.w (upd H a u) s.heap a u) : Inv X pins σ (upd H a u) s := by
  have nt : ∀ {b : Addr} {v : HO}, H b = some v → b ≠ a := fun {b v} e z => by rw [z, na] at e; cases e
  refine ⟨I.ok, I.os, I.bare, ⟨I.base.keep, I.base.slot, fun b ob e n hx => ?_, I.base.there, fun b xs e => ?_, fun b ob v e => ?_, fun b ps e => ?_⟩, I.loc, I.cell, ?_, fun x c e => ?_, fun p hp' => ?_, fun b v e => ?_, I.len⟩
  · have nb : b ≠ a := fun z => by rw [z, new] at e; cases e
    rw [upd_ne nb]
    exact I.base.free b ob e n hx
  · have h1 := I.base.tups b xs e
    rw [upd_ne (nt h1)]
    exact h1
  · have h1 := I.base.frzs b ob v e
    rw [upd_ne (nt h1)]
    exact h1
  · obtain ⟨more, h1⟩ := I.base.tbls b ps e
    exact ⟨more, by rw [upd_ne (nt h1)]; exact h1⟩
  · rw [upd_ne nL.symm]
    exact I.free
  · have nc : c ≠ a := fun z => by
      obtain ⟨v, hv⟩ := I.cell x c e
      obtain ⟨oc, hoc, hdc⟩ := hv
      rw [z, ha] at hoc
      cases hoc
      exact hd v hdc
    rw [upd_ne nc]
    exact I.freeC x c e
  · obtain ⟨h1, h2, h3⟩ := I.pin p hp'
    exact ⟨h1, by rw [upd_ne (hp p hp')]; exact h2, h3⟩
  · by_cases hb : b = a
    · subst hb
      rw [upd_same] at e
      cases e
      exact ok
    · rw [upd_ne hb] at e
      exact (I.hok b v e).stay (fun c w _ q => q) (fun c q => by rw [upd_ne (nt q)]; exact q) fun c xs q => by rw [upd_ne (nt q)]; exact q
end
end L2.TT

namespace L2
open PySem PySem.Spec PyProof.Rows
/-- an error that has flown: its class, its dict, some fields -/
def exq (a : Addr) (cls : Value) (d : Option Addr) : HO := .ext fun h => ∃ (o : Obj) (vs : Array Value), h.get? a = some o ∧ o.cls = cls ∧ o.dict = d ∧ o.data = .fields vs
theorem exq_ok {P : Program} {w : World} {H : Hp} {h : Heap} {a : Addr} {cls : Value} {d : Option Addr} {o : Obj} {vs : Array Value} (he : h.get? a = some o) (h1 : o.cls = cls) (h2 : o.dict = d) (h3 : o.data = .fields vs) : ObjOk P w H h a (exq a cls d) :=
  ⟨⟨o, vs, he, h1, h2, h3⟩, ⟨_, he⟩, fun _ _ ⟨o', vs', e, q⟩ k => ⟨o', vs', k _ e, q⟩⟩
theorem exq_at {P : Program} {w : World} {H : Hp} {h : Heap} {a : Addr} {cls : Value} {d : Option Addr} (hok : HOk P w H h) (he : H a = some (exq a cls d)) : ∃ (o : Obj) (vs : Array Value), h.get? a = some o ∧ o.cls = cls ∧ o.dict = d ∧ o.data = .fields vs := by
  obtain ⟨z, _⟩ : ObjOk P w H h a (exq a cls d) := hok a _ he
  exact z
theorem flyZ_keeps {B h h' : Heap} {l : List Env} {e : Addr} {Z : Obj → Prop} (R : HandSPX.FlyingZ B l e Z h) (k : ∀ b o, h.get? b = some o → h'.get? b = some o) : HandSPX.FlyingZ B l e Z h' := by
  obtain ⟨f1, f2, f3, oe, ws, T, oT, ts, he, hc, hd, h1, hn, hne, hT, hdT, h3⟩ := R
  exact ⟨fun b o q => k b o (f1 b o q), f2, f3.of_keeps fun b o q _ => ⟨o, k b o q, rfl⟩, oe, ws, T, oT, ts, k _ _ he, hc, hd, h1, hn, hne, k _ _ hT, hdT, h3⟩
/-- the test of an except clause -/
def TestC (X : Cx) (t : Expr) (cls : Value) (b : Bool) : Prop :=
  ∀ {a : Addr} {oe : Obj} {pn : List (Addr × Obj)} {σ : St} {H : Hp} {s : Shared} {E : Value → Shared → Prop} {Q : Bool → Shared → Prop}, Inv (X.suite a ((a, oe) :: pn)) [] σ H s →
    PySem.W.Looks (model X.prog X.w) s.heap (typeOf (.ref a)) cls → (∀ h', (∀ q o, s.heap.get? q = some o → h'.get? q = some o) → Q b { s with heap := h' }) →
    wpAny (model X.prog X.w) (X.A.mark (some (.ref a))) (eval t X.env) (fun c s₁ => wpAny (model X.prog X.w) (X.A.mark (some (.ref a))) (excMatches (.ref a) c) Q E s₁) E s
/-- a class that is named -/
theorem names_ld {X : Cx} {x : Str} {c : Value} {np : Pos} (hc : Names X x c) {a : Addr} {oe : Obj} {pn : List (Addr × Obj)} {σ : St} {H : Hp} {s : Shared} {E : Value → Shared → Prop} {Q : Value → Shared → Prop} (I : Inv (X.suite a ((a, oe) :: pn)) [] σ H s) (q : Q c s) :
    wpAny (model X.prog X.w) (X.A.mark (some (.ref a))) (eval (.Name x np) X.env) Q E s := by
  obtain ⟨hg, hdbg, hm | ⟨hm, hv, hnn⟩⟩ := hc
  · exact ld_glob (X := X.suite a ((a, oe) :: pn)) I hg hm q hdbg
  · exact ld_blt (X := X.suite a ((a, oe) :: pn)) I hg hm hv q hnn hdbg
theorem test1 {X : Cx} {x : Str} {c cls : Value} {np : Pos} {b : Bool} (hc : Names X x c) (he : PySem.W.exmAny X.K cls [c] = some b) : TestC X (.Name x np) cls b := fun I LT q => by
  obtain ⟨b1, d1, x1, y1, z1⟩ := PySem.W.exmAny_cons he
  have e1 : d1 = false := by
    unfold PySem.W.exmAny at y1
    cases y1; rfl
  subst e1
  rw [Bool.or_false] at z1
  subst z1
  exact names_ld hc I ((PySem.W.exm_one I.kIn LT x1).here (q _ fun _ _ z => z))
theorem test3 {X : Cx} {x1 x2 x3 : Str} {c1 c2 c3 cls : Value} {p1 p2 p3 tpos : Pos} {kk} {b : Bool} (n1 : Names X x1 c1) (n2 : Names X x2 c2) (n3 : Names X x3 c3) (he : PySem.W.exmAny X.K cls [c1, c2, c3] = some b) :
    TestC X (.Tuple [.Name x1 p1, .Name x2 p2, .Name x3 p3] kk tpos) cls b := fun {a oe pn σ H s E Q} I LT q => by
  refine wpAny_Tuple ?_
  refine wpAny_items_cons (names_ld n1 I ?_)
  refine wpAny_items_cons (names_ld n2 I ?_)
  refine wpAny_items_cons (names_ld n3 I ?_)
  refine wpAny_items_nil ⟨by size_fits, ?_⟩
  have kp : ∀ q o, s.heap.get? q = some o → (s.heap.push { cls := .type "tuple", data := .seq [c1, c2, c3].toArray }).get? q = some o := fun _ _ z => Heap.get?_push_of_some _ z
  have kin : X.K.In s.heap := I.kIn
  exact (PySem.W.exm_tup3 (kin.keeps kp) (LT.keeps kp) (Heap.get?_push_size s.heap rfl) he).here (q _ kp)

/-- what the clause 'except (..) as n' wishes of an exception of the body; the error is tracked behind it -/
def wKp (K : PySem.W.Frag) (cs : List Value) (i : Nat) (ts : Addr → Value → Option Addr → TS) (Wout : WX) (D : Ends) : WX := fun cls d σ H =>
  ∃ b, PySem.W.exmAny K cls cs = some b ∧ (b = true → ∀ a, H a = none → ts a cls d { nx := fun σ' H' => D.nx (σ'.set i none) (upd H' a (exq a cls d)), rt := fun v H' => D.rt v (upd H' a (exq a cls d)), bk := fun σ' H' => D.bk (σ'.set i none) (upd H' a (exq a cls d)), ct := fun σ' H' => D.ct (σ'.set i none) (upd H' a (exq a cls d)) } (σ.set i (some (.ref a))) H) ∧
    (b = false → Wout cls d σ H)

section
variable {X : Cx} {t : Expr} {n : Str} {cs : List Value} {i : Nat} {body suite : List Stmt} {b₀ : Stmt} {pos pos' : Pos} {tb : WX → TS} {ts : Addr → Value → Option Addr → TS} {Wout : WX}
theorem ps_try_kp (hs : X.stack = X.env :: X.outer) (hf : X.env.frame = some X.env.locals) (hex : X.ex = []) (hN : X.N.Nodup) (hi : X.N[i]? = some n) (hln : X.env.kindOf n = some .local) (hc : ∀ cls b, PySem.W.exmAny X.K cls cs = some b → TestC X t cls b) (tk : Takes X Wout)
    (hb : ∀ (W : WX) (pn : List (Addr × Obj)) (xe : Value → Shared → Prop), Takes (X.tr pn xe) W → PassesOwn (model X.prog X.w) X.A X.env xe → PSs (X.tr pn xe) body (tb W))
    (hsu : ∀ (a : Addr) (oe : Obj) (cls : Value) (d : Option Addr) (pn : List (Addr × Obj)), Zc cls d oe → (∃ vs, oe.data = .fields vs) → PSs (X.suite a ((a, oe) :: pn)) (b₀ :: suite) (ts a cls d)) :
    PS X (.Try body [.ExceptHandler (some t) (some n) (b₀ :: suite) pos'] [] [] pos) (fun D σ H => tb (wKp X.K cs i ts Wout D) D σ H) := by
  refine ⟨fun pins s σ H D I h => ?_⟩
  have ok := I.ok
  have hfr : X.A.frames = some (X.env :: X.outer) := by rw [ok.frames, hs]
  have hloc : Loc X.env.scope n := .inl hln
  refine wpAny_Try_except ?_
  refine wpAny_mono ((hb (wKp X.K cs i ts Wout D) (X.pn ++ pins) (fun e s₁ => wpAny (model X.prog X.w) X.A (noteFrame e X.env) (fun _ s₂ => wpAny (model X.prog X.w) X.A (setFlight e none) (fun _ s₃ =>
    wpAny (model X.prog X.w) X.A (handleBy e X.env [.ExceptHandler (some t) (some n) (b₀ :: suite) pos']) (SP X pins D) X.xe s₃) X.xe s₂) X.xe s₁) (fun u s' xx => ?_) PassesOwn.looking).run [] s σ H D (I.toTry _) h) (fun f s1 hsp => ?_) (fun e s1 he => he)
  · -- the catch
    obtain ⟨a, B, sI, pins', σ', H', cls, d, rfl, J', nb, up, sky, na, os, ag, b, hb1, hyes, hno⟩ := xx
    have J : Inv X pins σ' H' sI := J'.ofTry ok
    have sky' : Sky B (X.env :: X.outer) a (Zc cls d) X.env.locals s'.heap := by rw [← hs]; exact sky
    show wpAny (model X.prog X.w) X.A (noteFrame (.ref a) X.env) _ _ _
    refine Sky.land Zc.steady hfr hf sky' fun h3 fl3 up3 => ?_
    have J3 : Inv X pins σ' H' { s' with heap := h3 } := J.landed nb fl3.1 (up.trans up3) os ag
    obtain ⟨oe3, vs3, he3, hz3, hd3⟩ := fl3.there
    have notFr : ∀ {h : Heap} {o : Obj} {vs : Array Value}, h.FunFrames B (X.env :: X.outer) → h.get? a = some o → o.data = .fields vs → a ∉ frs (X.env :: X.outer) := fun {h o vs} ff e dd hm => by
      obtain ⟨_, o', e', hnf⟩ := ff.mem hm
      rw [e] at e'; cases e'
      exact hnf _ dd
    have nfr := notFr fl3.2.2.1 he3 hd3
    have nL : a ≠ X.env.locals := fun z => nfr (List.mem_filterMap.mpr ⟨X.env, List.mem_cons_self, by rw [hf, z]⟩)
    have nF : a ∉ X.fs := fun hm => by
      obtain ⟨e, he, q⟩ := List.mem_filterMap.mp hm
      exact nfr (List.mem_filterMap.mpr ⟨e, List.mem_cons_of_mem _ he, q⟩)
    have S3 := J3.suite he3 hd3 na nL nF
    refine wpAny_handleBy_cons (codeAny_handlers_test ?_) (by intro q; cases q)
    have LT : PySem.W.Looks (model X.prog X.w) h3 (typeOf (.ref a)) cls := fun A Q E s k q => wpAny_typeOf_ref (k _ _ he3) (by rw [hz3.1]; exact q)
    have notI : ∀ o, sI.heap.get? a ≠ some o := fun o e => by
      have hB := nb a o e (by rw [hs]; exact nfr)
      rw [fl3.2.1] at hB
      cases hB
    have new0 : X.s_0.heap.get? a = none := by
      cases e : X.s_0.heap.get? a with
      | none => rfl
      | some o =>
        exfalso
        obtain ⟨o', e'⟩ := J.base.there a o e (by rw [hex]; exact List.not_mem_nil)
        exact notI _ e'
    have npin : ∀ p ∈ X.pn ++ pins, p.1 ≠ a := fun p hp z => by
      have := (J.pin p hp).1
      rw [z] at this
      exact notI _ this
    refine hc cls b hb1 S3 LT fun h3' kp => ?_
    have fl3' := flyZ_keeps fl3 kp
    have upk : h3.UpToSlots h3' := Heap.UpToSlots.of_keeps kp
    cases b with
    | true =>
      refine codeAny_handlers_suite_as ?_
      refine HandSPX.lands_againZ fl3' fun h4 fl4 up4 => ?_
      have J4 : Inv X pins σ' H' { s' with heap := h4 } := J.landed nb fl4.1 (((up.trans up3).trans upk).trans up4) os ag
      obtain ⟨oe4, vs4, he4, hz4, hd4⟩ := fl4.there
      have S4 := J4.suite he4 hd4 na nL nF
      refine store_ok (X := X.suite a ((a, oe4) :: (X.pn ++ pins))) (v := .ref a) S4 hN hi hloc rfl (fun s5 S5 => ?_) (.inr hln)
      refine wpAny_mono ((hsu a oe4 cls d (X.pn ++ pins) hz4 ⟨_, hd4⟩).run [] s5 _ H' _ S5 (hyes rfl a na)) (fun f s6 hsp => ?_) (fun _ _ z => False.elim z)
      have end_ : ∀ {σ6 : St} {H6 : Hp} {Q : Shared → Prop}, Inv (X.suite a ((a, oe4) :: (X.pn ++ pins))) [] σ6 H6 s6 → (∀ s7, Inv X pins (σ6.set i none) (upd H6 a (exq a cls d)) s7 → Q s7) →
          wpAny (model X.prog X.w) X.A (do bindName X.env n .none; unbindBehindTheSuite X.env n pos') (fun _ s7 => Q s7) X.xe s6 := fun {σ6 H6 Q} S6 hq => gone_ok (X := X.suite a ((a, oe4) :: (X.pn ++ pins))) S6 hN hi hln fun s7 S7 => by
        obtain ⟨p1, p2, p3, p4, p5⟩ := S7.pin (a, oe4) (List.mem_append_left _ List.mem_cons_self)
        exact hq _ (TT.inv_track (S7.unsuite ok) p1 p2 new0 nL (fun v z => p5 v z) npin (exq_ok p1 hz4.1 hz4.2 hd4))
      cases f with
      | next =>
        obtain ⟨σ6, H6, S6, q6⟩ := hsp
        exact end_ S6 fun s7 J7 => ⟨_, _, J7, q6⟩
      | brk =>
        obtain ⟨σ6, H6, S6, q6⟩ := hsp
        exact end_ S6 fun s7 J7 => ⟨_, _, J7, q6⟩
      | cont =>
        obtain ⟨σ6, H6, S6, q6⟩ := hsp
        exact end_ S6 fun s7 J7 => ⟨_, _, J7, q6⟩
      | ret u =>
        obtain ⟨v6, σ6, H6, S6, r6, q6⟩ := hsp
        exact end_ S6 fun s7 J7 => ⟨_, _, _, J7, r6, q6⟩
    | false =>
      show wpAny _ X.A (handleBy (.ref a) X.env []) _ _ _
      refine wpAny_handleBy_nil ?_
      obtain ⟨k1, k2, k3, oe, vs, T, oT, ts', he, hz, hd, h1, hr⟩ := id fl3'
      unfold PySem.passOn
      refine wpAny_bind (wpAny_field he hd h1 ?_)
      rw [if_neg (show ¬ ((Value.ref T == Value.none) = true) from by simp)]
      have fin : wpAny (model X.prog X.w) X.A (setFlight (.ref a) X.env.frame) (fun _ s4 => wpAny (model X.prog X.w) X.A (throw (.ref a) : Sem Flow) (SP X pins D) X.xe s4) X.xe { s' with heap := h3' } := by
        rw [hf]
        refine HandSPX.setFlight_upZ fl3' fun h4 hh4 up4 => wpAny_throw (tk _ _ ?_)
        exact ⟨a, B, sI, pins, σ', H', cls, d, rfl, J, nb, ((up.trans up3).trans upk).trans up4, .inr (.inr (by rw [hs]; exact hh4)), na, os, ag, hno rfl⟩
      first
        | exact wpAny_bind (wpAny_pure (wpAny_bind fin))
        | exact wpAny_bind fin
  · cases f with
    | next =>
      obtain ⟨σ', H', J', q⟩ := hsp
      exact wpAny_execs_nil ⟨σ', H', J'.ofTry ok, q⟩
    | brk =>
      obtain ⟨σ', H', J', q⟩ := hsp
      exact ⟨σ', H', J'.ofTry ok, q⟩
    | cont =>
      obtain ⟨σ', H', J', q⟩ := hsp
      exact ⟨σ', H', J'.ofTry ok, q⟩
    | ret u =>
      obtain ⟨v, σ', H', J', r, q⟩ := hsp
      exact ⟨v, σ', H', J'.ofTry ok, r, q⟩
end
end L2

namespace L2.TT
open PySem PySem.Spec PyProof.Rows PySem.W
/-- an error that has flown, with its fields -/
def FlownAt (H : Hp) (a C : Addr) (fs : List (Str × V)) : Prop := ∃ d, H a = some (exq a (.ref C) (some d)) ∧ H d = some (.xd fs)
theorem FlownAt.mk {H : Hp} {a C d : Addr} {fs : List (Str × V)} (na : H a = none) (e : H d = some (.xd fs)) : FlownAt (upd H a (exq a (.ref C) (some d))) a C fs :=
  ⟨d, upd_same, by
    rw [upd_ne (fun z => by rw [z, na] at e; cases e)]
    exact e⟩
theorem FlownAt.same {H H' : Hp} {a C : Addr} {fs : List (Str × V)} (e : FlownAt H a C fs) (s : Same H H') : FlownAt H' a C fs := by
  obtain ⟨d, h1, h2⟩ := e
  exact ⟨d, s _ _ h1, s _ _ h2⟩
theorem inst_fl {P : Program} {w : World} {H : Hp} {h : Heap} {a C : Addr} {fs : List (Str × V)} (hok : HOk P w H h) (e : FlownAt H a C fs) : ∃ (ob : Obj) (dd : Addr) (od : Obj) (mA : Str → Option Value),
    InstAt h a ob C (some od) ∧ h.Ns1 dd mA ∧ (∀ f, RelO (fs.lookup f) (mA f)) ∧ (∀ f v, mA f = some v → lookIn f od = some (some v)) := by
  obtain ⟨d, h1, h2⟩ := e
  obtain ⟨ob, vs, ho, hc, hd, hf⟩ := exq_at hok h1
  obtain ⟨mA, hns, rel⟩ := (show ObjOk P w H h d (.xd fs) from hok d _ h2)
  obtain ⟨od, hod, hl⟩ := lookIn_ns hns
  refine ⟨ob, d, od, mA, ⟨ho, hc, by rw [notCls, hf], by rw [hd]; exact hod⟩, hns, rel, fun f v e => by rw [hl, e]⟩
/-- e.f, e an exception that stands there -/
def tFget (K : Frag) (te : TE) (n : Str) : TE := fun σ H Q => te σ H fun x H1 => ∃ (a C : Addr) (fs : List (Str × V)) (v : V) (newId : String) (bmB : List Value), x = .ref a ∧ XC K C bmB newId ∧ findIn K (.ref C) n = some none ∧ FlownAt H1 a C fs ∧ fs.lookup n = some v ∧ Q v H1
/-- isinstance(e, c) -/
def rFis (K : Frag) : List V → Hp → VK → Prop := fun xs H Q => ∃ (a C : Addr) (c : V) (u : Value) (fs : List (Str × V)) (newId : String) (bmB : List Value) (b : Bool), xs = [.ref a, c] ∧ ClsV c u ∧ XC K C bmB newId ∧ FlownAt H a C fs ∧ kitOne K (.ref C) u = some b ∧ Q (.bl b) H
/-- isinstance(e, (c1, c2, ..)) -/
def rFisT (K : Frag) : List V → Hp → VK → Prop := fun xs H Q => ∃ (a C tp : Addr) (cs : List V) (us : List Value) (fs : List (Str × V)) (newId : String) (bmB : List Value) (b : Bool), xs = [.ref a, .ref tp] ∧ H tp = some (.tup cs) ∧ Paired ClsV cs us ∧ XC K C bmB newId ∧ FlownAt H a C fs ∧ kitAny K (.ref C) us = some b ∧ Q (.bl b) H
section
variable {X : Cx} {e : Expr} {te : TE} {n : Str} {pos : Pos}
theorem pe_fget (he : PE X e te) (hb : attributeBase e n X.env (eval e X.env) = eval e X.env := by rfl) : PE X (.Attribute e n pos) (tFget X.K te n) := by
  refine ⟨fun pins s σ H Q I h => ?_⟩
  refine attr_of hb (thn (he.run pins s σ H _ I h) fun u s1 hh => ?_)
  obtain ⟨x, H1, I1, rx, a, C, fs, v, newId, bmB, ex, T, hno, ea, l, q⟩ := hh
  subst ex
  obtain rfl : u = Value.ref a := rx
  obtain ⟨t1, dd, od, mA, J, hns, rel, hl⟩ := inst_fl I1.hok ea
  obtain ⟨u, hu, ru⟩ := RelO.some_of (v := v) (o := mA n) (by rw [← l]; exact rel n)
  exact HandSPX.exc_get I1.kIn J T.ga T.gg T.sub (findObj_own T.hd hno rfl (hl n u hu)) (handed_of ru) ⟨v, H1, I1.tok _, ru, q⟩
theorem call_fis (Z : KCls X.K) : CallR X (.builtin "isinstance") (rFis X.K) := by
  intro pins s σ H xs us Q I r h
  obtain ⟨a, C, c, u, fs, newId, bmB, b, rfl, k, T, ea, e, q⟩ := h
  obtain ⟨u1, u2, rfl, r1, r2⟩ := vals2 r
  have e2 := k.eq r2
  subst e2
  obtain rfl : u1 = Value.ref a := r1
  obtain ⟨t1, dd, od, mA, J, _⟩ := inst_fl I.hok ea
  exact kia_one (kit_exc Z T) I.kIn J e (fun z => nomatch z) fun tk => ⟨.bl b, H, I.tok tk, rfl, q⟩
theorem call_fisT (Z : KCls X.K) : CallR X (.builtin "isinstance") (rFisT X.K) := by
  intro pins s σ H xs us Q I r h
  obtain ⟨a, C, tp, cs, ws, fs, newId, bmB, b, rfl, hT, k, T, ea, e, q⟩ := h
  obtain ⟨u1, u2, rfl, r1, r2⟩ := vals2 r
  obtain rfl : u1 = Value.ref a := r1
  cases (show u2 = Value.ref tp from r2)
  obtain ⟨t1, dd, od, mA, J, _⟩ := inst_fl I.hok ea
  obtain ⟨_, its, rv, o, h1, h2, n, h3⟩ := (show ObjOk X.prog X.w H s.heap tp (.tup cs) from I.hok tp _ hT)
  have e3 := ClsV.all k rv
  subst e3
  obtain ⟨oc, od', dt, sl⟩ := o
  simp only at h2 h3
  subst h2 h3
  exact kia_tup (kit_exc Z T) I.kIn J h1 e (fun z => nomatch z) fun tk => ⟨.bl b, H, I.tok tk, rfl, q⟩
end
end L2.TT

namespace TR
open PySem PySem.Spec PyProof.Rows L2 L2.TT
def top (i : Nat) : Stmt := PySem.Challenge.pw_treetrain_k10_standings_refused.main.body.getD i (.Pass ⟨0, 0, 0, 0⟩)
abbrev s_wall : Stmt := top 0
abbrev s_InvalidTracks_init : Stmt := inClass (top 5) 0
abbrev s_InvalidStation_init : Stmt := inClass (top 6) 0
abbrev s_InvalidLength_init : Stmt := inClass (top 7) 0
abbrev s_InvalidStanding_init : Stmt := inClass (top 8) 0
abbrev s_InvalidMove_init : Stmt := inClass (top 9) 0
abbrev s_InvalidPair_init : Stmt := inClass (top 10) 0
abbrev s_InvalidCount_init : Stmt := inClass (top 11) 0
abbrev s_InvalidText_init : Stmt := inClass (top 12) 0
abbrev s_Blocked_init : Stmt := inClass (top 13) 0
abbrev s_is_integer : Stmt := top 15
abbrev s_is_number_from : Stmt := top 16
abbrev s_is_pair_of_stations : Stmt := top 17
abbrev s_is_station : Stmt := top 18
abbrev s_check_station : Stmt := top 19
abbrev s_check_length : Stmt := top 20
abbrev s_layers : Stmt := top 22
abbrev s_is_standing : Stmt := top 25
abbrev s_check_standing : Stmt := top 26
abbrev s_is_move : Stmt := top 27
abbrev s_check_moves : Stmt := top 28
abbrev s_length_of : Stmt := top 29
abbrev s_body_of : Stmt := top 30
abbrev s_turned : Stmt := top 31
abbrev s_possible_moves : Stmt := top 32
abbrev s_moved : Stmt := top 33
abbrev s_moved_along : Stmt := top 34
abbrev s_opposite_moves : Stmt := top 35
abbrev s_bodies_along : Stmt := top 36
abbrev s_front_part : Stmt := top 37
abbrev s_rear_part : Stmt := top 38
abbrev s_steps_from : Stmt := top 39
abbrev s_standings : Stmt := top 40
abbrev s_body_for_part : Stmt := top 41
abbrev s_body_after : Stmt := top 42
abbrev s_opposite_move : Stmt := top 43
abbrev s_lines_of : Stmt := top 46
abbrev s_is_numeral : Stmt := top 47
abbrev s_word_at : Stmt := top 48
abbrev s_check_word : Stmt := top 49
abbrev s_number_at : Stmt := top 50
abbrev s_check_line_ends : Stmt := top 51
abbrev s_check_text_ends : Stmt := top 52
abbrev s_joined : Stmt := top 54
abbrev s_first_wrong_track : Stmt := top 55
abbrev s_read_tracks : Stmt := top 56
abbrev s_track_at : Stmt := top 57
abbrev s_Railway_init : Stmt := inClass (top 59) 1
abbrev s_Railway_of : Stmt := inClass (top 59) 2
abbrev s_Railway_is_tracks : Stmt := inClass (top 59) 3
abbrev s_Railway_line : Stmt := inClass (top 59) 4
abbrev s_Railway_star : Stmt := inClass (top 59) 5
abbrev s_Railway_read : Stmt := inClass (top 59) 6
abbrev s_Railway_size : Stmt := inClass (top 59) 7
abbrev s_Railway_tracks : Stmt := inClass (top 59) 8
abbrev s_Railway_neighbours : Stmt := inClass (top 59) 9
abbrev s_Railway_distance : Stmt := inClass (top 59) 10
abbrev s_Railway_path : Stmt := inClass (top 59) 11
abbrev s_Railway_is_same : Stmt := inClass (top 59) 12
abbrev s_check_count : Stmt := top 60
abbrev s_neighbours_of : Stmt := top 61
abbrev s_places_below_first : Stmt := top 62
abbrev s_law_begin : Stmt := top 64
abbrev s_law_mixed : Stmt := top 65
abbrev s_law_next : Stmt := top 66
abbrev s_law_tracks : Stmt := top 67
abbrev s_law_standing : Stmt := top 68
abbrev s_law_pair_tracks : Stmt := top 69
abbrev s_law_said : Stmt := top 70
abbrev s_law_no_standing : Stmt := top 71
abbrev s_law_no_length : Stmt := top 72
abbrev s_law_no_move : Stmt := top 73
abbrev s_law_standings_right : Stmt := top 74
abbrev s_law_lengths_right : Stmt := top 75
abbrev s_law_moves_right : Stmt := top 76
abbrev s_law_blocked_right : Stmt := top 77
abbrev s_law : Stmt := top 78
abbrev NTr : List Str := ["draw", "most", "count", "shape", "found", "spot", "back", "other", "at"]
end TR

namespace L2.TT
open PySem PySem.Spec PyProof.Rows
set_option maxHeartbeats 1000000 in
theorem meets_enum1 {v : Value} {o : Obj} {H : Heap → Prop} (B : Begins v o H) :
    Meets (Builtin.«enumerate.__new__» ⟨[.type "enumerate", v], []⟩) (fun _ R s => H s.heap ∧
      R (.ok (.ret (.ref (s.heap.push o).objs.size))) { s with heap := (s.heap.push o).push { cls := .type "enumerate", data := .fields #[.none, .bool false, .ref s.heap.objs.size, rawInt 0, .none, .none] } }) :=
  .of_wp fun prog w A R s h => by
    obtain ⟨hp, g, d, tk, os⟩ := s; obtain ⟨h1, h⟩ := h
    have hsub := sub_enumerate
    have q1 : ∀ {A' : Around} {E : Value → Shared → Prop} {Q : Value → Shared → Prop}, Q (.ref hp.objs.size) ⟨hp.push o, g, d, tk, os⟩ → wpAny (model prog w) A' (pyIter v) Q E ⟨hp, g, d, tk, os⟩ :=
      fun q => B.iter prog w _ _ ⟨hp, g, d, tk, os⟩ _ h1 q
    wp_walk using q1
    refine wpAny_stack_any fun st => wpAny_pure ?_
    split
    · rename_i c _ _ _ _ _
      cases (c == Value.type "enumerate")
      · wp_walk using q1
        exact ⟨_, rfl, h⟩
      · wp_walk using q1
        exact ⟨_, rfl, h⟩
    · wp_walk using q1
      exact ⟨_, rfl, h⟩
theorem enum_begins1 {prog : Program} {w : World} {A : Around} {E : Value → Shared → Prop} {s : Shared} {v : Value} {o : Obj} {H : Heap → Prop} {Q : Value → Shared → Prop} (B : Begins v o H) (h1 : H s.heap)
    (h : ∀ h', IsEnum h' (s.heap.objs.size + 1) s.heap.objs.size 0 .none → h'.get? s.heap.objs.size = some o → h'.objs.size = s.heap.objs.size + 2 →
      (∀ b o, s.heap.get? b = some o → h'.get? b = some o) → Q (.ref (s.heap.objs.size + 1)) { s with heap := h' }) :
    wpAny (model prog w) A (call (.type "enumerate") [v]) Q E s := by
  refine callType_new F.called_enumerate (by decide) (F.typeCall_enumerate_1 _) (F.newCall_enumerate_1 _) (fun obj => F.args_object_init_2 obj _) F.entry_enumerate_new
    (meets_enum1 B) ⟨h1, ?_⟩
  have hz : (s.heap.push o).objs.size = s.heap.objs.size + 1 := Heap.size_push ..
  show _ ∧ _
  rw [hz]
  have he : IsEnum ((s.heap.push o).push { cls := .type "enumerate", data := .fields #[.none, .bool false, .ref s.heap.objs.size, rawInt 0, .none, .none] }) (s.heap.objs.size + 1) s.heap.objs.size 0 .none := by
    have := Heap.get?_push_size (s.heap.push o) (o := { cls := .type "enumerate", data := .fields #[.none, .bool false, .ref s.heap.objs.size, rawInt 0, .none, .none] }) rfl
    rw [hz] at this; exact this
  refine ⟨⟨_, he, rfl⟩, h _ he (Heap.get?_push_of_some _ (Heap.get?_push_size _ B.free)) (by rw [Heap.size_push, hz]) fun b o x => Heap.get?_push_of_some _ (Heap.get?_push_of_some _ x)⟩
/-- enumerate over a tuple -/
def IteT (K : PySem.W.Frag) (a : Addr) : It :=
  ⟨fun i H => ∃ (xs : List V) (x : V), SqT K H a xs ∧ xs[i]? = some x, fun i H v H' => ∃ T x, v = .ref T ∧ H T = none ∧ H' = upd H T (.tup [.int (i : Nat), x]) ∧ ∀ xs, SqT K H a xs → xs[i]? = some x, fun i H => ∃ xs : List V, SqT K H a xs ∧ xs.length ≤ i⟩
theorem turn_enumT {P : Program} {w : World} {K : PySem.W.Frag} {elts : List Expr} {kk : Nat} {tpos : Pos} (a e it : Addr) (hai : a ≠ it) (hea : e ≠ a) :
    Turn P w K (.Tuple elts kk tpos) (IteT K a) [e, it] e (fun i h => (∃ old, IsEnum h e it ((i : Nat) : Int) old) ∧ h.IsTupleIter it a i ∧ e ≠ it) where
  mem := by simp
  obj := fun i h st b hb => by
    obtain ⟨⟨old, he⟩, ⟨o, ho, hc, hd⟩, _⟩ := st
    have e' : b = e ∨ b = it := by simpa using hb
    rcases e' with z | z
    · rw [z]; exact ⟨_, he, fun v q => nomatch q⟩
    · rw [z]; exact ⟨o, ho, fun v q => by rw [hd] at q; cases q⟩
  keep := fun i h h' st k => let ⟨⟨old, he⟩, hi, hne⟩ := st; ⟨⟨old, k e (by simp) _ he⟩, hi.at fun o q => k it (by simp) o q, hne⟩
  item := by
    intro X hP hw hK hc i pins s σ H E I hf st hg
    subst hP hw hK
    obtain ⟨⟨old, he⟩, hit, hne⟩ := st
    obtain ⟨xs, x, hq, hx⟩ := hg
    obtain ⟨its, rv, p, hz⟩ := I.tuple hq
    obtain ⟨u, hu, ru⟩ := rv.get hx
    have hel : e < s.heap.objs.size := Heap.lt_size he
    have hil : it < s.heap.objs.size := by obtain ⟨_, q, _⟩ := hit; exact Heap.lt_size q
    have D := Draws.tuple (prog := X.prog) (w := X.w) (A := X.A.in1) (I.ok.hd hc) it a hai its.toArray
    have hlt : i < its.toArray.size := by
      have h2 := (List.getElem?_eq_some_iff.mp hu).1
      simpa using h2
    refine wpAny_pyNext_enum_itemD D he ⟨hit, p⟩ hlt hne (by simp only [List.mem_cons, List.not_mem_nil, or_false, not_or]; exact ⟨hne, hea⟩) fun x' h' tk hx' ho hit' hT hsz hk => ?_
    have exu : x' = u := by
      have e1 : its.toArray[i]? = some x' := hx'
      have e2 : its.toArray[i]? = some u := by simpa using hu
      exact Option.some.inj (e1.symm.trans e2)
    subst exu
    refine ⟨_, rfl, wpAny_letOwnedTupleGo_enum (s := { s with heap := h', toks := tk + 1 }) ho fun h'' he' sb => ?_⟩
    have hT2 : h''.get? s.heap.objs.size = some { cls := .type "tuple", data := .seq #[.int i tk, x'] } := (sb.2 _ (Nat.ne_of_gt hel)).trans hT
    have new : ObjOk X.prog X.w (upd H s.heap.objs.size (.tup [.int (i : Nat), x])) h'' s.heap.objs.size (.tup [.int (i : Nat), x]) :=
      ⟨by show 2 ≤ sizeLine; decide, [.int i tk, x'], .cons ⟨_, rfl⟩ (.cons ru .nil), ⟨_, hT2, rfl, _, rfl⟩⟩
    have I1 : Inv X pins σ (upd H s.heap.objs.size (.tup [.int (i : Nat), x])) { s with heap := h'', toks := tk + 1 } :=
      I.turnedNew (ch := [e, it]) (fun b ob hb q => (sb.2 b (fun z => hb (by simp [z]))).trans (hk b ob (fun z => hb (by simp [z])) (fun z => hb (by simp [z])) q)) hf (Nat.le_refl _) new
    refine ⟨.ref s.heap.objs.size, _, I1, rfl, ⟨_, x, rfl, I.hok.fresh (Nat.le_refl _), rfl, fun ys hy => by rw [I.tuple_inj hy hq]; exact hx⟩, ⟨⟨x', ?_⟩, hit'.1.at fun o q => (sb.2 it (Ne.symm hne)).trans q, hne⟩, fun b hb => ?_⟩
    · have e1 : ((i + 1 : Nat) : Int) = (i : Int) + 1 := by omega
      rw [e1]; exact he'
    · have hb' : b < s.heap.objs.size := by
        have e' : b = e ∨ b = it := by simpa using hb
        rcases e' with z | z
        · rw [z]; exact hel
        · rw [z]; exact hil
      rw [upd_ne (Nat.ne_of_lt hb')]
      exact (hf b hb).1
  done := by
    intro X hP hw hK hc i pins s σ H E I hf st hg
    subst hP hw hK
    obtain ⟨⟨old, he⟩, hit, hne⟩ := st
    obtain ⟨xs, hq, hx⟩ := hg
    obtain ⟨its, rv, p, hz⟩ := I.tuple hq
    obtain ⟨f0, f1, f2, f3, f4, f5⟩ := hf it (by simp)
    have hl := rv.length
    have hi2 : its.toArray[i]? = none := by simp; omega
    have D := Draws.tuple (prog := X.prog) (w := X.w) (A := X.A.in1) (I.ok.hd hc) it a hai its.toArray
    have hT : s.TypeIs (.ref e) "enumerate" := ⟨_, he, rfl⟩
    unfold pyNext
    refine wpAny_bind (wpAny_attempt (wpAny_callSpecial?_slot (name := Str.ofString "__next__") hT F.slot_enumerate_next
      (wpAny_call_entry F.slot_enumerate_next hT F.entry_enumerate_next ?_ (F.args_enumerate_next_1 _))))
    show wpAny _ _ (field (.ref e) 2 >>= _) _ _ _
    refine wpAny_bind (wpAny_field he rfl (x := .ref it) rfl ?_)
    refine wpAny_bind (wpAny_nextOf_tuple_end (I.ok.hd hc) hit p hi2 fun h' x he' hx' => ?_)
    obtain ⟨o, ho, hc'⟩ := hx'
    refine wpAny_bind (wpAny_isInstance (T := "StopIteration") (b := true) ⟨o, ho, hc'⟩ isSubtype_stop ?_)
    exact wpAny_pure ⟨rfl, I.turned (t' := s.toks) (fun b o hb q => he' b o hb q) f0 f1 f3 f4 f5⟩
  self := fun A i s Q E st h => let ⟨⟨_, he⟩, _⟩ := st; wpAny_pyIter_enum he h
def iEnumT (K : PySem.W.Frag) (ta : TA) : TI := fun σ H R => ta σ H fun vs H1 => ∃ a xs, vs = [.ref a] ∧ SqT K H1 a xs ∧ R (IteT K a) H1
theorem pi_enumT {X : Cx} {e : Expr} {ta : TA} {p pos tpos : Pos} {elts : List Expr} {kk : Nat} (hg : Gl X "enumerate") (hm : X.mg "enumerate" = none) (ha : PA X [e] ta) (hs : starEach [e] X.env = [(false, eval e X.env)] := by rfl) :
    PI X (.Tuple elts kk tpos) (.Call (.Name "enumerate" p) [e] [] pos) (iEnumT X.K ta) := by
  refine ⟨fun pins s σ H R I h => ?_⟩
  refine Call_ (ld_blt I hg hm boot_enumerate (PyProof.Rows.callWith_type1 (thn (ha.run pos pins s σ H _ I h) fun us s1 ⟨vs, H1, I1, r1, q1⟩ => ?_) hs rfl))
  obtain ⟨a, xs, ex, hq, q⟩ := q1
  subst ex
  cases r1 with
  | cons r rr =>
    cases rr
    cases r
    obtain ⟨its, rv, p', hz⟩ := I1.tuple hq
    have hal : a < s1.heap.objs.size := by obtain ⟨_, z, _⟩ := (show s1.heap.IsTuple a its.toArray from p'); exact Heap.lt_size z
    refine enum_begins1 (begins_tuple a its.toArray) p' fun h' he hit hsz hk => wpAny_pyIter_enum he ?_
    have I2 : Inv X pins σ H1 { s1 with heap := h' } := I1.kept (t' := s1.toks) hk
    refine ⟨s1.heap.objs.size + 1, [s1.heap.objs.size + 1, s1.heap.objs.size], _, _, H1, rfl, I2, turn_enumT a (s1.heap.objs.size + 1) s1.heap.objs.size (Nat.ne_of_lt hal) (Nat.ne_of_gt (Nat.lt_succ_of_lt hal)), ⟨⟨.none, he⟩, ⟨_, hit, rfl, rfl⟩, Nat.succ_ne_self _⟩, fun b hb => ?_, q⟩
    have e' : b = s1.heap.objs.size + 1 ∨ b = s1.heap.objs.size := by simpa using hb
    have hle : s1.heap.objs.size ≤ b := by
      rcases e' with z | z
      · rw [z]; exact Nat.le_add_right _ _
      · rw [z]; exact Nat.le_refl _
    exact I1.fpOk hle (I1.hok.fresh hle)
/-- for i, x in enumerate(t), t a tuple standing still -/
theorem for_enumT {K : PySem.W.Frag} {a : Addr} {xs : List V} {g : TG} {tb : TS} {D : Ends} {σ : L2.St} {H : Hp} (Pv : Nat → L2.St → Hp → Prop) (h0 : Pv 0 σ H) (hl : ∀ i σ H, i ≤ xs.length → Pv i σ H → SqT K H a xs)
    (hs : ∀ i x T σ H, xs[i]? = some x → Pv i σ H → H T = none → g (.ref T) σ (upd H T (.tup [.int (i : Nat), x])) fun σ2 H2 => tb { D with nx := Pv (i + 1), ct := Pv (i + 1), bk := D.nx } σ2 H2) (hd : ∀ σ H, Pv xs.length σ H → D.nx σ H) :
    ∃ W : Nat → Nat → L2.St → Hp → Prop, (∃ m, W 0 m σ H) ∧ ∀ i m σ H, W i m σ H →
      ((IteT K a).stop i H ∧ D.nx σ H) ∨ ((IteT K a).go i H ∧ ∃ N : L2.St → Hp → Prop, (∀ σ' H', N σ' H' → ∃ m', m' < m ∧ W (i + 1) m' σ' H') ∧ ∀ x H', (IteT K a).yld i H x H' → g x σ H' fun σ2 H2 => tb { D with nx := N, ct := N, bk := D.nx } σ2 H2) := by
  refine ⟨fun i m σ H => m = xs.length - i ∧ i ≤ xs.length ∧ Pv i σ H, ⟨xs.length, by simp, Nat.zero_le _, h0⟩, ?_⟩
  rintro i m σ H ⟨rfl, hi, p⟩
  have q := hl i σ H hi p
  by_cases hlt : i < xs.length
  · refine .inr ⟨⟨xs, xs[i], q, by simp [hlt]⟩, Pv (i + 1), fun σ' H' p' => ⟨xs.length - (i + 1), by omega, rfl, hlt, p'⟩, fun x H' y => ?_⟩
    obtain ⟨T, z, rfl, hT, rfl, y⟩ := y
    exact hs i z T σ H (y xs q) p hT
  · have e : i = xs.length := by omega
    subst e
    exact .inl ⟨⟨xs, q, Nat.le_refl _⟩, hd σ H p⟩
end L2.TT

namespace L2.TT
open PySem PySem.Spec PyProof.Rows
section
variable {prog : Program} {w : World} {A : Around} {E : Value → Shared → Prop} {s : Shared} {l : Addr} {xs : Array (Int × Tok)}
theorem iter_intTup {Q : Value → Shared → Prop} (hl : s.heap.IsTuple l (intItems xs))
    (h : ∀ s₂ : Shared, s₂ = { s with heap := s.heap.push { cls := .type "tuple_iterator", data := .fields #[.ref l, .int 0 0] } } →
      (s₂.heap.IsTupleIter s.heap.objs.size l 0 ∧ s₂.heap.IsTuple l (intItems xs)) → (∀ b ∈ [s.heap.objs.size, l], b < s₂.heap.objs.size) → l ≠ s.heap.objs.size → Q (.ref s.heap.objs.size) s₂) :
    wpAny (model prog w) A (pyIter (.ref l)) Q E s := by
  have hlt : l < s.heap.objs.size := by obtain ⟨_, e, _⟩ := hl; exact Heap.lt_size e
  refine wpAny_pyIter_tuple hl (h _ rfl ⟨⟨_, Heap.get?_push_size _ rfl, rfl, rfl⟩, hl.at fun o e => Heap.get?_push_of_some _ e⟩ (fun b hb => ?_) (Nat.ne_of_lt hlt))
  show b < (s.heap.push _).objs.size
  rw [Heap.size_push]
  rcases List.mem_cons.mp hb with rfl | hb
  · exact Nat.lt_succ_self _
  · rcases List.mem_cons.mp hb with rfl | hb
    · exact Nat.lt_succ_of_lt hlt
    · cases hb
theorem old_kept2 {o : Obj} {h' : Heap} (hk : ∀ b u, b ∉ [s.heap.objs.size] → (s.heap.push o).get? b = some u → h'.get? b = some u) :
    ∀ b u, s.heap.get? b = some u → h'.get? b = some u := fun b u e => by
  refine hk b u (fun hm => ?_) (Heap.get?_push_of_some _ e)
  rcases List.mem_cons.mp hm with e1 | hm
  · exact absurd (e1 ▸ Heap.lt_size e) (Nat.lt_irrefl _)
  · cases hm
theorem max_intTup {Q : Value → Shared → Prop} (hh : A.handled = none) (hl : s.heap.IsTuple l (intItems xs)) (hne : 0 < xs.size)
    (h : ∀ v h' tk, (intItems xs)[argBest (fun i j => decide (numAt xs i > numAt xs j)) (xs.size - 1)]? = some v → (∀ b o, s.heap.get? b = some o → h'.get? b = some o) → Q v { s with heap := h', toks := tk }) :
    wpAny (model prog w) A (call (.builtin "max") [.ref l]) Q E s := by
  refine call_max_walk (iter_intTup hl fun s₂ e st hfp hlI => ?_)
  subst e
  refine ⟨_, _, _, _, _, _, _, rfl, Walks.tuple (A := A.in1) hh _ l hlI (intItems xs), st, hfp, by simpa [intItems] using hne, CmpOf.ints_gt (numAt xs) (fun _ _ => intItems_at), fun v h' tk hP hk => ?_⟩
  exact h v h' tk (by simpa [intItems] using hP) (old_kept2 hk)
theorem min_intTup {Q : Value → Shared → Prop} (hh : A.handled = none) (hl : s.heap.IsTuple l (intItems xs)) (hne : 0 < xs.size)
    (h : ∀ v h' tk, (intItems xs)[argBest (fun i j => decide (numAt xs i < numAt xs j)) (xs.size - 1)]? = some v → (∀ b o, s.heap.get? b = some o → h'.get? b = some o) → Q v { s with heap := h', toks := tk }) :
    wpAny (model prog w) A (call (.builtin "min") [.ref l]) Q E s := by
  refine call_min_walk (iter_intTup hl fun s₂ e st hfp hlI => ?_)
  subst e
  refine ⟨_, _, _, _, _, _, _, rfl, Walks.tuple (A := A.in1) hh _ l hlI (intItems xs), st, hfp, by simpa [intItems] using hne, CmpOf.ints_lt (numAt xs) (fun _ _ => intItems_at), fun v h' tk hP hk => ?_⟩
  exact h v h' tk (by simpa [intItems] using hP) (old_kept2 hk)
end
section
variable {X : Cx}
/-- max(t), min(t), t a pair of ints -/
def rMaxP (K : PySem.W.Frag) : List V → Hp → VK → Prop := fun vs H Q => ∃ (a : Addr) (i j : Int), vs = [V.ref a] ∧ SqT K H a [.int i, .int j] ∧ Q (.int (max i j)) H
def rMinP (K : PySem.W.Frag) : List V → Hp → VK → Prop := fun vs H Q => ∃ (a : Addr) (i j : Int), vs = [V.ref a] ∧ SqT K H a [.int i, .int j] ∧ Q (.int (min i j)) H
theorem cr_maxP (hc : X.calm = true) : CallR X (.builtin "max") (rMaxP X.K) := by
  intro pins s σ H vs us Q I r h
  obtain ⟨a, i, j, rfl, hs, q⟩ := h
  obtain ⟨its, rv, hl, _⟩ := I.tuple hs
  rw [Vals.ref1 r]
  cases rv with
  | cons r1 rr =>
    cases rr with
    | cons r2 rr =>
      cases rr
      obtain ⟨t1, rfl⟩ := r1
      obtain ⟨t2, rfl⟩ := r2
      have hl2 : s.heap.IsTuple a (intItems #[(i, t1), (j, t2)]) := by rw [show intItems #[(i, t1), (j, t2)] = #[Value.int i t1, Value.int j t2] by simp [intItems]]; exact hl
      refine max_intTup (I.ok.hd hc) hl2 (show 0 < 2 by decide) fun v h' tk hv hk => ?_
      have e0 : numAt #[(i, t1), (j, t2)] 0 = i := rfl
      have e1 : numAt #[(i, t1), (j, t2)] 1 = j := rfl
      have hv2 := hv
      obtain ⟨t, ev⟩ := intItems_at hv
      obtain ⟨h1, h2⟩ := argBest_gt (numAt #[(i, t1), (j, t2)]) 1
      have b0 := h2 0 (by omega)
      have b1 := h2 1 (by omega)
      subst ev
      refine ⟨.int _, H, I.kept hk, ⟨t, rfl⟩, ?_⟩
      have eb : argBest (fun i_1 j_1 => decide (numAt #[(i, t1), (j, t2)] i_1 > numAt #[(i, t1), (j, t2)] j_1)) (#[(i, t1), (j, t2)].size - 1) = 0 ∨ argBest (fun i_1 j_1 => decide (numAt #[(i, t1), (j, t2)] i_1 > numAt #[(i, t1), (j, t2)] j_1)) (#[(i, t1), (j, t2)].size - 1) = 1 := by
        show argBest _ 1 = 0 ∨ argBest _ 1 = 1
        omega
      rw [e0] at b0
      rw [e1] at b1
      have em : numAt #[(i, t1), (j, t2)] (argBest (fun i_1 j_1 => decide (numAt #[(i, t1), (j, t2)] i_1 > numAt #[(i, t1), (j, t2)] j_1)) (#[(i, t1), (j, t2)].size - 1)) = max i j := by
        have z : ∀ k, k = 0 ∨ k = 1 → numAt #[(i, t1), (j, t2)] k = i ∨ numAt #[(i, t1), (j, t2)] k = j := fun k hk => by
          rcases hk with rfl | rfl
          · exact .inl e0
          · exact .inr e1
        have z1 := z _ eb
        have b0' : i ≤ numAt #[(i, t1), (j, t2)] (argBest (fun i_1 j_1 => decide (numAt #[(i, t1), (j, t2)] i_1 > numAt #[(i, t1), (j, t2)] j_1)) (#[(i, t1), (j, t2)].size - 1)) := b0
        have b1' : j ≤ numAt #[(i, t1), (j, t2)] (argBest (fun i_1 j_1 => decide (numAt #[(i, t1), (j, t2)] i_1 > numAt #[(i, t1), (j, t2)] j_1)) (#[(i, t1), (j, t2)].size - 1)) := b1
        generalize numAt #[(i, t1), (j, t2)] (argBest (fun i_1 j_1 => decide (numAt #[(i, t1), (j, t2)] i_1 > numAt #[(i, t1), (j, t2)] j_1)) (#[(i, t1), (j, t2)].size - 1)) = m at z1 b0' b1'
        omega
      rw [em]
      exact q
theorem cr_minP (hc : X.calm = true) : CallR X (.builtin "min") (rMinP X.K) := by
  intro pins s σ H vs us Q I r h
  obtain ⟨a, i, j, rfl, hs, q⟩ := h
  obtain ⟨its, rv, hl, _⟩ := I.tuple hs
  rw [Vals.ref1 r]
  cases rv with
  | cons r1 rr =>
    cases rr with
    | cons r2 rr =>
      cases rr
      obtain ⟨t1, rfl⟩ := r1
      obtain ⟨t2, rfl⟩ := r2
      have hl2 : s.heap.IsTuple a (intItems #[(i, t1), (j, t2)]) := by rw [show intItems #[(i, t1), (j, t2)] = #[Value.int i t1, Value.int j t2] by simp [intItems]]; exact hl
      refine min_intTup (I.ok.hd hc) hl2 (show 0 < 2 by decide) fun v h' tk hv hk => ?_
      have e0 : numAt #[(i, t1), (j, t2)] 0 = i := rfl
      have e1 : numAt #[(i, t1), (j, t2)] 1 = j := rfl
      obtain ⟨t, ev⟩ := intItems_at hv
      obtain ⟨h1, h2⟩ := argBest_lt (numAt #[(i, t1), (j, t2)]) 1
      have b0 := h2 0 (by omega)
      have b1 := h2 1 (by omega)
      subst ev
      refine ⟨.int _, H, I.kept hk, ⟨t, rfl⟩, ?_⟩
      have eb : argBest (fun i_1 j_1 => decide (numAt #[(i, t1), (j, t2)] i_1 < numAt #[(i, t1), (j, t2)] j_1)) (#[(i, t1), (j, t2)].size - 1) = 0 ∨ argBest (fun i_1 j_1 => decide (numAt #[(i, t1), (j, t2)] i_1 < numAt #[(i, t1), (j, t2)] j_1)) (#[(i, t1), (j, t2)].size - 1) = 1 := by
        show argBest _ 1 = 0 ∨ argBest _ 1 = 1
        omega
      rw [e0] at b0
      rw [e1] at b1
      have em : numAt #[(i, t1), (j, t2)] (argBest (fun i_1 j_1 => decide (numAt #[(i, t1), (j, t2)] i_1 < numAt #[(i, t1), (j, t2)] j_1)) (#[(i, t1), (j, t2)].size - 1)) = min i j := by
        have z : ∀ k, k = 0 ∨ k = 1 → numAt #[(i, t1), (j, t2)] k = i ∨ numAt #[(i, t1), (j, t2)] k = j := fun k hk => by
          rcases hk with rfl | rfl
          · exact .inl e0
          · exact .inr e1
        have z1 := z _ eb
        have b0' : numAt #[(i, t1), (j, t2)] (argBest (fun i_1 j_1 => decide (numAt #[(i, t1), (j, t2)] i_1 < numAt #[(i, t1), (j, t2)] j_1)) (#[(i, t1), (j, t2)].size - 1)) ≤ i := b0
        have b1' : numAt #[(i, t1), (j, t2)] (argBest (fun i_1 j_1 => decide (numAt #[(i, t1), (j, t2)] i_1 < numAt #[(i, t1), (j, t2)] j_1)) (#[(i, t1), (j, t2)].size - 1)) ≤ j := b1
        generalize numAt #[(i, t1), (j, t2)] (argBest (fun i_1 j_1 => decide (numAt #[(i, t1), (j, t2)] i_1 < numAt #[(i, t1), (j, t2)] j_1)) (#[(i, t1), (j, t2)].size - 1)) = m at z1 b0' b1'
        omega
      rw [em]
      exact q
/-- a target o.f -/
def gFld (K : PySem.W.Frag) (ta : TE) (f : Str) : TG := fun y σ H Q => ta σ H fun x H2 => ∃ a C dx fs, x = .ref a ∧ H2 a = some (.ins C dx fs) ∧ Cls K C ∧ NoAttr K C f ∧ fs.length < 1000 ∧ Q σ (upd H2 a (.ins C dx (putF f y fs)))
theorem pg_fld {o : Expr} {f : Str} {pos : Pos} {ta : TE} (ho : PE X o ta) : PG X (.Attribute o f pos) (gFld X.K ta f) := by
  refine ⟨fun pins s σ H v u Q I r h => ?_⟩
  rw [arm_assign_Attribute]
  refine wpAny_bind (wpAny_holding (thn (ho.run pins s σ H _ I h) fun ov s1 ⟨x, H1, I1, r1, a, C, dx, fs, ex, ea, c, n, l, q⟩ => ?_))
  subst ex
  obtain rfl : ov = Value.ref a := r1
  refine wpAny_bind (wpAny_standAt (wpAny_bind (wpAny_holding (setattr_ok I1 ea c n l r fun s2 I2 => ?_))))
  exact wpAny_release ⟨σ, _, I2, q⟩
end
end L2.TT

namespace L2.TT
open PySem PySem.Spec PyProof.Rows L2 StX
/-- x(*y), x a local name that holds the class at C -/
def tMakeLS (i : Nat) (K : PySem.W.Frag) (C : Addr) (sp : Sp) (E : XK) (te : TE) : TE := fun σ H Q => σ[i]? = some (some (.ref C)) ∧ te σ H fun y H1 => ∃ a xs, y = V.ref a ∧ (SqT K H1 a xs ∨ SqL K H1 a xs) ∧
  ∀ o dx, H1 o = Option.none → H1 dx = Option.none → dx ≠ o → sp (V.ref o :: xs) (upd (upd H1 dx (.own o)) o (.ins C dx [])) (fun v H2 => v = .non ∧ Q (.ref o) H2) E
section
variable {X : Cx} {CX : CXT} {k i : Nat} {f C : Addr} {sp : Sp} {E : XK} {x : Str} {e : Expr} {te : TE} {p sp_ pos : Pos}
theorem pe_makeLS (M : Mk X.K C f) (F : FnR X.prog X.w X.K X.mg X.base CX k f sp) (hr : Room (k + 1) X.A) (hN : X.N[i]? = some x) (hv : Vis X.env.scope x) (hx : Passes CX X E) (he : PE X e te)
    (hdb : (x == ("__debug__" : Str)) = false := by decide) (hcd : (x == ("__classdict__" : Str)) = false := by decide)
    (hst : starEach [.Starred e sp_] X.env = [(true, eval e X.env)] := by rfl) : PE X (.Call (.Name x p) [.Starred e sp_] [] pos) (tMakeLS i X.K C sp E te) := by
  refine ⟨fun pins s σ H Q I h => ?_⟩
  obtain ⟨hs, ht⟩ := h
  refine wpAny_Call_Name_kw (thn ((pe_var (pos := p) hN hv hdb hcd).run pins s σ H (fun v H1 => v = .ref C ∧ H1 = H) I ⟨.ref C, hs, rfl, rfl⟩) fun u s1 ⟨v, H1, I1, r1, q1⟩ => ?_)
  obtain ⟨rfl, rfl⟩ := q1
  cases r1
  refine PySem.W.callWith_S (h₀ := X.base) I.ok.mod.kin M.kp (thn (he.run pins s1 σ _ _ I1 ht) fun v s2 ⟨y, H2, I2, ry, a, xs, ey, hxs, q⟩ => ?_) hst
  subst ey
  obtain rfl : v = Value.ref a := ry
  exact star_any I2 hxs fun us s3 I3 rv => ⟨I3.kIn, run_makeR M F hr hx I3 rv q⟩
end
end L2.TT

namespace TR
open PySem PySem.Spec PyProof.Rows L2 L2.TT
/-- a def of the module and its promise -/
structure Use (P : Program) (w : World) (K : PySem.W.Frag) (mg : Str → Option Value) (base : Heap) (CX : CXT) (k : Nat) (x : Str) (f : Addr) (fd : FuncData) (ps : List Str) (sp : Sp) : Prop where
  G : FnOk P w K mg base CX k f fd ps sp
  m : mg x = some (.ref f)
  kp : PySem.W.keepIn K (.ref f) = true
  b : Binds K fd ps []
section
variable {X : Cx} {k : Nat} {x : Str} {f : Addr} {fd : FuncData} {ps : List Str} {sp : Sp} {e : Expr} {es : List Expr} {t : TA} {p pos : Pos}
theorem pe_use (U : Use X.prog X.w X.K X.mg X.base CX0 k x f fd ps sp) (hr : Room k X.A) (hg : Gl X x) (ha : PA X (e :: es) t) (hd : (x == ("__debug__" : Str)) = false := by decide)
    (he : starEach (e :: es) X.env = (false, eval e X.env) :: starEach es X.env := by rfl) (hpl : (backTo pos (starEach es X.env)).any (·.1) = false := by rfl) :
    PE X (.Call (.Name x p) (e :: es) [] pos) (tCall sp [] (fun _ _ _ => False) t) :=
  pe_call (p := p) (pos := pos) U.G hr hg U.m U.kp U.b .nil pass0 ha hd he hpl
end
/-- what is never reached -/
theorem ps_never {X : Cx} {st : Stmt} : PS X st (fun _ _ _ => False) := ⟨fun _ _ _ _ _ _ h => h.elim⟩
theorem pss_never {X : Cx} {st : Stmt} : PSs X [st] (fun _ _ _ => False) := pss_one ps_never
/-- the built-in names -/
structure Nm (mg : Str → Option Value) : Prop where
  len : mg "len" = none
  isi : mg "isinstance" = none
  int : mg "int" = none
  bool : mg "bool" = none
  tuple : mg "tuple" = none
  list : mg "list" = none
  sorted : mg "sorted" = none
  min : mg "min" = none
  max : mg "max" = none
  range : mg "range" = none
  enum : mg "enumerate" = none
  repr : mg "repr" = none
  set : mg "set" = none
  all : mg "all" = none
  any : mg "any" = none
  zip : mg "zip" = none
  str : mg "str" = none
/-- no int, and not a bool either -/
def NI (K : PySem.W.Frag) (H : Hp) (v : V) : Prop := (∃ b, v = .bl b) ∨ ∃ n : String, TyX K H v (.type n) ∧ kitB n "int" = some false
theorem NI.non {K : PySem.W.Frag} {H : Hp} : NI K H .non := .inr ⟨"NoneType", .base .non, by decide +kernel⟩
theorem NI.str {K : PySem.W.Frag} {H : Hp} {z : Str} : NI K H (.str z) := .inr ⟨"str", .base (.str z), by decide +kernel⟩
theorem NI.tup {K : PySem.W.Frag} {H : Hp} {a : Addr} {xs : List V} (h : H a = some (.tup xs)) : NI K H (.ref a) := .inr ⟨"tuple", .base (.tup h), by decide +kernel⟩
theorem NI.lst {K : PySem.W.Frag} {H : Hp} {a : Addr} {xs : List V} (h : H a = some (.lst xs)) : NI K H (.ref a) := .inr ⟨"list", .base (.lst h), by decide +kernel⟩
theorem NI.dK {K : PySem.W.Frag} {H : Hp} {a : Addr} {xs : List (Key × V)} (h : H a = some (.dK xs)) : NI K H (.ref a) := .inr ⟨"dict", .base (.dK h), by decide +kernel⟩
/-- one value, an int or none -/
def IV (K : PySem.W.Frag) (H : Hp) (v : V) : Prop := (∃ i, v = .int i) ∨ NI K H v
def asInt : V → Option Int
  | .int i => some i
  | _ => none
theorem NI.as {K : PySem.W.Frag} {H : Hp} {v : V} (h : NI K H v) : asInt v = none := by
  rcases h with ⟨b, rfl⟩ | ⟨n, t, kb⟩
  · rfl
  · cases v with
    | int i =>
      have e : (Value.type n) = .type "int" := by
        cases t with
        | base h => cases h; rfl
      cases e
      exact absurd kb (by decide +kernel)
    | _ => rfl
def spIsInt (K : PySem.W.Frag) : Sp := fun vs H Q _ => ∃ v, vs = [v] ∧ IV K H v ∧ Q (.bl (asInt v).isSome) H
def inR (v : V) (lo hi : Int) : Bool := match asInt v with
  | some i => decide (lo ≤ i) && decide (i ≤ hi)
  | none => false
def spNumFrom (K : PySem.W.Frag) : Sp := fun vs H Q _ => ∃ v lo hi, vs = [v, .int lo, .int hi] ∧ IV K H v ∧ Q (.bl (inR v lo hi)) H
theorem bit_int {K : PySem.W.Frag} : PySem.W.kitOne K (.type "bool") (.type "int") = some true := kit_ty (by decide +kernel)
theorem bit_bool {K : PySem.W.Frag} : PySem.W.kitOne K (.type "bool") (.type "bool") = some true := kit_ty (by decide +kernel)
theorem int_int {K : PySem.W.Frag} : PySem.W.kitOne K (.type "int") (.type "int") = some true := kit_ty (by decide +kernel)
theorem int_bool {K : PySem.W.Frag} : PySem.W.kitOne K (.type "int") (.type "bool") = some false := kit_ty (by decide +kernel)
section
variable {P : Program} {w : World} {K : PySem.W.Frag} {mg : Str → Option Value} {base : Heap}
theorem sc_isInt : FnScope ["value"] ["value"] (defScope s_is_integer) := ⟨rfl, rfl, rfl, by decide +kernel, rfl, by decide +kernel, by decide +kernel⟩
theorem ok_isInt {f : Addr} {fd : FuncData} (F : Fun K "is_integer" "is_integer" s_is_integer f fd) (N : Nm mg) : FnOk P w K mg base CX0 1 f fd ["value"] (spIsInt K) := by
  refine F.ok sc_isInt (fun vs H Q E h => ?_) (fun cdv A outer s H vs Q E hr h => ?_)
  · obtain ⟨v, rfl, _⟩ := h
    rfl
  · obtain ⟨v, rfl, hv, k⟩ := h
    refine ⟨_, pss_one (ps_ret (pe_and (pe_callB call_isi (by rfl) N.isi boot_isinstance (pa_cons (pv 0) (pa_cons (pe_bltn (v := .ty "int") (by rfl) N.int (by decide +kernel) rfl) pa_nil)))
      (pe_one (pe_not (pe_callB call_isi (by rfl) N.isi boot_isinstance (pa_cons (pv 0) (pa_cons (pe_bltn (v := .ty "bool") (by rfl) N.bool (by decide +kernel) rfl) pa_nil))))))), ?_⟩
    rcases hv with ⟨i, rfl⟩ | hv
    · refine ⟨_, rfl, _, _, _, _, true, rfl, .ty _, .base (.int i), int_int, true, rfl, ?_⟩
      refine iteT ?_
      exact ⟨_, rfl, _, _, _, _, false, rfl, .ty _, .base (.int i), int_bool, false, rfl, k⟩
    · have ka : (asInt v).isSome = false := by rw [hv.as]; rfl
      rw [ka] at k
      rcases hv with ⟨b, rfl⟩ | ⟨n, t, kb⟩
      · refine ⟨_, rfl, _, _, _, _, true, rfl, .ty _, .base (.bl b), bit_int, true, rfl, ?_⟩
        refine iteT ?_
        exact ⟨_, rfl, _, _, _, _, true, rfl, .ty _, .base (.bl b), bit_bool, true, rfl, k⟩
      · refine ⟨_, rfl, _, _, _, _, false, rfl, .ty _, t, kit_ty kb, false, rfl, ?_⟩
        exact iteF k
theorem sc_num : FnScope ["value", "least", "greatest"] ["value", "least", "greatest"] (defScope s_is_number_from) := ⟨rfl, rfl, rfl, by decide +kernel, rfl, by decide +kernel, by decide +kernel⟩
theorem ok_num {f fI : Addr} {fd fdI : FuncData} (F : Fun K "is_number_from" "is_number_from" s_is_number_from f fd) (U : Use P w K mg base CX0 1 "is_integer" fI fdI ["value"] (spIsInt K)) : FnOk P w K mg base CX0 2 f fd ["value", "least", "greatest"] (spNumFrom K) := by
  refine F.ok sc_num (fun vs H Q E h => ?_) (fun cdv A outer s H vs Q E hr h => ?_)
  · obtain ⟨v, lo, hi, rfl, _⟩ := h
    rfl
  · obtain ⟨v, lo, hi, rfl, hv, k⟩ := h
    refine ⟨_, pss_one (ps_ret (pe_and (pe_use U hr rfl (pa_cons (pv 0) pa_nil)) (pe_one (pe_chain op_le op_le (pv 1) (pv 0) (pv 2))))), ?_⟩
    refine ⟨_, rfl, v, rfl, hv, _, rfl, ?_⟩
    rcases hv with ⟨i, rfl⟩ | hv
    · refine iteT ?_
      refine ⟨_, rfl, _, rfl, _, _, rfl, rfl, _, rfl, ?_⟩
      have e : inR (.int i) lo hi = (decide (lo ≤ i) && decide (i ≤ hi)) := rfl
      rw [e] at k
      refine ite2 (fun h => ?_) (fun h => ?_)
      · rw [h, Bool.true_and] at k
        exact ⟨_, rfl, _, _, rfl, rfl, k⟩
      · rw [Bool.eq_false_iff.mpr h, Bool.false_and] at k
        exact k
    · have e : inR v lo hi = false := by
        show (match asInt v with
          | some i => decide (lo ≤ i) && decide (i ≤ hi)
          | none => false) = false
        rw [hv.as]
      rw [e] at k
      rw [hv.as]
      exact iteF k
end
end TR

namespace TR
open PySem PySem.Spec PyProof.Rows L2 L2.TT
/-- any value as a pair: the items where it is a tuple of two -/
inductive PV (K : PySem.W.Frag) (H : Hp) : V → Option (V × V) → Prop where
  | two {a : Addr} {x y : V} (h : H a = some (.tup [x, y])) (hx : IV K H x) (hy : IV K H y) : PV K H (.ref a) (some (x, y))
  | tup {a : Addr} {xs : List V} (h : H a = some (.tup xs)) (hn : xs.length ≠ 2) : PV K H (.ref a) none
  | no {v : V} {n : String} (t : TyX K H v (.type n)) (kb : kitB n "tuple" = some false) : PV K H v none
def isPr (o : Option (V × V)) (n : Int) : Bool := match o with
  | some (x, y) => inR x 0 (n - 1) && inR y 0 (n - 1) && decide (asInt x ≠ asInt y)
  | none => false
def spPair (K : PySem.W.Frag) : Sp := fun vs H Q _ => ∃ v n o, vs = [v, .int n] ∧ PV K H v o ∧ Q (.bl (isPr o n)) H
theorem tup_tup {K : PySem.W.Frag} : PySem.W.kitOne K (.type "tuple") (.type "tuple") = some true := kit_ty (by decide +kernel)
theorem inR_int {v : V} {lo hi : Int} (h : inR v lo hi = true) : ∃ i, v = .int i ∧ lo ≤ i ∧ i ≤ hi := by
  unfold inR at h
  cases v with
  | int i =>
    have h2 : (decide (lo ≤ i) && decide (i ≤ hi)) = true := h
    rw [Bool.and_eq_true] at h2
    exact ⟨i, rfl, of_decide_eq_true h2.1, of_decide_eq_true h2.2⟩
  | _ => cases h
section
variable {P : Program} {w : World} {K : PySem.W.Frag} {mg : Str → Option Value} {base : Heap}
theorem sc_pair : FnScope ["value", "size", "one", "other"] ["value", "size"] (defScope s_is_pair_of_stations) := ⟨rfl, rfl, rfl, by decide +kernel, rfl, by decide +kernel, by decide +kernel⟩
theorem ok_pair {f fI : Addr} {fd fdI : FuncData} (F : Fun K "is_pair_of_stations" "is_pair_of_stations" s_is_pair_of_stations f fd) (N : Nm mg) (U : Use P w K mg base CX0 2 "is_number_from" fI fdI ["value", "least", "greatest"] (spNumFrom K)) : FnOk P w K mg base CX0 3 f fd ["value", "size"] (spPair K) := by
  refine F.ok sc_pair (fun vs H Q E h => ?_) (fun cdv A outer s H vs Q E hr h => ?_)
  · obtain ⟨v, n, o, rfl, _⟩ := h
    rfl
  · obtain ⟨v, n, o, rfl, hv, k⟩ := h
    refine ⟨_, pss_cons (ps_if (PW.pt (pw_or (pt_not (pt_val (pe_callB call_isi (by rfl) N.isi boot_isinstance (pa_cons (pv 0) (pa_cons (pe_bltn (v := .ty "tuple") (by rfl) N.tuple (by decide +kernel) rfl) pa_nil)))))
        (pw_or1 (pt_cmpR op_ne (pe_callB call_len_seq (by rfl) N.len PySem.boot_len (pa_cons (pv 0) pa_nil)) pe_int (nomark _))))) (pss_one (ps_ret pe_bl)) pss_nil)
      (pss_cons (ps_asg (pv 0) (pg_tup rfl (pgs_cons (pg_name (i := 2) sc_pair.nd rfl (.inl rfl)) (pgs_cons (pg_name (i := 3) sc_pair.nd rfl (.inl rfl)) pgs_nil))))
      (pss_cons (ps_if (PW.pt (pw_or (pt_not (pt_val (pe_use U hr rfl (pa_cons (pv 2) (pa_cons pe_int (pa_cons (pe_op op_sub (pv 1) pe_int) pa_nil))))))
        (pw_or1 (pt_not (pt_val (pe_use U hr rfl (pa_cons (pv 3) (pa_cons pe_int (pa_cons (pe_op op_sub (pv 1) pe_int) pa_nil))))))))) (pss_one (ps_ret pe_bl)) pss_nil)
      (pss_one (ps_ret (pe_cmpR op_ne (pv 2) (pv 3) (nomark _)))))), ?_⟩
    have hle : (2 : Nat) ≤ sizeLine := by rw [sizeLine_eq]; decide
    cases hv with
    | no t kb =>
      refine ⟨_, rfl, _, _, _, _, false, rfl, .ty _, t, kit_ty kb, false, rfl, ?_⟩
      refine iteT ?_
      refine iteT ?_
      exact k
    | @tup a xs h hn =>
      refine ⟨_, rfl, _, _, _, _, true, rfl, .ty _, .base (.tup h), tup_tup, true, rfl, ?_⟩
      refine iteF ?_
      refine ⟨_, rfl, _, _, rfl, .inr (SqT.of h), rfl, _, rfl, ?_⟩
      refine ite2 (fun _ => ?_) (fun z => ?_)
      · exact k
      · exfalso
        apply z
        show (!decide (V.int (xs.length : Nat) = V.int 2)) = true
        simp only [Bool.not_eq_true', decide_eq_false_iff_not, V.int.injEq]
        omega
    | two h hx hy =>
      refine ⟨_, rfl, _, _, _, _, true, rfl, .ty _, .base (.tup h), tup_tup, true, rfl, ?_⟩
      refine iteF ?_
      refine ⟨_, rfl, _, _, rfl, .inr (SqT.of h), rfl, _, rfl, ?_⟩
      refine iteF ?_
      refine ⟨_, rfl, _, _, rfl, SqT.of h, rfl, ?_⟩
      refine ⟨_, _, rfl, _, _, rfl, rfl, ?_⟩
      refine ⟨_, rfl, _, rfl, _, _, rfl, rfl, _, _, _, rfl, hx, _, rfl, ?_⟩
      rename_i a x y
      cases e1 : inR x 0 (n - 1) with
      | false =>
        have e : isPr (some (x, y)) n = false := by show (inR x 0 (n - 1) && inR y 0 (n - 1) && decide (asInt x ≠ asInt y)) = false; rw [e1]; rfl
        rw [e] at k
        refine iteT ?_
        refine iteT ?_
        exact k
      | true =>
        refine iteF ?_
        refine ⟨_, rfl, _, rfl, _, _, rfl, rfl, _, _, _, rfl, hy, _, rfl, ?_⟩
        cases e2 : inR y 0 (n - 1) with
        | false =>
          have e : isPr (some (x, y)) n = false := by show (inR x 0 (n - 1) && inR y 0 (n - 1) && decide (asInt x ≠ asInt y)) = false; rw [e1, e2]; rfl
          rw [e] at k
          refine iteT ?_
          exact k
        | true =>
          refine iteF ?_
          obtain ⟨i, rfl, _⟩ := inR_int e1
          obtain ⟨j, rfl, _⟩ := inR_int e2
          have e : isPr (some (.int i, .int j)) n = decide (¬ (V.int i = V.int j)) := by
            show (inR (.int i) 0 (n - 1) && inR (.int j) 0 (n - 1) && decide (asInt (.int i) ≠ asInt (.int j))) = _
            rw [e1, e2]
            simp [asInt]
          rw [e] at k
          refine ⟨_, rfl, _, rfl, rfl, ?_⟩
          have e3 : decide (¬ (V.int i = V.int j)) = !decide (V.int i = V.int j) := by simp
          rw [e3] at k
          exact k
end
end TR

/-! Trees given by a list of pairs: n pairs of stations up to n that connect all of them with 0. -/
namespace TR
abbrev E2 := Nat × Nat
def mx (e : E2) : Nat := max e.1 e.2
def mn (e : E2) : Nat := min e.1 e.2
def Adj (tr : List E2) (a b : Nat) : Prop := (a, b) ∈ tr ∨ (b, a) ∈ tr
theorem Adj.sym {tr : List E2} {a b : Nat} (h : Adj tr a b) : Adj tr b a := Or.symm h
/-- k steps from 0 -/
def WN (tr : List E2) : Nat → Nat → Prop
  | 0, v => v = 0
  | k + 1, v => ∃ u, WN tr k u ∧ Adj tr u v
structure TreeL (tr : List E2) : Prop where
  ne : ∀ e ∈ tr, e.1 ≠ e.2
  le : ∀ e ∈ tr, e.1 ≤ tr.length ∧ e.2 ≤ tr.length
  co : ∀ v, v ≤ tr.length → ∃ k, WN tr k v
theorem ex_min {P : Nat → Prop} : ∀ k, P k → ∃ m, P m ∧ ∀ j, j < m → ¬ P j := by
  intro k
  induction k using Nat.strongRecOn with
  | ind k ih =>
    intro h
    by_cases c : ∃ j, j < k ∧ P j
    · obtain ⟨j, hj, hp⟩ := c
      exact ih j hj hp
    · exact ⟨k, h, fun j hj hp => c ⟨j, hj, hp⟩⟩
theorem wn_min {tr : List E2} {v : Nat} (h : ∃ k, WN tr k v) : ∃ m, WN tr m v ∧ ∀ j, j < m → ¬ WN tr j v := h.elim fun k hk => ex_min k hk
noncomputable def dep (tr : List E2) (v : Nat) : Nat := open Classical in if h : ∃ k, WN tr k v then (wn_min h).choose else 1
theorem mn_lt {e : E2} (h : e.1 ≠ e.2) : mn e < mx e := by
  unfold mn mx
  omega
theorem ends (e : E2) : (e.1 = mx e ∧ e.2 = mn e) ∨ (e.1 = mn e ∧ e.2 = mx e) := by
  unfold mn mx
  omega
theorem dep_spec {tr : List E2} {v : Nat} (h : ∃ k, WN tr k v) : WN tr (dep tr v) v ∧ ∀ j, j < dep tr v → ¬ WN tr j v := by
  unfold dep
  rw [dif_pos h]
  exact (wn_min h).choose_spec
theorem dep_min {tr : List E2} {v k : Nat} (h : WN tr k v) : dep tr v ≤ k := by
  refine Nat.le_of_not_lt fun z => ?_
  exact (dep_spec ⟨k, h⟩).2 k z h
theorem dep_zero {tr : List E2} : dep tr 0 = 0 := by
  have := dep_min (tr := tr) (v := 0) (k := 0) rfl
  omega
theorem dep_par {tr : List E2} {v : Nat} (h : ∃ k, WN tr k v) (hv : 0 < v) : ∃ u, Adj tr u v ∧ dep tr v = dep tr u + 1 := by
  obtain ⟨h1, h2⟩ := dep_spec h
  cases e : dep tr v with
  | zero =>
    rw [e] at h1
    have : v = 0 := h1
    omega
  | succ k =>
    rw [e] at h1
    obtain ⟨u, hu, ha⟩ := h1
    refine ⟨u, ha, ?_⟩
    have a1 := dep_min hu
    have a2 := dep_min (tr := tr) (v := v) (k := dep tr u + 1) ⟨u, (dep_spec ⟨k, hu⟩).1, ha⟩
    omega
noncomputable def par (tr : List E2) (v : Nat) : Nat := open Classical in if h : ∃ u, Adj tr u v ∧ dep tr v = dep tr u + 1 then h.choose else 0
theorem par_spec {tr : List E2} {v : Nat} (h : ∃ k, WN tr k v) (hv : 0 < v) : Adj tr (par tr v) v ∧ dep tr v = dep tr (par tr v) + 1 := by
  unfold par
  rw [dif_pos (dep_par h hv)]
  exact (dep_par h hv).choose_spec
/-- injective on a list, into as many: all are met -/
theorem hit_all {n : Nat} {f : Nat → Nat} (hf : ∀ v, 1 ≤ v → v ≤ n → f v < n) (inj : ∀ v w, 1 ≤ v → v ≤ n → 1 ≤ w → w ≤ n → f v = f w → v = w) {i : Nat} (hi : i < n) : ∃ v, 1 ≤ v ∧ v ≤ n ∧ f v = i := by
  have hn : ((List.range' 1 n).map f).Nodup := by
    have h0 : (List.range' 1 n).Nodup := List.nodup_range' (step := 1) (h := by decide)
    refine List.Pairwise.map f (R := fun a b => (1 ≤ a ∧ a ≤ n) ∧ (1 ≤ b ∧ b ≤ n) ∧ a ≠ b) (fun a b h => fun z => h.2.2 (inj a b h.1.1 h.1.2 h.2.1.1 h.2.1.2 z)) ?_
    refine List.Pairwise.imp_of_mem (R := fun a b => a ≠ b) (fun {a b} ha hb hab => ?_) h0
    rw [List.mem_range'] at ha hb
    obtain ⟨x, hx, rfl⟩ := ha
    obtain ⟨y, hy, rfl⟩ := hb
    exact ⟨⟨by omega, by omega⟩, ⟨by omega, by omega⟩, hab⟩
  have hs : (List.range' 1 n).map f ⊆ List.range n := by
    intro x hx
    obtain ⟨a, ha, rfl⟩ := List.mem_map.mp hx
    rw [List.mem_range'] at ha
    obtain ⟨j, hj, rfl⟩ := ha
    exact List.mem_range.mpr (hf _ (by omega) (by omega))
  by_cases c : i ∈ (List.range' 1 n).map f
  · obtain ⟨a, ha, e⟩ := List.mem_map.mp c
    rw [List.mem_range'] at ha
    obtain ⟨j, hj, rfl⟩ := ha
    exact ⟨_, by omega, by omega, e⟩
  · exfalso
    have h2 : (i :: (List.range' 1 n).map f).Nodup := List.nodup_cons.mpr ⟨c, hn⟩
    have h3 : (i :: (List.range' 1 n).map f) ⊆ List.range n := by
      intro x hx
      rcases List.mem_cons.mp hx with rfl | hx
      · exact List.mem_range.mpr hi
      · exact hs hx
    have := h2.length_le_of_subset h3
    simp at this
    omega
namespace TreeL
variable {tr : List E2}
theorem lt1 (T : TreeL tr) {e : E2} (h : e ∈ tr) : e.1 < tr.length + 1 ∧ e.2 < tr.length + 1 := by
  have := T.le e h
  omega
theorem adj_le (T : TreeL tr) {a b : Nat} (h : Adj tr a b) : a ≤ tr.length ∧ b ≤ tr.length := by
  rcases h with h | h
  · exact T.le _ h
  · exact (T.le _ h).symm
theorem adj_ne (T : TreeL tr) {a b : Nat} (h : Adj tr a b) : a ≠ b := by
  rcases h with h | h
  · exact T.ne _ h
  · exact fun z => T.ne _ h z.symm
theorem par_le (T : TreeL tr) (y : Nat) : par tr y ≤ tr.length := by
  by_cases h : ∃ u, Adj tr u y ∧ dep tr y = dep tr u + 1
  · have e : par tr y = h.choose := by
      unfold par
      rw [dif_pos h]
    rw [e]
    exact (T.adj_le h.choose_spec.1).1
  · have e : par tr y = 0 := by
      unfold par
      rw [dif_neg h]
    omega
end TreeL
theorem wn_le {tr : List E2} (T : TreeL tr) : ∀ {k v : Nat}, WN tr k v → v ≤ tr.length
  | 0, v, h => by
    have : v = 0 := h
    omega
  | k + 1, v, ⟨u, _, h⟩ => (T.adj_le h).2
theorem dep_succ {tr : List E2} (T : TreeL tr) {y : Nat} (h : 0 < y) : dep tr y = dep tr (par tr y) + 1 := by
  by_cases c : ∃ k, WN tr k y
  · exact (par_spec c h).2
  · have e : par tr y = 0 := by
      unfold par
      rw [dif_neg]
      rintro ⟨u, hu, _⟩
      exact c (T.co y (T.adj_le hu).2)
    rw [e, dep_zero]
    unfold dep
    rw [dif_neg c]
theorem par_adj {tr : List E2} (T : TreeL tr) {y : Nat} (h : 0 < y) (hl : y ≤ tr.length) : Adj tr y (par tr y) := (par_spec (T.co y hl) h).1.sym
theorem par_dep {tr : List E2} (T : TreeL tr) {y : Nat} (h : 0 < y) : dep tr (par tr y) < dep tr y := by
  have := dep_succ T h
  omega
/-- each track is that of one station to its parent -/
theorem edge_of {tr : List E2} (T : TreeL tr) : ∃ f : Nat → Nat, (∀ v, 1 ≤ v → v ≤ tr.length → tr[f v]? = some (v, par tr v) ∨ tr[f v]? = some (par tr v, v)) ∧ (∀ i, i < tr.length → ∃ v, 1 ≤ v ∧ v ≤ tr.length ∧ f v = i) := by
  have key : ∀ v, ∃ i, 1 ≤ v → v ≤ tr.length → tr[i]? = some (v, par tr v) ∨ tr[i]? = some (par tr v, v) := fun v => by
    by_cases c : 1 ≤ v ∧ v ≤ tr.length
    · rcases par_adj T (y := v) c.1 c.2 with h | h
      · obtain ⟨i, hi⟩ := List.mem_iff_getElem?.mp h
        exact ⟨i, fun _ _ => .inl hi⟩
      · obtain ⟨i, hi⟩ := List.mem_iff_getElem?.mp h
        exact ⟨i, fun _ _ => .inr hi⟩
    · exact ⟨0, fun h1 h2 => absurd ⟨h1, h2⟩ c⟩
  refine ⟨fun v => (key v).choose, fun v h1 h2 => (key v).choose_spec h1 h2, ?_⟩
  have hk : ∀ v, 1 ≤ v → v ≤ tr.length → tr[(key v).choose]? = some (v, par tr v) ∨ tr[(key v).choose]? = some (par tr v, v) := fun v h1 h2 => (key v).choose_spec h1 h2
  intro i hi
  refine hit_all (fun v h1 h2 => ?_) (fun v w h1 h2 h3 h4 e => ?_) hi
  · rcases hk v h1 h2 with h | h
    · exact (List.getElem?_eq_some_iff.mp h).1
    · exact (List.getElem?_eq_some_iff.mp h).1
  · have hv := hk v h1 h2
    have hw := hk w h3 h4
    rw [e] at hv
    have d1 := par_dep T (y := v) h1
    have d2 := par_dep T (y := w) h3
    have cross : v = par tr w → par tr v = w → v = w := fun a b => by
      rw [← a] at d2
      rw [b] at d1
      omega
    rcases hv with hv | hv <;> rcases hw with hw | hw <;> rw [hv] at hw <;> have q := Option.some.inj hw
    · exact congrArg Prod.fst q
    · exact cross (congrArg Prod.fst q) (congrArg Prod.snd q)
    · exact cross (congrArg Prod.snd q) (congrArg Prod.fst q)
    · exact congrArg Prod.snd q
/-- the end of a track that is farther from 0, and the other one -/
noncomputable def ch (tr : List E2) (e : E2) : Nat := if dep tr e.1 < dep tr e.2 then e.2 else e.1
noncomputable def pa (tr : List E2) (e : E2) : Nat := if dep tr e.1 < dep tr e.2 then e.1 else e.2
theorem cp (tr : List E2) (e : E2) : (e.1 = ch tr e ∧ e.2 = pa tr e) ∨ (e.1 = pa tr e ∧ e.2 = ch tr e) := by
  unfold ch pa
  split
  · exact .inr ⟨rfl, rfl⟩
  · exact .inl ⟨rfl, rfl⟩
namespace TreeL
variable {tr : List E2}
theorem ch_bd (T : TreeL tr) {e : E2} (h : e ∈ tr) : 1 ≤ ch tr e ∧ ch tr e ≤ tr.length ∧ par tr (ch tr e) = pa tr e := by
  obtain ⟨f, h1, h2⟩ := edge_of T
  obtain ⟨i, hi⟩ := List.mem_iff_getElem?.mp h
  obtain ⟨v, v1, v2, rfl⟩ := h2 i (List.getElem?_eq_some_iff.mp hi).1
  have d := par_dep T (y := v) v1
  have hv := h1 v v1 v2
  rw [hi] at hv
  unfold ch pa
  rcases hv with hv | hv
  · have q := Option.some.inj hv
    subst q
    rw [if_neg (by simp only; omega), if_neg (by simp only; omega)]
    exact ⟨v1, v2, rfl⟩
  · have q := Option.some.inj hv
    subst q
    rw [if_pos (by simp only; omega), if_pos (by simp only; omega)]
    exact ⟨v1, v2, rfl⟩
theorem ch_inj (T : TreeL tr) {i j : Nat} {e d : E2} (hi : tr[i]? = some e) (hj : tr[j]? = some d) (h : ch tr e = ch tr d) : i = j := by
  obtain ⟨f, h1, h2⟩ := edge_of T
  have key : ∀ {i : Nat} {e : E2}, tr[i]? = some e → i = f (ch tr e) := fun {i e} hi => by
    obtain ⟨v, v1, v2, rfl⟩ := h2 i (List.getElem?_eq_some_iff.mp hi).1
    have d := par_dep T (y := v) v1
    have hv := h1 v v1 v2
    rw [hi] at hv
    have : ch tr e = v := by
      unfold ch
      rcases hv with hv | hv
      · have q := Option.some.inj hv
        subst q
        rw [if_neg (by simp only; omega)]
      · have q := Option.some.inj hv
        subst q
        rw [if_pos (by simp only; omega)]
    rw [this]
  rw [key hi, key hj, h]
theorem nd (T : TreeL tr) : (tr.map (ch tr)).Nodup := by
  refine List.pairwise_iff_getElem.mpr fun i j hi hj hij z => ?_
  rw [List.length_map] at hi hj
  rw [List.getElem_map, List.getElem_map] at z
  have := T.ch_inj (List.getElem?_eq_getElem hi) (List.getElem?_eq_getElem hj) z
  omega
end TreeL
theorem adj_par {tr : List E2} (T : TreeL tr) {v w : Nat} (h : Adj tr v w) : (0 < v ∧ w = par tr v ∧ v ≤ tr.length) ∨ (0 < w ∧ v = par tr w ∧ w ≤ tr.length) := by
  have key : ∀ e : E2, e ∈ tr → (0 < e.1 ∧ e.2 = par tr e.1 ∧ e.1 ≤ tr.length) ∨ (0 < e.2 ∧ e.1 = par tr e.2 ∧ e.2 ≤ tr.length) := fun e he => by
    obtain ⟨b1, b2, b3⟩ := T.ch_bd he
    rcases cp tr e with ⟨e1, e2⟩ | ⟨e1, e2⟩
    · exact .inl ⟨by omega, by rw [e1, b3, e2], by omega⟩
    · exact .inr ⟨by omega, by rw [e2, b3, e1], by omega⟩
  rcases h with h | h
  · exact key _ h
  · exact (key _ h).symm
/-- a lies behind y, or is it -/
inductive Desc (p : Nat → Nat) (y : Nat) : Nat → Prop
  | self : Desc p y y
  | up {a : Nat} (h : 0 < a) (d : Desc p y (p a)) : Desc p y a
theorem Desc.step {p : Nat → Nat} {y a : Nat} (h : 0 < a) (ne : a ≠ y) : Desc p y a ↔ Desc p y (p a) := by
  constructor
  · intro d
    cases d with
    | self => exact absurd rfl ne
    | up _ d => exact d
  · exact fun d => .up h d
theorem Desc.dep {tr : List E2} (T : TreeL tr) {y a : Nat} (d : Desc (par tr) y a) : TR.dep tr y ≤ TR.dep tr a := by
  induction d with
  | self => exact Nat.le_refl _
  | up h _ ih => exact Nat.le_trans ih (Nat.le_of_lt (par_dep T h))
/-- what the groups of stations say when the first i tracks are joined -/
def GI (tr : List E2) (i : Nat) (gs : List Nat) : Prop :=
  gs.length = tr.length + 1 ∧ ∀ j e, i ≤ j → tr[j]? = some e → ∀ a b x : Nat, gs[a]? = some x → gs[b]? = some x → (Desc (par tr) (ch tr e) a ↔ Desc (par tr) (ch tr e) b)
theorem GI.start (tr : List E2) : GI tr 0 (List.range (tr.length + 1)) := by
  refine ⟨by simp, fun j e _ _ a b x ha hb => ?_⟩
  have h1 : a = x := by
    have := List.getElem?_eq_some_iff.mp ha
    obtain ⟨_, q⟩ := this
    simpa using q
  have h2 : b = x := by
    have := List.getElem?_eq_some_iff.mp hb
    obtain ⟨_, q⟩ := this
    simpa using q
  rw [h1, h2]
theorem GI.ne {tr : List E2} (T : TreeL tr) {i : Nat} {gs : List Nat} (g : GI tr i gs) {e : E2} (he : tr[i]? = some e) {x y : Nat} (h1 : gs[e.1]? = some x) (h2 : gs[e.2]? = some y) : x ≠ y := by
  rintro rfl
  have hm := List.mem_of_getElem? he
  have q := g.2 i e (Nat.le_refl _) he e.1 e.2 x h1 h2
  obtain ⟨b1, b2, b3⟩ := T.ch_bd hm
  have no : ¬ Desc (par tr) (ch tr e) (pa tr e) := fun d => by
    have := Desc.dep T d
    have := par_dep T (y := ch tr e) b1
    rw [b3] at this
    omega
  rcases cp tr e with ⟨e1, e2⟩ | ⟨e1, e2⟩
  · rw [e2] at q
    rw [e1] at q
    exact no (q.mp .self)
  · rw [e1, e2] at q
    exact no (q.mpr .self)
def join (gs : List Nat) (x y : Nat) : List Nat := gs.map fun g => if g = y then x else g
theorem join_get {gs : List Nat} {x y c z : Nat} (h : (join gs x y)[c]? = some z) : ∃ u, gs[c]? = some u ∧ (if u = y then x else u) = z := by
  rw [join, List.getElem?_map] at h
  cases e0 : gs[c]? with
  | none =>
    rw [e0] at h
    cases h
  | some u =>
    rw [e0] at h
    exact ⟨u, rfl, Option.some.inj h⟩
theorem GI.next {tr : List E2} (T : TreeL tr) {i : Nat} {gs : List Nat} (g : GI tr i gs) {e : E2} (he : tr[i]? = some e) {x y : Nat} (h1 : gs[e.1]? = some x) (h2 : gs[e.2]? = some y) : GI tr (i + 1) (join gs x y) := by
  refine ⟨by rw [join, List.length_map]; exact g.1, fun j e' hj he' a b z ha hb => ?_⟩
  have hm := List.mem_of_getElem? he
  have old := g.2 j e' (by omega) he'
  obtain ⟨b1, b2, b3⟩ := T.ch_bd hm
  have ne : ch tr e ≠ ch tr e' := by
    intro q
    have := T.ch_inj he he' q
    omega
  have link : Desc (par tr) (ch tr e') e.1 ↔ Desc (par tr) (ch tr e') e.2 := by
    have s := Desc.step (p := par tr) (y := ch tr e') (a := ch tr e) (by omega) ne
    rw [b3] at s
    rcases cp tr e with ⟨e1, e2⟩ | ⟨e1, e2⟩
    · rw [e1, e2]
      exact s
    · rw [e1, e2]
      exact s.symm
  obtain ⟨u, gu, eu⟩ := join_get ha
  obtain ⟨v, gv, ev⟩ := join_get hb
  by_cases c1 : u = y
  · by_cases c2 : v = y
    · exact old a b y (c1 ▸ gu) (c2 ▸ gv)
    · rw [if_pos c1] at eu
      rw [if_neg c2] at ev
      have w1 := old a e.2 y (c1 ▸ gu) h2
      have w2 := old b e.1 x (by rw [gv, ev, eu]) h1
      exact w1.trans (link.symm.trans w2.symm)
  · by_cases c2 : v = y
    · rw [if_neg c1] at eu
      rw [if_pos c2] at ev
      have w1 := old b e.2 y (c2 ▸ gv) h2
      have w2 := old a e.1 x (by rw [gu, eu, ev]) h1
      exact w2.trans (link.trans w1.symm)
    · rw [if_neg c1] at eu
      rw [if_neg c2] at ev
      exact old a b z (by rw [gu, eu]) (by rw [gv, ev])
end TR

namespace TR
open PySem PySem.Spec PyProof.Rows L2 L2.TT
abbrev iv (n : Nat) : V := .int (n : Int)
theorem iv_inj {a b : Nat} : (iv a = iv b) ↔ a = b := by
  show (V.int (a : Int) = V.int (b : Int)) ↔ a = b
  rw [V.int.injEq]
  omega
theorem map_get {α β : Type} {f : α → β} {l : List α} {i : Nat} {x : α} (h : l[i]? = some x) : (l.map f)[i]? = some (f x) := by rw [List.getElem?_map, h]; rfl
theorem map_got {α β : Type} {f : α → β} {l : List α} {i : Nat} {y : β} (h : (l.map f)[i]? = some y) : ∃ x, l[i]? = some x ∧ f x = y := by
  rw [List.getElem?_map] at h
  cases e : l[i]? with
  | none => rw [e] at h; cases h
  | some x => rw [e] at h; exact ⟨x, rfl, Option.some.inj h⟩
theorem atN {xs : List V} {n : Nat} {v : V} (h : xs[n]? = some v) : atI xs (n : Int) = some v := atI_nat h
theorem take_snoc {α : Type} {l : List α} {i : Nat} {x : α} (h : l[i]? = some x) : l.take (i + 1) = l.take i ++ [x] := by
  rw [List.take_succ, h]
  rfl
/-- the tracks stand in the heap as tuples -/
def Prs (H : Hp) (ps : List Addr) (tr : List E2) : Prop := ps.length = tr.length ∧ ∀ (i : Nat) (p : Addr) (e : E2), ps[i]? = some p → tr[i]? = some e → H p = some (.tup [iv e.1, iv e.2])
theorem Prs.same {H H' : Hp} {ps : List Addr} {tr : List E2} (h : Prs H ps tr) (s : Same H H') : Prs H' ps tr := ⟨h.1, fun i p e a b => s _ _ (h.2 i p e a b)⟩
theorem Prs.get {H : Hp} {ps : List Addr} {tr : List E2} (h : Prs H ps tr) {i : Nat} {v : V} (e : (ps.map V.ref)[i]? = some v) : ∃ p e, v = .ref p ∧ ps[i]? = some p ∧ tr[i]? = some e ∧ H p = some (.tup [iv e.1, iv e.2]) := by
  obtain ⟨p, hp, rfl⟩ := map_got e
  have hl := (List.getElem?_eq_some_iff.mp hp).1
  rw [h.1] at hl
  exact ⟨p, tr[i], rfl, hp, List.getElem?_eq_getElem hl, h.2 i p _ hp (List.getElem?_eq_getElem hl)⟩
theorem _root_.L2.Same.tp {K : PySem.W.Frag} {H H' : Hp} {a : Addr} {xs : List V} (e : Same H H') (h : SqT K H a xs) : SqT K H' a xs := by
  rcases h with (h | ⟨o, h⟩) | h
  · exact .inl (.inl (e _ _ h))
  · exact .inl (.inr ⟨o, e _ _ h⟩)
  · exact .inr h
theorem rgV_iv (n : Nat) : rgV 0 ((n : Int) + 1) = (List.range (n + 1)).map iv := by
  unfold rgV
  have e : ((n : Int) + 1 - 0).toNat = n + 1 := by omega
  rw [e]
  refine List.map_congr_left fun i _ => ?_
  show V.int (0 + (i : Int)) = V.int (i : Int)
  rw [Int.zero_add]
theorem same_upd {H : Hp} {p : Addr} (h : H p = none) (o : HO) : Same H (upd H p o) := fun b u e => by rw [upd_ne (ne_of_none e h)]; exact e
theorem isPr_ok {x y n : Nat} (hx : x < n) (hy : y < n) (ne : x ≠ y) : isPr (some (iv x, iv y)) (n : Int) = true := by
  show (inR (iv x) 0 ((n : Int) - 1) && inR (iv y) 0 ((n : Int) - 1) && decide (asInt (iv x) ≠ asInt (iv y))) = true
  have h1 : inR (iv x) 0 ((n : Int) - 1) = true := by
    show (decide ((0 : Int) ≤ (x : Int)) && decide ((x : Int) ≤ (n : Int) - 1)) = true
    rw [Bool.and_eq_true]
    exact ⟨decide_eq_true (by omega), decide_eq_true (by omega)⟩
  have h2 : inR (iv y) 0 ((n : Int) - 1) = true := by
    show (decide ((0 : Int) ≤ (y : Int)) && decide ((y : Int) ≤ (n : Int) - 1)) = true
    rw [Bool.and_eq_true]
    exact ⟨decide_eq_true (by omega), decide_eq_true (by omega)⟩
  rw [h1, h2]
  have h3 : asInt (iv x) ≠ asInt (iv y) := fun z => ne (by
    have z2 : some (x : Int) = some (y : Int) := z
    have := Option.some.inj z2
    omega)
  simp [h3]
def spJoin (K : PySem.W.Frag) : Sp := fun vs H Q _ => ∃ (a : Addr) (gs : List Nat) (o t x y : Nat), vs = [.ref a, iv o, iv t] ∧ SqL K H a (gs.map iv) ∧ gs.length ≤ 1000 ∧ gs[o]? = some x ∧ gs[t]? = some y ∧ ∀ p, H p = none → Q (.ref p) (upd H p (.lst ((join gs x y).map iv)))
theorem iteT' {c : Bool} {A B : Prop} (hc : c = true) (h : A) : if c = true then A else B := by
  rw [if_pos hc]
  exact h
theorem iteF' {c : Bool} {A B : Prop} (hc : c = false) (h : B) : if c = true then A else B := by
  rw [hc]
  exact iteF h
theorem ix_K {X : Cx} {K : PySem.W.Frag} (h : X.K = K) : IxR X (rIxL K) := by
  subst h
  exact ix_list
section
variable {P : Program} {w : World} {K : PySem.W.Frag} {mg : Str → Option Value} {base : Heap}
theorem sc_join : FnScope ["groups", "one", "other", "group"] ["groups", "one", "other"] (defScope s_joined) := ⟨rfl, rfl, rfl, by decide +kernel, rfl, by decide +kernel, by decide +kernel⟩
theorem ok_join {f : Addr} {fd : FuncData} (F : Fun K "joined" "joined" s_joined f fd) : FnOk P w K mg base CX0 1 f fd ["groups", "one", "other"] (spJoin K) := by
  refine F.ok sc_join (fun vs H Q E h => ?_) (fun cdv A outer s H vs Q E hr h => ?_)
  · obtain ⟨a, gs, o, t, x, y, rfl, _⟩ := h
    rfl
  · obtain ⟨a, gs, o, t, x, y, rfl, hS, hl, ho, ht, k⟩ := h
    refine ⟨_, pss_one (ps_ret (pe_lc (own := [("group", 3)]) (g := gName 3) (tt := tYes) rfl sc_join.nd (pi_list (pv 0)) (blkOk_by (N := ["groups", "one", "other", "group"]) (sc := defScope s_joined) (by decide +kernel))
      (fun _ _ _ _ _ => pg_name (i := 3) sc_join.nd rfl (Or.inl rfl)) (fun _ _ _ _ _ => pts_nil)
      (fun _ _ _ _ _ => pe_ifExp (pt_cmpR op_eq (pv 3) (pe_ix (ix_K (K := K) rfl) (pv 0) (pv 2) (fun _ _ => rfl)) (nomark _)) (pe_ix (ix_K (K := K) rfl) (pv 0) (pv 1) (fun _ _ => rfl)) (pv 3)))), ?_⟩
    refine ⟨_, rfl, a, rfl, ⟨_, hS⟩, fun D nD => ?_⟩
    have sD : ∀ o, Same H (upd H D o) := fun o b u e => by rw [upd_ne (ne_of_none e nD)]; exact e
    refine lc_list (K := K) (a := a) (xs := gs.map iv) (fun i H' => H' = upd H D (.lst (((join gs x y).take i).map iv))) (by simp) (fun i H' _ e => by rw [e]; exact (sD _).seq hS) (fun i v H' hv e => ?_) fun H' e => ?_
    · obtain ⟨g, hg, rfl⟩ := map_got hv
      subst e
      have hS1 := (sD (.lst (((join gs x y).take i).map iv))).seq hS
      have hD := upd_same (H := H) (a := D) (o := .lst (((join gs x y).take i).map iv))
      have hj : (join gs x y)[i]? = some (if g = y then x else g) := map_get hg
      have hlen : (((join gs x y).take i).map iv).length < sizeLine := by
        rw [List.length_map, List.length_take, sizeLine_eq, join, List.length_map]
        omega
      refine ⟨rfl, ?_⟩
      refine ⟨_, rfl, _, rfl, _, rfl, a, _, _, _, rfl, rfl, hS1, atN (map_get ht), rfl, _, rfl, ?_⟩
      by_cases c : g = y
      · rw [if_pos c] at hj
        subst c
        refine iteT' (decide_eq_true rfl) ?_
        refine ⟨_, rfl, _, rfl, a, _, _, _, rfl, rfl, hS1, atN (map_get ho), _, hD, hlen, ?_⟩
        rw [upd_upd, take_snoc hj, List.map_append]
        rfl
      · rw [if_neg c] at hj
        refine iteF' (decide_eq_false fun z => c (iv_inj.mp z)) ?_
        refine ⟨_, rfl, _, hD, hlen, ?_⟩
        rw [upd_upd, take_snoc hj, List.map_append]
        rfl
    · subst e
      have e : (join gs x y).take (gs.map iv).length = join gs x y := List.take_of_length_le (by rw [join]; simp)
      rw [e]
      exact k D nD
def spFirst (K : PySem.W.Frag) : Sp := fun vs H Q _ => ∃ (a : Addr) (ps : List Addr) (tr : List E2), vs = [.ref a] ∧ SqT K H a (ps.map V.ref) ∧ Prs H ps tr ∧ TreeL tr ∧ tr.length ≤ 999 ∧ ∀ H', Same H H' → Q .non H'
theorem sc_first : FnScope ["tracks", "size", "groups", "index", "track", "one", "other"] ["tracks"] (defScope s_first_wrong_track) := ⟨rfl, rfl, rfl, by decide +kernel, rfl, by decide +kernel, by decide +kernel⟩
theorem ok_first {f fP fJ : Addr} {fd fdP fdJ : FuncData} (F : Fun K "first_wrong_track" "first_wrong_track" s_first_wrong_track f fd) (N : Nm mg)
    (UP : Use P w K mg base CX0 3 "is_pair_of_stations" fP fdP ["value", "size"] (spPair K)) (UJ : Use P w K mg base CX0 1 "joined" fJ fdJ ["groups", "one", "other"] (spJoin K)) : FnOk P w K mg base CX0 4 f fd ["tracks"] (spFirst K) := by
  refine F.ok sc_first (fun vs H Q E h => ?_) (fun cdv A outer s H vs Q E hr h => ?_)
  · obtain ⟨a, ps, tr, rfl, _⟩ := h
    rfl
  · obtain ⟨a, ps, tr, rfl, hS, hP, T, hl, k⟩ := h
    refine ⟨_, pss_cons (ps_set (i := 1) sc_first.nd rfl (.inl rfl) (pe_op op_add (pe_callB call_len_seq (by rfl) N.len PySem.boot_len (pa_cons (pv 0) pa_nil)) pe_int))
      (pss_cons (ps_set (i := 2) sc_first.nd rfl (.inl rfl) (pe_listRg rfl (by rfl) N.list (prg_1 (by rfl) N.range (pv 1))))
      (pss_cons (ps_for PassesOwn.never rfl (pi_enumT (by rfl) N.enum (pa_cons (pv 0) pa_nil)) (pg_tup rfl (pgs_cons (pg_name (i := 3) sc_first.nd rfl (.inl rfl)) (pgs_cons (pg_name (i := 4) sc_first.nd rfl (.inl rfl)) pgs_nil)))
        (pss_cons (ps_if (pt_not (pt_val (pe_use UP hr rfl (pa_cons (pv 4) (pa_cons (pv 1) pa_nil))))) (pss_one (ps_ret (pv 3))) pss_nil)
        (pss_cons (ps_asg (pv 4) (pg_tup rfl (pgs_cons (pg_name (i := 5) sc_first.nd rfl (.inl rfl)) (pgs_cons (pg_name (i := 6) sc_first.nd rfl (.inl rfl)) pgs_nil))))
        (pss_cons (ps_if (pt_cmpR op_eq (pe_ix ix_list (pv 2) (pv 5) (fun _ _ => rfl)) (pe_ix ix_list (pv 2) (pv 6) (fun _ _ => rfl)) (nomark _)) (pss_one (ps_ret (pv 3))) pss_nil)
        (pss_one (ps_set (i := 2) sc_first.nd rfl (.inl rfl) (pe_use UJ (hr.mono (by decide)) rfl (pa_cons (pv 2) (pa_cons (pv 5) (pa_cons (pv 6) pa_nil))))))))))
      (pss_one (ps_ret pe_non)))), ?_⟩
    have lp : (ps.map V.ref).length = tr.length := by rw [List.length_map, hP.1]
    refine ⟨_, rfl, a, _, rfl, .inr hS, _, _, rfl, rfl, ?_⟩
    refine ⟨_, rfl, _, rfl, ?_⟩
    refine ⟨RgOk.of_le (by decide) (by rw [lp]; omega) (by decide) (by omega), fun g0 ng => ?_⟩
    have s0 := same_upd ng (.lst (rgV 0 (((ps.map V.ref).length : Int) + 1)))
    have e0 : rgV 0 (((ps.map V.ref).length : Int) + 1) = (List.range (tr.length + 1)).map iv := by rw [lp, rgV_iv]
    have hg0 : upd H g0 (.lst (rgV 0 (((ps.map V.ref).length : Int) + 1))) g0 = some (.lst ((List.range (tr.length + 1)).map iv)) := by rw [← e0]; exact upd_same
    refine ⟨_, rfl, a, _, rfl, s0.tp hS, for_enumT (K := K) (a := a) (xs := ps.map V.ref) (fun i σ H' => ∃ (gs : List Nat) (g : Addr) (x3 x4 x5 x6 : Option V), σ = [some (.ref a), some (.int (((ps.map V.ref).length : Int) + 1)), some (.ref g), x3, x4, x5, x6] ∧ Same H H' ∧ H' g = some (.lst (gs.map iv)) ∧ GI tr i gs)
      ⟨List.range (tr.length + 1), g0, none, none, none, none, rfl, s0, hg0, GI.start tr⟩ (fun i σ H' _ ⟨_, _, _, _, _, _, _, s1, _⟩ => s1.tp hS) ?_ ?_⟩
    · rintro i v T0 σ H' hv ⟨gs, g, x3, x4, x5, x6, rfl, s1, hg, G⟩ nT
      obtain ⟨p, e, rfl, hp, he, hH⟩ := hP.get hv
      have hm := List.mem_of_getElem? he
      have sT := same_upd nT (.tup [V.int (i : Nat), V.ref p])
      have hT := upd_same (H := H') (a := T0) (o := .tup [V.int (i : Nat), V.ref p])
      have s2 := s1.trans sT
      have hg2 := sT _ _ hg
      have hH2 := s2 _ _ hH
      generalize upd H' T0 (.tup [V.int (i : Nat), V.ref p]) = H2 at sT hT s2 hg2 hH2
      have b1 := T.lt1 hm
      obtain ⟨x, hx⟩ : ∃ x, gs[e.1]? = some x := ⟨_, List.getElem?_eq_getElem (by rw [G.1]; exact b1.1)⟩
      obtain ⟨y, hy⟩ : ∃ y, gs[e.2]? = some y := ⟨_, List.getElem?_eq_getElem (by rw [G.1]; exact b1.2)⟩
      have nxy := G.ne T he hx hy
      refine ⟨T0, _, rfl, SqT.of hT, rfl, ?_⟩
      refine ⟨_, _, rfl, _, _, rfl, rfl, ?_⟩
      -- if not is_pair_of_stations(track, size)
      refine ⟨_, rfl, _, rfl, _, _, _, rfl, .two hH2 (.inl ⟨_, rfl⟩) (.inl ⟨_, rfl⟩), _, rfl, ?_⟩
      rw [lp]
      rw [show isPr (some (iv e.1, iv e.2)) ((tr.length : Int) + 1) = true from isPr_ok (n := tr.length + 1) b1.1 b1.2 (T.ne e hm)]
      refine iteF ?_
      -- one, other = track
      refine ⟨_, rfl, p, _, rfl, SqT.of hH2, rfl, ?_⟩
      refine ⟨_, _, rfl, _, _, rfl, rfl, ?_⟩
      -- if groups[one] == groups[other]
      refine ⟨_, rfl, _, rfl, g, _, _, _, rfl, rfl, SqL.of hg2, atN (map_get hx), _, rfl, _, rfl, g, _, _, _, rfl, rfl, SqL.of hg2, atN (map_get hy), rfl, _, rfl, ?_⟩
      refine iteF' (decide_eq_false fun z => nxy (iv_inj.mp z)) ?_
      -- groups = joined(groups, one, other)
      refine ⟨_, rfl, _, rfl, _, rfl, g, gs, e.1, e.2, x, y, rfl, SqL.of hg2, by rw [G.1]; omega, hx, hy, fun q nq => ?_⟩
      exact ⟨join gs x y, q, _, _, _, _, rfl, s2.trans (same_upd nq _), upd_same, G.next T he hx hy⟩
    · rintro σ H' ⟨gs, g, x3, x4, x5, x6, rfl, s1, hg, G⟩
      exact k H' s1
end
end TR

namespace TR
def bit (v : Nat) (e : E2) : List Nat := if e.1 = v then [e.2] else if e.2 = v then [e.1] else []
def rowOf (tr : List E2) (v : Nat) : List Nat := tr.flatMap (bit v)
def srt (l : List Nat) : List Nat := l.mergeSort (fun a b => decide (a ≤ b))
def nb (tr : List E2) (v : Nat) : List Nat := srt (rowOf tr v)
theorem srt_perm (l : List Nat) : (srt l).Perm l := List.mergeSort_perm l _
theorem srt_le (l : List Nat) : (srt l).Pairwise (· ≤ ·) := by
  have h := List.pairwise_mergeSort (le := fun a b : Nat => decide (a ≤ b)) (by intro a b c; simp only [decide_eq_true_eq]; omega) (by intro a b; simp only [Bool.or_eq_true, decide_eq_true_eq]; omega) l
  exact h.imp fun {a b} h => of_decide_eq_true h
theorem srt_of {l : List Nat} {ns : List Int} (hp : ns.Perm (l.map Int.ofNat)) (hs : ns.Pairwise (· ≤ ·)) : ns = (srt l).map Int.ofNat := by
  refine List.Perm.eq_of_pairwise (le := (· ≤ ·)) (fun a b _ _ h1 h2 => Int.le_antisymm h1 h2) hs ?_ (hp.trans ((srt_perm l).map _).symm)
  exact List.Pairwise.map _ (fun a b h => Int.ofNat_le.mpr h) (srt_le l)
theorem rowOf_snoc (tr : List E2) (e : E2) (v : Nat) : rowOf (tr ++ [e]) v = rowOf tr v ++ bit v e := by
  unfold rowOf
  rw [List.flatMap_append]
  simp
theorem rowOf_len (tr : List E2) (v : Nat) : (rowOf tr v).length ≤ tr.length := by
  induction tr with
  | nil => exact Nat.le_refl _
  | cons e r ih =>
    have : (rowOf (e :: r) v) = bit v e ++ rowOf r v := rfl
    rw [this, List.length_append, List.length_cons]
    have h1 : (bit v e).length ≤ 1 := by
      unfold bit
      split
      · exact Nat.le_refl _
      · split <;> simp
    omega
theorem mem_row {tr : List E2} (ne : ∀ e ∈ tr, e.1 ≠ e.2) {v w : Nat} : w ∈ rowOf tr v ↔ Adj tr v w := by
  unfold rowOf
  rw [List.mem_flatMap]
  constructor
  · rintro ⟨e, he, h⟩
    unfold bit at h
    split at h
    · next h1 =>
      rw [List.mem_singleton] at h
      exact .inl (by rw [← h1, h]; exact he)
    · split at h
      · next h2 =>
        rw [List.mem_singleton] at h
        exact .inr (by rw [← h2, h]; exact he)
      · cases h
  · rintro (h | h)
    · refine ⟨_, h, ?_⟩
      simp [bit]
    · refine ⟨_, h, ?_⟩
      have := ne _ h
      have h2 : ¬ w = v := this
      simp [bit, h2]
theorem mem_nb {tr : List E2} (ne : ∀ e ∈ tr, e.1 ≠ e.2) {v w : Nat} : w ∈ nb tr v ↔ Adj tr v w := by
  unfold nb
  rw [(srt_perm _).mem_iff]
  exact mem_row ne
theorem nb_len (tr : List E2) (v : Nat) : (nb tr v).length ≤ tr.length := by
  unfold nb
  rw [(srt_perm _).length_eq]
  exact rowOf_len tr v
end TR

namespace TR
open PySem PySem.Spec PyProof.Rows L2 L2.TT
/-- a list of lists (or tuples) in the heap: rows as f tells, all apart, none before in H -/
structure Rws (H H' : Hp) (r : Addr) (n : Nat) (o : List V → HO) (as : List Addr) (f : Nat → List Nat) : Prop where
  own : H' r = some (.lst (as.map V.ref))
  new : H r = none
  len : as.length = n
  at_ : ∀ (v : Nat) (a : Addr), as[v]? = some a → H' a = some (o ((f v).map iv)) ∧ H a = none ∧ a ≠ r
  nd : as.Nodup
theorem ints_map (l : List Nat) : (l.map Int.ofNat).map V.int = l.map iv := by rw [List.map_map]; rfl
theorem nodup_snoc {α : Type} {l : List α} {a : α} (h : l.Nodup) (ha : a ∉ l) : (l ++ [a]).Nodup := by
  rw [List.nodup_append]
  refine ⟨h, by simp, fun x hx y hy => ?_⟩
  rw [List.mem_singleton] at hy
  rintro rfl
  exact ha (hy ▸ hx)
theorem get_snoc {α : Type} {l : List α} {a x : α} {i : Nat} (h : (l ++ [a])[i]? = some x) : l[i]? = some x ∨ (i = l.length ∧ x = a) := by
  by_cases c : i < l.length
  · rw [List.getElem?_append_left c] at h
    exact .inl h
  · rw [List.getElem?_append_right (by omega)] at h
    by_cases c2 : i - l.length = 0
    · rw [c2] at h
      exact .inr ⟨by omega, (Option.some.inj h).symm⟩
    · exfalso
      obtain ⟨k, hk⟩ := Nat.exists_eq_succ_of_ne_zero c2
      rw [hk] at h
      cases h
/-- [[] for station in range(n)] -/
theorem rws_start {H : Hp} {r : Addr} (o : List V → HO) (f : Nat → List Nat) (nr : H r = none) : Rws H (upd H r (.lst [])) r 0 o [] f := ⟨upd_same, nr, rfl, fun v a h => (by cases h), List.nodup_nil⟩
theorem Rws.grow {H H' : Hp} {r : Addr} {n : Nat} {o : List V → HO} {as : List Addr} {f : Nat → List Nat} (R : Rws H H' r n o as f) (s : Same H H') {p : Addr} {H2 : Hp} (np : H' p = none) (s2 : ∀ b, b ≠ p → H' b ≠ none → H2 b = H' b) (hp : H2 p = some (o ((f n).map iv))) :
    Rws H (upd H2 r (.lst (as.map V.ref ++ [.ref p]))) r (n + 1) o (as ++ [p]) f := by
  have npr : p ≠ r := fun z => by rw [z, R.own] at np; cases np
  refine ⟨by rw [upd_same, List.map_append]; rfl, R.new, by rw [List.length_append, R.len]; rfl, fun v a h => ?_, ?_⟩
  · rcases get_snoc h with h | ⟨e, rfl⟩
    · obtain ⟨h1, h2, h3⟩ := R.at_ v a h
      have nap : a ≠ p := fun z => by rw [z, np] at h1; cases h1
      exact ⟨by rw [upd_ne h3, s2 a nap (by rw [h1]; simp)]; exact h1, h2, h3⟩
    · rw [R.len] at e
      subst e
      exact ⟨by rw [upd_ne npr]; exact hp, s.free np, npr⟩
  · refine nodup_snoc R.nd fun hm => ?_
    obtain ⟨i, hi⟩ := List.mem_iff_getElem?.mp hm
    have := (R.at_ i p hi).1
    rw [np] at this
    cases this
theorem Rws.same {H H' : Hp} {r : Addr} {n : Nat} {o : List V → HO} {as : List Addr} {f : Nat → List Nat} (R : Rws H H' r n o as f) {H2 : Hp} (s : Same H' H2) : Rws H H2 r n o as f :=
  ⟨s _ _ R.own, R.new, R.len, fun v a h => ⟨s _ _ (R.at_ v a h).1, (R.at_ v a h).2⟩, R.nd⟩
/-- one row is grown -/
theorem Rws.put {H H' : Hp} {r : Addr} {n : Nat} {o : List V → HO} {as : List Addr} {f g : Nat → List Nat} (R : Rws H H' r n o as f) {v : Nat} {a : Addr} (ha : as[v]? = some a) (hg : ∀ u, u ≠ v → g u = f u) :
    Rws H (upd H' a (o ((g v).map iv))) r n o as g := by
  obtain ⟨h1, h2, h3⟩ := R.at_ v a ha
  refine ⟨by rw [upd_ne h3.symm]; exact R.own, R.new, R.len, fun u b hb => ?_, R.nd⟩
  obtain ⟨k1, k2, k3⟩ := R.at_ u b hb
  refine ⟨?_, k2, k3⟩
  by_cases c : u = v
  · subst c
    rw [ha] at hb
    cases hb
    exact upd_same
  · have ne : b ≠ a := by
      rintro rfl
      have hl := (List.getElem?_eq_some_iff.mp hb).1
      exact c ((List.getElem?_inj hl R.nd).mp (hb.trans ha.symm))
    rw [upd_ne ne, hg u c]
    exact k1
theorem same_old {H H' : Hp} {a : Addr} (s : Same H H') (na : H a = none) (o : HO) : Same H (upd H' a o) := fun b u e => by rw [upd_ne (ne_of_none e na)]; exact s b u e
theorem Rws.base {H0 H H' : Hp} {r : Addr} {n : Nat} {o : List V → HO} {as : List Addr} {f : Nat → List Nat} (R : Rws H H' r n o as f) (s : Same H0 H) : Rws H0 H' r n o as f :=
  ⟨R.own, s.free R.new, R.len, fun v a h => ⟨(R.at_ v a h).1, s.free (R.at_ v a h).2.1, (R.at_ v a h).2.2⟩, R.nd⟩
theorem Rws.get {H H' : Hp} {r : Addr} {n : Nat} {o : List V → HO} {as : List Addr} {f : Nat → List Nat} (R : Rws H H' r n o as f) {v : Nat} (h : v < n) : ∃ a, as[v]? = some a ∧ H' a = some (o ((f v).map iv)) ∧ H a = none ∧ a ≠ r := by
  have hl : v < as.length := by rw [R.len]; exact h
  exact ⟨as[v], List.getElem?_eq_getElem hl, R.at_ v _ (List.getElem?_eq_getElem hl)⟩
theorem Rws.cong {H H' : Hp} {r : Addr} {n : Nat} {o : List V → HO} {as : List Addr} {f g : Nat → List Nat} (R : Rws H H' r n o as f) (e : ∀ v, v < n → f v = g v) : Rws H H' r n o as g :=
  ⟨R.own, R.new, R.len, fun v a h => by
    have hl := (List.getElem?_eq_some_iff.mp h).1
    rw [R.len] at hl
    rw [← e v hl]
    exact R.at_ v a h, R.nd⟩
end TR

namespace TR
open PySem PySem.Spec PyProof.Rows L2 L2.TT
theorem ixN_lt {n v : Nat} (h : v < n) : ixN n (v : Int) = some v := by
  unfold ixN
  rw [if_pos (by omega), if_pos (by omega)]
  simp
theorem cs_K {X : Cx} {K : PySem.W.Frag} (h : X.K = K) : CallR X (.builtin "sorted") (rSortedI K) := by
  subst h
  exact cr_sortedI
def rTupOf (K : PySem.W.Frag) : List V → Hp → VK → Prop := fun xs H Q => ∃ p ys, xs = [.ref p] ∧ ((SqL K H p ys ∧ ∀ l, H l = none → Q (.ref l) (upd H l (.tup ys))) ∨ (SqT K H p ys ∧ Q (.ref p) H))
theorem ct_K {X : Cx} {K : PySem.W.Frag} (h : X.K = K) : CallR X (.type "tuple") (rTupOf K) := by
  subst h
  exact call_tuple_of
def spNbs (K : PySem.W.Frag) : Sp := fun vs H Q _ => ∃ (a : Addr) (ps : List Addr) (tr : List E2), vs = [.ref a] ∧ SqT K H a (ps.map V.ref) ∧ Prs H ps tr ∧ (∀ e ∈ tr, e.1 ≠ e.2 ∧ e.1 < tr.length + 1 ∧ e.2 < tr.length + 1) ∧ tr.length ≤ 999 ∧
  ∀ (D : Addr) (ts : List Addr) (H' : Hp), Same H H' → Rws H H' D (tr.length + 1) HO.tup ts (nb tr) → Q (.ref D) H'
section
variable {P : Program} {w : World} {K : PySem.W.Frag} {mg : Str → Option Value} {base : Heap}
theorem sc_nbs : FnScope ["tracks", "rows", "one", "other", "station", "row"] ["tracks"] (defScope s_neighbours_of) := ⟨rfl, rfl, rfl, by decide +kernel, rfl, by decide +kernel, by decide +kernel⟩
theorem ok_nbs {f : Addr} {fd : FuncData} (F : Fun K "_neighbours_of" "_neighbours_of" s_neighbours_of f fd) (N : Nm mg) : FnOk P w K mg base CX0 1 f fd ["tracks"] (spNbs K) := by
  refine F.ok sc_nbs (fun vs H Q E h => ?_) (fun cdv A outer s H vs Q E hr h => ?_)
  · obtain ⟨a, ps, tr, rfl, _⟩ := h
    rfl
  · obtain ⟨a, ps, tr, rfl, hS, hP, T, hl, k⟩ := h
    refine ⟨_, pss_cons (ps_setLc (i := 1) (own := [("station", 4)]) (g := gName 4) (tt := tYes) (by rfl) sc_nbs.nd rfl rfl (sw_true rfl rfl rfl (by decide +kernel))
        (pi_range1 (by rfl) N.range (pa_cons (pe_op op_add (pe_callB call_len_seq (by rfl) N.len PySem.boot_len (pa_cons (pv 0) pa_nil)) pe_int) pa_nil))
        (blkOk_by (N := ["tracks", "rows", "one", "other", "station", "row"]) (sc := defScope s_neighbours_of) (by decide +kernel))
        (fun _ _ _ _ _ => pg_name (i := 4) sc_nbs.nd rfl (Or.inl rfl)) (fun _ _ _ _ _ => pts_nil) (fun _ _ _ _ _ => pe_lst pa_nil))
      (pss_cons (ps_for PassesOwn.never rfl (pi_tup (pv 0)) (pg_tup rfl (pgs_cons (pg_name (i := 2) sc_nbs.nd rfl (.inl rfl)) (pgs_cons (pg_name (i := 3) sc_nbs.nd rfl (.inl rfl)) pgs_nil)))
        (pss_cons (ps_expr (pe_bm PySem.F.plainAttrs_list PySem.F.slot_list_append PySem.F.type_list_append mt_append (pe_ix ix_list (pv 1) (pv 2) (fun _ _ => rfl)) (pa_cons (pv 3) pa_nil)))
        (pss_one (ps_expr (pe_bm PySem.F.plainAttrs_list PySem.F.slot_list_append PySem.F.type_list_append mt_append (pe_ix ix_list (pv 1) (pv 3) (fun _ _ => rfl)) (pa_cons (pv 2) pa_nil))))))
      (pss_one (ps_ret (pe_lc (own := [("row", 5)]) (g := gName 5) (tt := tYes) rfl sc_nbs.nd (pi_list (pv 1)) (blkOk_by (N := ["tracks", "rows", "one", "other", "station", "row"]) (sc := defScope s_neighbours_of) (by decide +kernel))
        (fun _ _ _ _ _ => pg_name (i := 5) sc_nbs.nd rfl (Or.inl rfl)) (fun _ _ _ _ _ => pts_nil)
        (fun _ _ _ _ _ => pe_callTy (ct_K (K := K) rfl) (by rfl) N.tuple boot_tuple (pa_cons (pe_callB (cs_K (K := K) rfl) (by rfl) N.sorted boot_sorted (pa_cons (pv 5) pa_nil)) pa_nil)))))), ?_⟩
    have lp : (ps.map V.ref).length = tr.length := by rw [List.length_map, hP.1]
    have e62 : (2 : Int) ^ 62 = 4611686018427387904 := by decide
    refine ⟨_, rfl, a, _, rfl, .inr hS, _, _, rfl, rfl, _, rfl, by omega, by rw [lp, e62]; omega, fun r nr => ?_⟩
    refine lc_range (lo := 0) (fun i H' => ∃ as, Rws H H' r i HO.lst as (fun _ => []) ∧ Same H H') ⟨[], rws_start _ _ nr, same_upd nr _⟩ ?_ ?_
    · rintro i H' hi ⟨as, R, s1⟩
      refine ⟨rfl, by show 0 ≤ sizeLine; exact Nat.zero_le _, fun p np => ⟨as.map V.ref, ?_, ?_, as ++ [p], ?_, ?_⟩⟩
      · have npr : r ≠ p := fun z => by rw [← z, R.own] at np; cases np
        rw [upd_ne npr]
        exact R.own
      · rw [List.length_map, R.len, sizeLine_eq]
        rw [lp] at hi
        omega
      · exact R.grow s1 np (fun b hb _ => upd_ne hb) upd_same
      · exact same_old (s1.trans (same_upd np _)) nr _
    rintro H1 ⟨as, R, s1⟩
    have en : (((ps.map V.ref).length : Int) + 1).toNat = tr.length + 1 := by rw [lp]; omega
    have R1 : Rws H H1 r (tr.length + 1) HO.lst as (fun _ => []) := en ▸ R
    clear R
    -- for one, other in tracks
    refine ⟨_, rfl, a, rfl, ⟨_, s1.tp hS⟩, for_tup (K := K) (a := a) (xs := ps.map V.ref) (fun i σ H' => ∃ (as : List Addr) (x2 x3 x4 x5 : Option V), σ = [some (.ref a), some (.ref r), x2, x3, x4, x5] ∧ Same H H' ∧ Rws H H' r (tr.length + 1) HO.lst as (rowOf (tr.take i)))
      ⟨as, none, none, none, none, rfl, s1, R1⟩ (fun i σ H' _ ⟨_, _, _, _, _, _, s2, _⟩ => s2.tp hS) ?_ ?_⟩
    · rintro i v σ H' hv ⟨as, x2, x3, x4, x5, rfl, s2, R⟩
      obtain ⟨p, e, rfl, hp, he, hH⟩ := hP.get hv
      have hm := List.mem_of_getElem? he
      obtain ⟨ne, b1, b2⟩ := T e hm
      have hH2 := s2 _ _ hH
      refine ⟨p, _, rfl, SqT.of hH2, rfl, ?_⟩
      refine ⟨_, _, rfl, _, _, rfl, rfl, ?_⟩
      obtain ⟨r1, g1, h1, n1, d1⟩ := R.get b1
      have hlen : ∀ u, ((rowOf (tr.take i) u).map iv).length ≤ 999 := fun u => by
        rw [List.length_map]
        have := rowOf_len (tr.take i) u
        rw [List.length_take] at this
        omega
      refine ⟨_, rfl, _, rfl, r, _, _, _, rfl, rfl, SqL.of R.own, atN (map_get g1), .inl ⟨rfl, _, SqL.of h1⟩, _, rfl, _, _, _, rfl, rfl, h1, by rw [sizeLine_eq]; have := hlen e.1; omega, ?_⟩
      have e1 : (rowOf (tr.take i) e.1).map iv ++ [iv e.2] = ((fun u => if u = e.1 then rowOf (tr.take i) u ++ [e.2] else rowOf (tr.take i) u) e.1).map iv := by simp
      have R2 := R.put (g := fun u => if u = e.1 then rowOf (tr.take i) u ++ [e.2] else rowOf (tr.take i) u) g1 (fun u hu => by simp [hu])
      rw [← e1] at R2
      have s3 := same_old s2 n1 (.lst ((rowOf (tr.take i) e.1).map iv ++ [iv e.2]))
      generalize upd H' r1 (.lst ((rowOf (tr.take i) e.1).map iv ++ [iv e.2])) = H2 at R2 s3
      obtain ⟨r2, g2, h2, n2, d2⟩ := R2.get b2
      rw [if_neg fun z => ne z.symm] at h2
      refine ⟨_, rfl, _, rfl, r, _, _, _, rfl, rfl, SqL.of R2.own, atN (map_get g2), .inl ⟨rfl, _, SqL.of h2⟩, _, rfl, _, _, _, rfl, rfl, h2, by rw [sizeLine_eq]; have := hlen e.2; omega, ?_⟩
      have et : tr.take (i + 1) = tr.take i ++ [e] := take_snoc he
      have e2 : (rowOf (tr.take i) e.2).map iv ++ [iv e.1] = (rowOf (tr.take (i + 1)) e.2).map iv := by
        rw [et, rowOf_snoc, List.map_append]
        have : bit e.2 e = [e.1] := by unfold bit; rw [if_neg ne, if_pos rfl]
        rw [this]
        rfl
      refine ⟨as, _, _, _, _, rfl, same_old s3 n2 _, ?_⟩
      rw [e2]
      refine R2.put g2 fun u hu => ?_
      rw [et, rowOf_snoc]
      show rowOf (tr.take i) u ++ bit u e = if u = e.1 then rowOf (tr.take i) u ++ [e.2] else rowOf (tr.take i) u
      by_cases c : u = e.1
      · rw [if_pos c]
        unfold bit
        rw [if_pos c.symm]
      · rw [if_neg c]
        unfold bit
        rw [if_neg fun z => c z.symm, if_neg fun z => hu z.symm, List.append_nil]
    · rintro σ H' ⟨as, x2, x3, x4, x5, rfl, s2, R⟩
      have ea : tr.take (ps.map V.ref).length = tr := by rw [lp]; exact List.take_length
      rw [ea] at R
      refine ⟨_, rfl, r, rfl, ⟨_, SqL.of R.own⟩, fun D nD => ?_⟩
      refine lc_list (K := K) (a := r) (xs := as.map V.ref) (fun i H2 => ∃ ts, Rws H' H2 D i HO.tup ts (nb tr) ∧ Same H' H2) ⟨[], rws_start _ _ nD, same_upd nD _⟩ (fun i H2 _ ⟨_, _, s3⟩ => s3.seq (SqL.of R.own)) ?_ ?_
      · rintro i v H2 hv ⟨ts, R2, s3⟩
        obtain ⟨b, hb, rfl⟩ := map_got hv
        obtain ⟨h1, _, _⟩ := R.at_ i b hb
        refine ⟨rfl, ?_⟩
        refine ⟨_, rfl, b, (rowOf tr i).map Int.ofNat, rfl, by rw [ints_map]; exact s3.seq (SqL.of h1), fun ns' p hp hs np => ?_⟩
        have en' : ns'.map V.int = (nb tr i).map iv := by
          rw [srt_of hp hs, ints_map]
          rfl
        rw [en']
        refine ⟨p, _, rfl, .inl ⟨SqL.of upd_same, fun l nl => ⟨ts.map V.ref, ?_, ?_, ts ++ [l], ?_, ?_⟩⟩⟩
        · have n1 : D ≠ l := fun z => by
            rw [← z, same_upd np _ _ _ R2.own] at nl
            cases nl
          rw [upd_ne n1]
          exact same_upd np _ _ _ R2.own
        · rw [List.length_map, R2.len, sizeLine_eq]
          have := (List.getElem?_eq_some_iff.mp hb).1
          rw [R.len] at this
          omega
        · refine (R2.same (same_upd np _)).grow (s3.trans (same_upd np _)) nl (fun b hb _ => upd_ne hb) upd_same
        · exact same_old ((s3.trans (same_upd np _)).trans (same_upd nl _)) nD _
      · rintro H2 ⟨ts, R2, s3⟩
        refine k D ts H2 (s2.trans s3) ?_
        have el : (as.map V.ref).length = tr.length + 1 := by rw [List.length_map, R.len]
        rw [← el]
        exact R2.base s2
end
end TR

namespace TR
noncomputable def p0 (tr : List E2) (v : Nat) : Nat := if v = 0 then 0 else par tr v
noncomputable def kids (tr : List E2) (v : Nat) : List Nat := (nb tr v).filter fun w => decide (w ≠ p0 tr v)
noncomputable def lay (tr : List E2) : Nat → List Nat
  | 0 => [0]
  | k + 1 => (lay tr k).flatMap (kids tr)
section
variable {tr : List E2}
/-- a list without repetition of numbers up to n has at most n + 1 items -/
theorem nd_len {n : Nat} {l : List Nat} (h : l.Nodup) (hb : ∀ x ∈ l, x ≤ n) : l.length ≤ n + 1 := by
  have hs : l ⊆ List.range (n + 1) := fun x hx => List.mem_range.mpr (by have := hb x hx; omega)
  have := h.length_le_of_subset hs
  simpa using this
theorem mem_kids (T : TreeL tr) {v w : Nat} : w ∈ kids tr v ↔ 0 < w ∧ par tr w = v ∧ w ≤ tr.length := by
  unfold kids
  rw [List.mem_filter, mem_nb T.ne]
  constructor
  · rintro ⟨h, hne⟩
    have hne := of_decide_eq_true hne
    rcases adj_par T h with ⟨h1, h2, h3⟩ | ⟨h1, h2, h3⟩
    · exfalso
      apply hne
      unfold p0
      rw [if_neg (by omega)]
      exact h2
    · exact ⟨h1, h2.symm, h3⟩
  · rintro ⟨h1, h2, h3⟩
    have ha := par_adj T h1 h3
    rw [h2] at ha
    refine ⟨ha.symm, decide_eq_true ?_⟩
    intro z
    have hlt := par_dep T h1
    rw [h2] at hlt
    unfold p0 at z
    by_cases c : v = 0
    · rw [if_pos c] at z
      omega
    · rw [if_neg c] at z
      have := par_dep T (y := v) (by omega)
      rw [← z] at this
      omega
theorem mem_lay (T : TreeL tr) : ∀ {k v : Nat}, v ∈ lay tr k ↔ v ≤ tr.length ∧ dep tr v = k
  | 0, v => by
    show v ∈ [0] ↔ _
    rw [List.mem_singleton]
    constructor
    · rintro rfl
      exact ⟨Nat.zero_le _, dep_zero⟩
    · rintro ⟨_, h⟩
      by_cases c : v = 0
      · exact c
      · rw [dep_succ T (by omega)] at h
        cases h
  | k + 1, v => by
    show v ∈ (lay tr k).flatMap (kids tr) ↔ _
    rw [List.mem_flatMap]
    constructor
    · rintro ⟨u, hu, hv⟩
      obtain ⟨h1, h2, h3⟩ := (mem_kids T).mp hv
      obtain ⟨_, h5⟩ := (mem_lay T).mp hu
      exact ⟨h3, by rw [dep_succ T h1, h2, h5]⟩
    · rintro ⟨h1, h2⟩
      have hv : 0 < v := by
        by_cases c : v = 0
        · subst c
          rw [dep_zero] at h2
          cases h2
        · omega
      rw [dep_succ T hv] at h2
      exact ⟨par tr v, (mem_lay T).mpr ⟨T.par_le v, by omega⟩, (mem_kids T).mpr ⟨hv, rfl, h1⟩⟩
/-- tracks that are different as pairs of ends -/
theorem row_nd0 : ∀ {tr : List E2}, (tr.map fun e => (mn e, mx e)).Nodup → (∀ e ∈ tr, e.1 ≠ e.2) → ∀ v, (rowOf tr v).Nodup
  | [], _, _, v => List.nodup_nil
  | e :: r, hn, ne, v => by
    rw [List.map_cons, List.nodup_cons] at hn
    show (bit v e ++ rowOf r v).Nodup
    have ne' : ∀ x ∈ r, x.1 ≠ x.2 := fun x hx => ne x (List.mem_cons_of_mem _ hx)
    rw [List.nodup_append]
    refine ⟨?_, row_nd0 hn.2 ne' v, ?_⟩
    · unfold bit
      split
      · simp
      · split <;> simp
    · rintro x hx y hy rfl
      apply hn.1
      have hy2 := (mem_row ne').mp hy
      have em : (mn e, mx e) = (mn (v, x), mx (v, x)) := by
        unfold bit at hx
        split at hx
        · next h1 =>
          rw [List.mem_singleton] at hx
          unfold mx mn
          rw [← h1, hx]
        · split at hx
          · next h2 =>
            rw [List.mem_singleton] at hx
            unfold mx mn
            rw [← h2, hx]
            show (min e.1 e.2, max e.1 e.2) = (min e.2 e.1, max e.2 e.1)
            rw [Nat.max_comm, Nat.min_comm]
          · cases hx
      rw [em]
      rcases hy2 with h | h
      · exact List.mem_map_of_mem (f := fun e => (mn e, mx e)) h
      · have := List.mem_map_of_mem (f := fun e => (mn e, mx e)) h
        have e2 : (mn (x, v), mx (x, v)) = (mn (v, x), mx (v, x)) := by
          show (min x v, max x v) = (min v x, max v x)
          rw [Nat.max_comm, Nat.min_comm]
        exact e2 ▸ this
theorem TreeL.nd2 (T : TreeL tr) : (tr.map fun e => (mn e, mx e)).Nodup := by
  refine List.pairwise_iff_getElem.mpr fun i j hi hj hij z => ?_
  rw [List.length_map] at hi hj
  rw [List.getElem_map, List.getElem_map] at z
  have h1 := List.getElem?_eq_getElem hi
  have h2 := List.getElem?_eq_getElem hj
  generalize tr[i] = e at h1 z
  generalize tr[j] = d at h2 z
  have z1 := congrArg Prod.fst z
  have z2 := congrArg Prod.snd z
  have z1 : mn e = mn d := z1
  have z2 : mx e = mx d := z2
  have : ch tr e = ch tr d := by
    have q : (e.1 = d.1 ∧ e.2 = d.2) ∨ (e.1 = d.2 ∧ e.2 = d.1) := by
      simp only [mn, mx] at z1 z2
      omega
    rcases q with ⟨a, b⟩ | ⟨a, b⟩
    · unfold ch
      rw [a, b]
    · unfold ch
      rw [a, b]
      have m := List.mem_of_getElem? h2
      obtain ⟨c1, c2, c3⟩ := T.ch_bd m
      have dd := par_dep T (y := ch tr d) c1
      rw [c3] at dd
      rcases cp tr d with ⟨x, y⟩ | ⟨x, y⟩
      · rw [← x, ← y] at dd
        rw [if_pos dd, if_neg (by omega)]
      · rw [← x, ← y] at dd
        rw [if_neg (by omega), if_pos dd]
  have := T.ch_inj h1 h2 this
  omega
theorem row_nd (T : TreeL tr) (v : Nat) : (rowOf tr v).Nodup := row_nd0 T.nd2 T.ne v
theorem nb_nd (T : TreeL tr) (v : Nat) : (nb tr v).Nodup := (srt_perm _).nodup_iff.mpr (row_nd T v)
theorem flat_nd (T : TreeL tr) : ∀ {l : List Nat}, l.Nodup → (l.flatMap (kids tr)).Nodup
  | [], _ => List.nodup_nil
  | a :: l, h => by
    rw [List.nodup_cons] at h
    show (kids tr a ++ l.flatMap (kids tr)).Nodup
    rw [List.nodup_append]
    refine ⟨(nb_nd T a).filter _, flat_nd T h.2, ?_⟩
    rintro x hx y hy rfl
    obtain ⟨u, hu, hy⟩ := List.mem_flatMap.mp hy
    have h1 := ((mem_kids T).mp hx).2.1
    have h2 := ((mem_kids T).mp hy).2.1
    exact h.1 (by rw [← h1, h2]; exact hu)
theorem lay_nd (T : TreeL tr) : ∀ k, (lay tr k).Nodup
  | 0 => by
    show [0].Nodup
    simp
  | k + 1 => flat_nd T (lay_nd T k)
theorem lay_len (T : TreeL tr) (k : Nat) : (lay tr k).length ≤ tr.length + 1 := nd_len (lay_nd T k) fun x hx => ((mem_lay T).mp hx).1
/-- the ancestors of a station are different: no depth is more than the number of tracks -/
theorem dep_le (T : TreeL tr) {y : Nat} (hy : y ≤ tr.length) : dep tr y ≤ tr.length := by
  have : ∀ m y, y ≤ tr.length → dep tr y = m → ∃ l : List Nat, l.Nodup ∧ l.length = m + 1 ∧ ∀ x ∈ l, x ≤ tr.length ∧ dep tr x ≤ m := by
    intro m
    induction m with
    | zero =>
      intro y hy e
      exact ⟨[y], by simp, rfl, fun x hx => by rw [List.mem_singleton] at hx; rw [hx]; exact ⟨hy, by omega⟩⟩
    | succ m ih =>
      intro y hy e
      have h0 : 0 < y := by
        by_cases c : y = 0
        · rw [c, dep_zero] at e
          cases e
        · omega
      have d := dep_succ T h0
      obtain ⟨l, h1, h2, h3⟩ := ih (par tr y) (T.par_le y) (by omega)
      refine ⟨y :: l, List.nodup_cons.mpr ⟨fun m => ?_, h1⟩, by rw [List.length_cons, h2], fun x hx => ?_⟩
      · have := (h3 y m).2
        omega
      · rcases List.mem_cons.mp hx with rfl | hx
        · exact ⟨hy, by omega⟩
        · have := h3 x hx
          exact ⟨this.1, by omega⟩
  obtain ⟨l, h1, h2, h3⟩ := this _ y hy rfl
  have := nd_len h1 fun x hx => (h3 x hx).1
  omega
/-- a layer without stations: none deeper either -/
theorem lay_none (T : TreeL tr) {k : Nat} (h : lay tr k = []) (m v : Nat) (_ : v ≤ m) (hv : v ≤ tr.length) : dep tr v < k := by
  have key : ∀ d v, v ≤ tr.length → dep tr v = d → d < k := by
    intro d
    induction d with
    | zero =>
      intro v hv e
      by_cases c : k = 0
      · exfalso
        subst c
        cases h
      · omega
    | succ d ih =>
      intro v hv e
      have h0 : 0 < v := by
        by_cases c : v = 0
        · rw [c, dep_zero] at e
          cases e
        · omega
      have ds := dep_succ T h0
      have := ih (par tr v) (T.par_le v) (by omega)
      by_cases c2 : d + 1 = k
      · exfalso
        have : v ∈ lay tr k := (mem_lay T).mpr ⟨hv, by omega⟩
        rw [h] at this
        cases this
      · omega
  exact key _ v hv rfl
theorem lay_lt (T : TreeL tr) {k : Nat} (h : lay tr k ≠ []) : k ≤ tr.length := by
  obtain ⟨v, hv⟩ := List.exists_mem_of_ne_nil _ h
  obtain ⟨h1, h2⟩ := (mem_lay T).mp hv
  have := dep_le T h1
  omega
end
end TR

namespace TR
open PySem PySem.Spec PyProof.Rows L2 L2.TT
def vec (n : Nat) (f : Nat → Nat) : List V := (List.range n).map fun v => iv (f v)
theorem vec_len (n : Nat) (f : Nat → Nat) : (vec n f).length = n := by simp [vec]
theorem vec_get {n v : Nat} {f : Nat → Nat} (h : v < n) : (vec n f)[v]? = some (iv (f v)) := by
  unfold vec
  rw [List.getElem?_map, List.getElem?_range h]
  rfl
theorem vec_snoc (n : Nat) (f : Nat → Nat) : vec (n + 1) f = vec n f ++ [iv (f n)] := by
  unfold vec
  rw [List.range_succ, List.map_append]
  rfl
theorem vec_set {n j x : Nat} {f : Nat → Nat} : (vec n f).set j (iv x) = vec n (fun v => if v = j then x else f v) := by
  apply List.ext_getElem?
  intro i
  rw [List.getElem?_set]
  by_cases hi : i < n
  · rw [vec_get hi, vec_get hi, vec_len]
    by_cases c : j = i
    · subst c
      rw [if_pos rfl, if_pos hi, if_pos rfl]
    · rw [if_neg c, if_neg fun z => c z.symm]
  · have e1 : (vec n f)[i]? = none := by rw [List.getElem?_eq_none_iff, vec_len]; omega
    have e2 : (vec n (fun v => if v = j then x else f v))[i]? = none := by rw [List.getElem?_eq_none_iff, vec_len]; omega
    rw [e1, e2, vec_len]
    by_cases c : j = i
    · subst c
      rw [if_pos rfl, if_neg hi]
    · rw [if_neg c]
theorem vec_cong {n : Nat} {f g : Nat → Nat} (h : ∀ v, v < n → f v = g v) : vec n f = vec n g := by
  unfold vec
  refine List.map_congr_left fun v hv => ?_
  rw [h v (List.mem_range.mp hv)]
noncomputable def fA (tr : List E2) (k v : Nat) : Nat := if dep tr v ≤ k then p0 tr v else 0
noncomputable def gA (tr : List E2) (k v : Nat) : Nat := if dep tr v ≤ k then dep tr v else 0
noncomputable def fB (tr : List E2) (k : Nat) (bl : List Nat) (v : Nat) : Nat := if v ∈ bl then par tr v else fA tr k v
noncomputable def gB (tr : List E2) (k : Nat) (bl : List Nat) (v : Nat) : Nat := if v ∈ bl then dep tr v else gA tr k v
/-- the two lists under way -/
structure Two (H H' : Hp) (A L : Addr) (n : Nat) (f g : Nat → Nat) : Prop where
  same : Same H H'
  nA : H A = none
  nL : H L = none
  ne : A ≠ L
  hA : H' A = some (.lst (vec n f))
  hL : H' L = some (.lst (vec n g))
theorem Two.ext {H H' H2 : Hp} {A L : Addr} {n : Nat} {f g : Nat → Nat} (t : Two H H' A L n f g) (s : Same H' H2) : Two H H2 A L n f g := ⟨t.same.trans s, t.nA, t.nL, t.ne, s _ _ t.hA, s _ _ t.hL⟩
theorem Two.cong {H H' : Hp} {A L : Addr} {n : Nat} {f g f' g' : Nat → Nat} (t : Two H H' A L n f g) (e : ∀ v, v < n → f v = f' v) (e' : ∀ v, v < n → g v = g' v) : Two H H' A L n f' g' := ⟨t.same, t.nA, t.nL, t.ne, by rw [← vec_cong e]; exact t.hA, by rw [← vec_cong e']; exact t.hL⟩
def spPlaces (K : PySem.W.Frag) : Sp := fun vs H Q _ => ∃ (a : Addr) (ts : List Addr) (tr : List E2), vs = [.ref a] ∧ SqL K H a (ts.map V.ref) ∧ ts.length = tr.length + 1 ∧ (∀ (v : Nat) (t : Addr), ts[v]? = some t → H t = some (.tup ((nb tr v).map iv))) ∧ TreeL tr ∧ tr.length ≤ 999 ∧
  ∀ (t A L : Addr) (H' : Hp), Two H H' A L (tr.length + 1) (p0 tr) (dep tr) → H' t = some (.tup [.ref A, .ref L]) → Q (.ref t) H'
/-- the state of a layer's walk -/
structure St3 (H H' : Hp) (A L lr b : Addr) (tr : List E2) (k : Nat) (bl : List Nat) : Prop where
  two : Two H H' A L (tr.length + 1) (fB tr k bl) (gB tr k bl)
  hlr : H' lr = some (.lst ((lay tr k).map iv))
  hb : H' b = some (.lst (bl.map iv))
theorem flat_take (tr : List E2) (k i : Nat) : (((lay tr k).take i).flatMap (kids tr)).length ≤ (lay tr (k + 1)).length := by
  show _ ≤ ((lay tr k).flatMap (kids tr)).length
  rw [show (lay tr k).flatMap (kids tr) = ((lay tr k).take i).flatMap (kids tr) ++ ((lay tr k).drop i).flatMap (kids tr) by rw [← List.flatMap_append, List.take_append_drop], List.length_append]
  omega
theorem vec_zero (n : Nat) (f : Nat → Nat) : vec 0 f = [] := rfl
section
variable {P : Program} {w : World} {K : PySem.W.Frag} {mg : Str → Option Value} {base : Heap}
abbrev NPl : List Str := ["neighbours", "station", "above", "levels", "layer", "below", "near"]
theorem sc_pl : FnScope NPl ["neighbours"] (defScope s_places_below_first) := ⟨rfl, rfl, rfl, by decide +kernel, rfl, by decide +kernel, by decide +kernel⟩
theorem ok_places {f : Addr} {fd : FuncData} (F : Fun K "_places_below_first" "_places_below_first" s_places_below_first f fd) (N : Nm mg) : FnOk P w K mg base CX0 1 f fd ["neighbours"] (spPlaces K) := by
  refine F.ok sc_pl (fun vs H Q E h => ?_) (fun cdv A outer s H vs Q E hr h => ?_)
  · obtain ⟨a, ts, tr, rfl, _⟩ := h
    rfl
  · obtain ⟨a, ts, tr, rfl, hS, hts, hT, T, hl, k⟩ := h
    refine ⟨_, pss_cons (ps_setLc (i := 2) (own := [("station", 1)]) (g := gName 1) (tt := tYes) (by rfl) sc_pl.nd rfl rfl (sw_true rfl rfl rfl (by decide +kernel))
        (pi_list (pv 0)) (blkOk_by (N := NPl) (sc := defScope s_places_below_first) (by decide +kernel))
        (fun _ _ _ _ _ => pg_name (i := 1) sc_pl.nd rfl (Or.inl rfl)) (fun _ _ _ _ _ => pts_nil) (fun _ _ _ _ _ => pe_int))
      (pss_cons (ps_setLc (i := 3) (own := [("station", 1)]) (g := gName 1) (tt := tYes) (by rfl) sc_pl.nd rfl rfl (sw_true rfl rfl rfl (by decide +kernel))
        (pi_list (pv 0)) (blkOk_by (N := NPl) (sc := defScope s_places_below_first) (by decide +kernel))
        (fun _ _ _ _ _ => pg_name (i := 1) sc_pl.nd rfl (Or.inl rfl)) (fun _ _ _ _ _ => pts_nil) (fun _ _ _ _ _ => pe_int))
      (pss_cons (ps_set (i := 4) sc_pl.nd rfl (.inl rfl) (pe_lst (pa_cons pe_int pa_nil)))
      (pss_cons (ps_while PassesOwn.never (pt_truth (pv 4) (by intro _; rfl))
        (pss_cons (ps_set (i := 5) sc_pl.nd rfl (.inl rfl) (pe_lst pa_nil))
        (pss_cons (ps_for PassesOwn.never rfl (pi_list (pv 4)) (pg_name (i := 1) sc_pl.nd rfl (.inl rfl))
          (pss_one (ps_for PassesOwn.never rfl (pi_tup (pe_ix ix_list (pv 0) (pv 1) (fun _ _ => rfl))) (pg_name (i := 6) sc_pl.nd rfl (.inl rfl))
            (pss_one (ps_if (pt_cmpR op_ne (pv 6) (pe_ix ix_list (pv 2) (pv 1) (fun _ _ => rfl)) (nomark _))
              (pss_cons (ps_asg (pv 1) (pg_sub (pv 2) (pv 6) set_list))
              (pss_cons (ps_asg (pe_op op_add (pe_ix ix_list (pv 3) (pv 1) (fun _ _ => rfl)) pe_int) (pg_sub (pv 3) (pv 6) set_list))
              (pss_one (ps_expr (pe_bm PySem.F.plainAttrs_list PySem.F.slot_list_append PySem.F.type_list_append mt_append (pv 5) (pa_cons (pv 6) pa_nil)))))) pss_nil)))))
        (pss_one (ps_set (i := 4) sc_pl.nd rfl (.inl rfl) (pv 5))))))
      (pss_one (ps_ret (pe_tup (pa_cons (pv 2) (pa_cons (pv 3) pa_nil)))))))), ?_⟩
    have lts : (ts.map V.ref).length = tr.length + 1 := by rw [List.length_map, hts]
    refine ⟨_, rfl, a, rfl, ⟨_, hS⟩, fun Aa nA => ?_⟩
    refine lc_list (K := K) (a := a) (xs := ts.map V.ref) (fun i H' => H' = upd H Aa (.lst (vec i fun _ => 0))) rfl (fun i H' _ e => by rw [e]; exact (same_upd nA _).seq hS) (fun i v H' hv e => ?_) fun H1 e => ?_
    · subst e
      have hi := (List.getElem?_eq_some_iff.mp hv).1
      exact ⟨rfl, _, upd_same, by rw [vec_len, sizeLine_eq]; omega, by rw [upd_upd, vec_snoc]; rfl⟩
    have s1 : Same H H1 := e ▸ same_upd nA _
    have hA1 : H1 Aa = some (.lst (vec (tr.length + 1) fun _ => 0)) := by rw [e, lts]; exact upd_same
    clear e
    refine ⟨_, rfl, a, rfl, ⟨_, s1.seq hS⟩, fun L nL1 => ?_⟩
    refine lc_list (K := K) (a := a) (xs := ts.map V.ref) (fun i H' => H' = upd H1 L (.lst (vec i fun _ => 0))) rfl (fun i H' _ e => by rw [e]; exact (same_upd nL1 _).seq (s1.seq hS)) (fun i v H' hv e => ?_) fun H2 e => ?_
    · subst e
      have hi := (List.getElem?_eq_some_iff.mp hv).1
      exact ⟨rfl, _, upd_same, by rw [vec_len, sizeLine_eq]; omega, by rw [upd_upd, vec_snoc]; rfl⟩
    have s2 : Same H1 H2 := e ▸ same_upd nL1 _
    have hL2 : H2 L = some (.lst (vec (tr.length + 1) fun _ => 0)) := by rw [e, lts]; exact upd_same
    clear e
    have nAL : Aa ≠ L := fun z => by rw [← z, hA1] at nL1; cases nL1
    have tw0 : Two H H2 Aa L (tr.length + 1) (fun _ => 0) (fun _ => 0) := ⟨s1.trans s2, nA, s1.free nL1, nAL, s2 _ _ hA1, hL2⟩
    clear s1 s2 hA1 hL2 nL1
    refine ⟨by show 1 ≤ sizeLine; rw [sizeLine_eq]; decide, fun lr nlr => ?_⟩
    have l0A : lr ≠ Aa := fun z => by rw [z, tw0.hA] at nlr; cases nlr
    have l0L : lr ≠ L := fun z => by rw [z, tw0.hL] at nlr; cases nlr
    have tw1 := tw0.ext (same_upd nlr (.lst [V.int 0]))
    have hlr1 := upd_same (H := H2) (a := lr) (o := .lst [V.int 0])
    have nlrH := tw0.same.free nlr
    generalize upd H2 lr (.lst [V.int 0]) = H3 at tw1 hlr1
    clear tw0 nlr H1 H2
    have tw2 : Two H H3 Aa L (tr.length + 1) (fA tr 0) (gA tr 0) := tw1.cong (fun v hv => by
        show 0 = if dep tr v ≤ 0 then p0 tr v else 0
        by_cases c : v = 0
        · subst c
          rw [if_pos (by rw [dep_zero]; exact Nat.le_refl _)]
          unfold p0
          rw [if_pos rfl]
        · rw [if_neg (by rw [dep_succ T (by omega)]; omega)]) (fun v hv => by
        show 0 = if dep tr v ≤ 0 then dep tr v else 0
        split <;> omega)
    refine ⟨fun m σ H' => ∃ (k : Nat) (lr : Addr) (x1 x5 x6 : Option V), m = tr.length + 1 - k ∧ k ≤ tr.length + 1 ∧ σ = [some (.ref a), x1, some (.ref Aa), some (.ref L), some (.ref lr), x5, x6] ∧ Two H H' Aa L (tr.length + 1) (fA tr k) (gA tr k) ∧ H' lr = some (.lst ((lay tr k).map iv)) ∧ lr ≠ Aa ∧ lr ≠ L ∧ H lr = none,
      ⟨tr.length + 1, 0, lr, none, none, none, rfl, Nat.zero_le _, rfl, tw2, hlr1, l0A, l0L, nlrH⟩, ?_⟩
    clear tw1 tw2 hlr1 l0A l0L nlrH lr H3
    rintro m σ H1 ⟨kk, lr, x1, x5, x6, rfl, hk, rfl, tw, hlr, lA, lL, nlr⟩
    refine ⟨_, rfl, _, .inl ⟨_, SqL.of hlr, rfl⟩, ?_⟩
    refine ite2 (fun hc => ?_) (fun hc => ?_)
    · have hne : lay tr kk ≠ [] := fun z => by rw [z] at hc; cases hc
      have hkl := lay_lt T hne
      refine ⟨fun σ' H' => ∃ (lr : Addr) (x1 x5 x6 : Option V), σ' = [some (.ref a), x1, some (.ref Aa), some (.ref L), some (.ref lr), x5, x6] ∧ Two H H' Aa L (tr.length + 1) (fA tr (kk + 1)) (gA tr (kk + 1)) ∧ H' lr = some (.lst ((lay tr (kk + 1)).map iv)) ∧ lr ≠ Aa ∧ lr ≠ L ∧ H lr = none,
        fun σ' H' ⟨lr, x1, x5, x6, e, t, h1, h2, h3, h4⟩ => ⟨tr.length + 1 - (kk + 1), by omega, kk + 1, lr, x1, x5, x6, rfl, by omega, e, t, h1, h2, h3, h4⟩, ?_⟩
      refine ⟨by show 0 ≤ sizeLine; exact Nat.zero_le _, fun b nb1 => ?_⟩
      have bA : b ≠ Aa := fun z => by rw [z, tw.hA] at nb1; cases nb1
      have bL : b ≠ L := fun z => by rw [z, tw.hL] at nb1; cases nb1
      have bl : b ≠ lr := fun z => by rw [z, hlr] at nb1; cases nb1
      have nbH := tw.same.free nb1
      have tw1 := tw.ext (same_upd nb1 (.lst []))
      have hb1 := upd_same (H := H1) (a := b) (o := .lst [])
      have hlr1 := same_upd nb1 (.lst []) _ _ hlr
      generalize upd H1 b (.lst []) = H2 at tw1 hb1 hlr1
      clear tw hlr nb1 H1
      have S0 : St3 H H2 Aa L lr b tr kk [] := ⟨tw1.cong (fun v _ => by simp [fB]) (fun v _ => by simp [gB]), hlr1, hb1⟩
      clear tw1 hb1 hlr1
      refine ⟨_, rfl, lr, rfl, ⟨_, SqL.of S0.hlr⟩, for_list (K := K) (a := lr) (xs := (lay tr kk).map iv) (fun i σ H' => ∃ (x1 x6 : Option V), σ = [some (.ref a), x1, some (.ref Aa), some (.ref L), some (.ref lr), some (.ref b), x6] ∧ St3 H H' Aa L lr b tr kk (((lay tr kk).take i).flatMap (kids tr)))
        ⟨_, _, rfl, S0⟩ (fun i σ H' _ ⟨_, _, _, S⟩ => SqL.of S.hlr) ?_ ?_⟩
      · rintro i v σ H' hv ⟨x1, x6, rfl, S⟩
        obtain ⟨st, hst, rfl⟩ := map_got hv
        obtain ⟨hst1, hst2⟩ := (mem_lay T).mp (List.mem_of_getElem? hst)
        obtain ⟨t, ht⟩ : ∃ t, ts[st]? = some t := ⟨_, List.getElem?_eq_getElem (by omega)⟩
        have hHt := hT st t ht
        have blk : ∀ w ∈ ((lay tr kk).take i).flatMap (kids tr), dep tr w = kk + 1 := fun w hw => by
          obtain ⟨u, hu, hw⟩ := List.mem_flatMap.mp hw
          obtain ⟨w1, w2, w3⟩ := (mem_kids T).mp hw
          rw [dep_succ T w1, w2, ((mem_lay T).mp (List.mem_of_mem_take hu)).2]
        have bll := flat_take tr kk i
        have bl2 := lay_len T (kk + 1)
        generalize hbl : ((lay tr kk).take i).flatMap (kids tr) = B at S blk bll
        refine ⟨_, rfl, _, rfl, a, _, _, _, rfl, rfl, S.two.same.seq hS, atN (map_get ht), t, rfl, ⟨_, SqT.of (S.two.same _ _ hHt)⟩, for_tup (K := K) (a := t) (xs := (nb tr st).map iv) (fun j σ H' => ∃ (x6 : Option V), σ = [some (.ref a), some (iv st), some (.ref Aa), some (.ref L), some (.ref lr), some (.ref b), x6] ∧ St3 H H' Aa L lr b tr kk (B ++ ((nb tr st).take j).filter fun w => decide (w ≠ p0 tr st)))
          ⟨_, rfl, by simpa using S⟩ (fun j σ H' _ ⟨_, _, S⟩ => SqT.of (S.two.same _ _ hHt)) ?_ ?_⟩
        · rintro j v σ H' hv ⟨x6, rfl, S⟩
          obtain ⟨nw, hw, rfl⟩ := map_got hv
          have hnb : ((nb tr st).take (j + 1)).filter (fun w => decide (w ≠ p0 tr st)) = ((nb tr st).take j).filter (fun w => decide (w ≠ p0 tr st)) ++ [nw].filter (fun w => decide (w ≠ p0 tr st)) := by
            rw [take_snoc hw, List.filter_append]
          have blk2 : ∀ w ∈ B ++ ((nb tr st).take j).filter (fun w => decide (w ≠ p0 tr st)), dep tr w = kk + 1 := fun w hw => by
            rcases List.mem_append.mp hw with hw | hw
            · exact blk w hw
            · have hw2 : w ∈ kids tr st := by
                have := List.mem_filter.mp hw
                exact List.mem_filter.mpr ⟨List.mem_of_mem_take this.1, this.2⟩
              obtain ⟨w1, w2, w3⟩ := (mem_kids T).mp hw2
              rw [dep_succ T w1, w2, hst2]
          have len2 : ((B ++ ((nb tr st).take j).filter (fun w => decide (w ≠ p0 tr st))).map iv).length < sizeLine := by
            rw [List.length_map, List.length_append, sizeLine_eq]
            have h1 := List.length_filter_le (fun w => decide (w ≠ p0 tr st)) ((nb tr st).take j)
            rw [List.length_take] at h1
            have h2 := nb_len tr st
            omega
          generalize hB2 : B ++ ((nb tr st).take j).filter (fun w => decide (w ≠ p0 tr st)) = B2 at S blk2 len2
          have stB : st ∉ B2 := fun z => by have := blk2 st z; omega
          have fst : fB tr kk B2 st = p0 tr st := by
            unfold fB fA
            rw [if_neg stB, if_pos (by omega)]
          have gst : gB tr kk B2 st = kk := by
            unfold gB gA
            rw [if_neg stB, if_pos (by omega), hst2]
          have hA := S.two.hA
          refine ⟨_, rfl, _, rfl, _, rfl, Aa, _, _, _, rfl, rfl, SqL.of hA, atN (vec_get (by omega)), rfl, _, rfl, ?_⟩
          rw [fst]
          refine ite2 (fun hd => ?_) (fun hd => ?_)
          · have hne : nw ≠ p0 tr st := fun z => by rw [z] at hd; simp at hd
            have hkid : nw ∈ kids tr st := List.mem_filter.mpr ⟨List.mem_of_getElem? hw, decide_eq_true hne⟩
            obtain ⟨w1, w2, w3⟩ := (mem_kids T).mp hkid
            have dw : dep tr nw = kk + 1 := by rw [dep_succ T w1, w2, hst2]
            refine ⟨_, rfl, _, rfl, _, rfl, Aa, _, _, nw, rfl, rfl, hA, by rw [vec_len]; exact ixN_lt (by omega), ?_⟩
            rw [vec_set]
            have hL := S.two.hL
            have hb := S.hb
            have hlr := S.hlr
            have sm := same_old S.two.same S.two.nA (.lst (vec (tr.length + 1) fun v => if v = nw then st else fB tr kk B2 v))
            have hL' : upd H' Aa (.lst (vec (tr.length + 1) fun v => if v = nw then st else fB tr kk B2 v)) L = some (.lst (vec (tr.length + 1) (gB tr kk B2))) := by rw [upd_ne nAL.symm]; exact hL
            have hb' : upd H' Aa (.lst (vec (tr.length + 1) fun v => if v = nw then st else fB tr kk B2 v)) b = some (.lst (B2.map iv)) := by rw [upd_ne bA]; exact hb
            have hlr' : upd H' Aa (.lst (vec (tr.length + 1) fun v => if v = nw then st else fB tr kk B2 v)) lr = some (.lst ((lay tr kk).map iv)) := by rw [upd_ne lA]; exact hlr
            have hA' := upd_same (H := H') (a := Aa) (o := .lst (vec (tr.length + 1) fun v => if v = nw then st else fB tr kk B2 v))
            generalize upd H' Aa (.lst (vec (tr.length + 1) fun v => if v = nw then st else fB tr kk B2 v)) = H4 at sm hL' hb' hlr' hA'
            refine ⟨_, rfl, _, rfl, L, _, _, _, rfl, rfl, SqL.of hL', atN (vec_get (by omega)), _, _, rfl, rfl, _, rfl, _, rfl, L, _, _, nw, rfl, rfl, hL', by rw [vec_len]; exact ixN_lt (by omega), ?_⟩
            have ev : V.int (((gB tr kk B2 st : Nat) : Int) + 1) = iv (dep tr nw) := by
              rw [gst, dw]
              rfl
            generalize hz : (fun i j : Int => V.int (i + j)) ((gB tr kk B2 st : Nat) : Int) 1 = z
            have hz2 : z = iv (dep tr nw) := by rw [← hz]; exact ev
            subst hz2
            rw [vec_set]
            have sm2 := same_old sm S.two.nL (.lst (vec (tr.length + 1) fun v => if v = nw then dep tr nw else gB tr kk B2 v))
            have hA2 : upd H4 L (.lst (vec (tr.length + 1) fun v => if v = nw then dep tr nw else gB tr kk B2 v)) Aa = some (.lst (vec (tr.length + 1) fun v => if v = nw then st else fB tr kk B2 v)) := by rw [upd_ne nAL]; exact hA'
            have hb2 : upd H4 L (.lst (vec (tr.length + 1) fun v => if v = nw then dep tr nw else gB tr kk B2 v)) b = some (.lst (B2.map iv)) := by rw [upd_ne bL]; exact hb'
            have hlr2 : upd H4 L (.lst (vec (tr.length + 1) fun v => if v = nw then dep tr nw else gB tr kk B2 v)) lr = some (.lst ((lay tr kk).map iv)) := by rw [upd_ne lL]; exact hlr'
            have hL2 := upd_same (H := H4) (a := L) (o := .lst (vec (tr.length + 1) fun v => if v = nw then dep tr nw else gB tr kk B2 v))
            generalize upd H4 L (.lst (vec (tr.length + 1) fun v => if v = nw then dep tr nw else gB tr kk B2 v)) = H5 at sm2 hA2 hb2 hlr2 hL2
            refine ⟨_, rfl, .inl ⟨rfl, _, SqL.of hb2⟩, _, rfl, _, _, _, rfl, rfl, hb2, len2, ?_⟩
            have eB : B ++ ((nb tr st).take (j + 1)).filter (fun w => decide (w ≠ p0 tr st)) = B2 ++ [nw] := by
              rw [hnb, ← List.append_assoc, hB2]
              simp [hne]
            refine ⟨_, rfl, ?_⟩
            rw [eB]
            have cf : ∀ v, v < tr.length + 1 → (if v = nw then st else fB tr kk B2 v) = fB tr kk (B2 ++ [nw]) v := fun v _ => by
              unfold fB
              by_cases c : v = nw
              · subst c
                rw [if_pos rfl, if_pos (by simp), w2]
              · rw [if_neg c]
                by_cases c2 : v ∈ B2
                · rw [if_pos c2, if_pos (by simp [c2])]
                · rw [if_neg c2, if_neg (by simp [c, c2])]
            have cg : ∀ v, v < tr.length + 1 → (if v = nw then dep tr nw else gB tr kk B2 v) = gB tr kk (B2 ++ [nw]) v := fun v _ => by
              unfold gB
              by_cases c : v = nw
              · subst c
                rw [if_pos rfl, if_pos (by simp)]
              · rw [if_neg c]
                by_cases c2 : v ∈ B2
                · rw [if_pos c2, if_pos (by simp [c2])]
                · rw [if_neg c2, if_neg (by simp [c, c2])]
            refine ⟨⟨same_old sm2 nbH _, nA, S.two.nL, nAL, by rw [upd_ne bA.symm, ← vec_cong cf]; exact hA2, by rw [upd_ne bL.symm, ← vec_cong cg]; exact hL2⟩, by rw [upd_ne bl.symm]; exact hlr2, by rw [upd_same, List.map_append]; rfl⟩
          · have he : nw = p0 tr st := by
              by_cases c : nw = p0 tr st
              · exact c
              · exfalso
                apply hd
                have : ¬ (iv nw = iv (p0 tr st)) := fun z => c (iv_inj.mp z)
                simp [this]
            have eB : B ++ ((nb tr st).take (j + 1)).filter (fun w => decide (w ≠ p0 tr st)) = B2 := by
              rw [hnb, ← List.append_assoc, hB2]
              simp [he]
            refine ⟨_, rfl, ?_⟩
            rw [eB]
            exact S
        · rintro σ H' ⟨x6, rfl, S⟩
          refine ⟨_, _, rfl, ?_⟩
          rw [take_snoc hst, List.flatMap_append, hbl]
          have e1 : (nb tr st).take ((nb tr st).map iv).length = nb tr st := List.take_of_length_le (by rw [List.length_map]; exact Nat.le_refl _)
          rw [e1] at S
          have e2 : [st].flatMap (kids tr) = kids tr st := by simp
          rw [e2]
          exact S
      · rintro σ H' ⟨x1, x6, rfl, S⟩
        have e1 : (lay tr kk).take ((lay tr kk).map iv).length = lay tr kk := List.take_of_length_le (by rw [List.length_map]; exact Nat.le_refl _)
        rw [e1] at S
        have S : St3 H H' Aa L lr b tr kk (lay tr (kk + 1)) := S
        refine ⟨_, rfl, b, _, _, _, rfl, S.two.cong (fun v hv => ?_) (fun v hv => ?_), S.hb, bA, bL, nbH⟩
        · unfold fB fA
          by_cases c : v ∈ lay tr (kk + 1)
          · obtain ⟨c1, c2⟩ := (mem_lay T).mp c
            rw [if_pos c, if_pos (by omega)]
            unfold p0
            rw [if_neg]
            rintro rfl
            rw [dep_zero] at c2
            cases c2
          · rw [if_neg c]
            have c2 : dep tr v ≠ kk + 1 := fun z => c ((mem_lay T).mpr ⟨by omega, z⟩)
            by_cases c3 : dep tr v ≤ kk
            · rw [if_pos c3, if_pos (by omega)]
            · rw [if_neg c3, if_neg (by omega)]
        · unfold gB gA
          by_cases c : v ∈ lay tr (kk + 1)
          · obtain ⟨c1, c2⟩ := (mem_lay T).mp c
            rw [if_pos c, if_pos (by omega)]
          · rw [if_neg c]
            have c2 : dep tr v ≠ kk + 1 := fun z => c ((mem_lay T).mpr ⟨by omega, z⟩)
            by_cases c3 : dep tr v ≤ kk
            · rw [if_pos c3, if_pos (by omega)]
            · rw [if_neg c3, if_neg (by omega)]
    · have he : lay tr kk = [] := by
        cases e : lay tr kk with
        | nil => rfl
        | cons x r =>
          exfalso
          apply hc
          rw [e]
          rfl
      have hd := fun v (hv : v < tr.length + 1) => lay_none T he v v (Nat.le_refl _) (by omega)
      refine ⟨_, rfl, _, rfl, by show 2 ≤ sizeLine; rw [sizeLine_eq]; decide, fun t nt => ?_⟩
      refine k t Aa L _ ((tw.ext (same_upd nt _)).cong (fun v hv => ?_) (fun v hv => ?_)) upd_same
      · have := hd v hv
        unfold fA
        rw [if_pos (by omega)]
      · have := hd v hv
        unfold gA
        rw [if_pos (by omega)]
end
end TR

namespace TR
/-- tr2: the same tracks, each with the smaller end first, in some order -/
structure Norm (tr tr2 : List E2) : Prop where
  pm : tr2.Perm (tr.map fun e => (mn e, mx e))
theorem mx_norm (e : E2) : mx (mn e, mx e) = mx e := by
  unfold mx mn
  simp only
  omega
namespace Norm
variable {tr tr2 : List E2}
theorem len (n : Norm tr tr2) : tr2.length = tr.length := by rw [n.pm.length_eq, List.length_map]
theorem adj (n : Norm tr tr2) {a b : Nat} : Adj tr2 a b ↔ Adj tr a b := by
  have key : ∀ {x y : Nat}, (x, y) ∈ tr2 → Adj tr x y := fun {x y} h => by
    have h2 := n.pm.mem_iff.mp h
    obtain ⟨e, he, q⟩ := List.mem_map.mp h2
    have q1 : mn e = x := congrArg Prod.fst q
    have q2 : mx e = y := congrArg Prod.snd q
    rcases ends e with ⟨e1, e2⟩ | ⟨e1, e2⟩
    · exact .inr (by rw [← q1, ← q2, ← e1, ← e2]; exact he)
    · exact .inl (by rw [← q1, ← q2, ← e1, ← e2]; exact he)
  have back : ∀ {x y : Nat}, (x, y) ∈ tr → Adj tr2 x y := fun {x y} h => by
    have h2 : (mn (x, y), mx (x, y)) ∈ tr2 := n.pm.mem_iff.mpr (List.mem_map.mpr ⟨_, h, rfl⟩)
    rcases ends (x, y) with ⟨e1, e2⟩ | ⟨e1, e2⟩
    · have e1 : x = mx (x, y) := e1
      have e2 : y = mn (x, y) := e2
      exact .inr (by rw [← e1, ← e2] at h2; exact h2)
    · have e1 : x = mn (x, y) := e1
      have e2 : y = mx (x, y) := e2
      exact .inl (by rw [← e1, ← e2] at h2; exact h2)
  constructor
  · rintro (h | h)
    · exact key h
    · exact (key h).symm
  · rintro (h | h)
    · exact back h
    · exact (back h).symm
theorem wn (n : Norm tr tr2) : ∀ {k v : Nat}, WN tr k v → WN tr2 k v
  | 0, _, h => h
  | _ + 1, _, ⟨u, h, a⟩ => ⟨u, n.wn h, n.adj.mpr a⟩
theorem tree (n : Norm tr tr2) (T : TreeL tr) : TreeL tr2 := by
  have key : ∀ e ∈ tr2, ∃ d ∈ tr, e = (mn d, mx d) := fun e he => by
    obtain ⟨d, hd, q⟩ := List.mem_map.mp (n.pm.mem_iff.mp he)
    exact ⟨d, hd, q.symm⟩
  refine ⟨fun e he => ?_, fun e he => ?_, fun v hv => ?_⟩
  · obtain ⟨d, hd, rfl⟩ := key e he
    have := mn_lt (T.ne d hd)
    show mn d ≠ mx d
    omega
  · obtain ⟨d, hd, rfl⟩ := key e he
    have := T.le d hd
    rw [n.len]
    show mn d ≤ _ ∧ mx d ≤ _
    unfold mn mx
    omega
  · rw [n.len] at hv
    obtain ⟨k, h⟩ := T.co v hv
    exact ⟨k, n.wn h⟩
end Norm
theorem idxOf_get {l : List Nat} (nd : l.Nodup) {i p : Nat} (h : l[i]? = some p) : l.idxOf p = i := by
  have hm := List.mem_of_getElem? h
  have hl := List.idxOf_lt_length_of_mem hm
  have h2 : l[l.idxOf p]? = some p := by
    rw [List.getElem?_eq_getElem hl]
    exact congrArg some (List.getElem_idxOf hl)
  exact (List.getElem?_inj hl nd).mp (h2.trans h.symm)
end TR

namespace TR
section
variable {tr : List E2}
/-- a walk along tracks -/
def Wk (tr : List E2) : List Nat → Prop
  | a :: b :: r => Adj tr a b ∧ Wk tr (b :: r)
  | _ => True
theorem Wk.tail {a : Nat} {l : List Nat} (h : Wk tr (a :: l)) : Wk tr l := by
  cases l with
  | nil => exact trivial
  | cons b r => exact h.2
theorem Wk.snoc : ∀ {l : List Nat} {x y : Nat}, Wk tr (l ++ [x]) → Adj tr x y → Wk tr (l ++ [x] ++ [y])
  | [], x, y, _, h => ⟨h, trivial⟩
  | [a], x, y, h, k => ⟨h.1, k, trivial⟩
  | a :: b :: r, x, y, h, k => ⟨h.1, Wk.snoc (l := b :: r) h.2 k⟩
theorem Wk.glue : ∀ {l r : List Nat} {x : Nat}, Wk tr (l ++ [x]) → Wk tr (x :: r) → Wk tr (l ++ x :: r)
  | [], r, x, _, h => h
  | [a], r, x, h, k => ⟨h.1, k⟩
  | a :: b :: l, r, x, h, k => ⟨h.1, Wk.glue (l := b :: l) h.2 k⟩
theorem Wk.rev : ∀ {l : List Nat}, Wk tr l → Wk tr l.reverse
  | [], _ => trivial
  | [a], _ => trivial
  | a :: b :: r, h => by
    have ih := Wk.rev (l := b :: r) h.2
    rw [List.reverse_cons, List.reverse_cons]
    rw [List.reverse_cons] at ih
    exact Wk.snoc ih h.1.sym
structure SW (tr : List E2) (a b : Nat) (l : List Nat) : Prop where
  wk : Wk tr l
  nd : l.Nodup
  hd : l.head? = some a
  lt : l.getLast? = some b
theorem SW.one (a : Nat) : SW tr a a [a] := ⟨trivial, by simp, rfl, rfl⟩
theorem SW.mem {a b : Nat} {l : List Nat} (s : SW tr a b l) : b ∈ l := List.mem_of_getLast? s.lt
theorem SW.snoc {a b c : Nat} {l : List Nat} (s : SW tr a b l) (h : Adj tr b c) (hn : c ∉ l) : SW tr a c (l ++ [c]) := by
  obtain ⟨wk, nd, hd, lt⟩ := s
  have hne : l ≠ [] := by rintro rfl; cases hd
  obtain ⟨l', e⟩ : ∃ l', l = l' ++ [b] := by
    rw [List.getLast?_eq_some_iff] at lt
    exact lt
  refine ⟨?_, ?_, ?_, by simp⟩
  · rw [e] at wk ⊢
    exact wk.snoc h
  · rw [List.nodup_append]
    refine ⟨nd, by simp, fun x hx y hy => ?_⟩
    rw [List.mem_singleton] at hy
    rintro rfl
    exact hn (hy ▸ hx)
  · rw [List.head?_append, hd]
    rfl
theorem desc_lin {p : Nat → Nat} {x y b : Nat} (h : Desc p x b) (k : Desc p y b) : Desc p x y ∨ Desc p y x := by
  induction h with
  | self => exact .inr k
  | @up b hb d ih =>
    cases k with
    | self => exact .inl (.up hb d)
    | up _ k => exact ih k
theorem desc_tr {p : Nat → Nat} {a x b : Nat} (hx : 0 < x) (e : p x = a) (h : Desc p x b) : Desc p a b := by
  induction h with
  | self => exact .up hx (e ▸ .self)
  | up hb _ ih => exact .up hb ih
theorem sib (T : TreeL tr) {x y b : Nat} (hx : 0 < x) (hy : 0 < y) (e : par tr x = par tr y) (h : Desc (par tr) x b) (k : Desc (par tr) y b) : x = y := by
  have key : ∀ {x y : Nat}, 0 < x → 0 < y → par tr x = par tr y → Desc (par tr) x y → x = y := fun {x y} hx hy e d => by
    by_cases c : y = x
    · exact c.symm
    · have d2 := (Desc.step hy c).mp d
      rw [← e] at d2
      have := Desc.dep T d2
      have := par_dep T hx
      omega
  rcases desc_lin h k with d | d
  · exact key hx hy e d
  · exact (key hy hx e.symm d).symm
theorem walk_out (T : TreeL tr) {a : Nat} : ∀ {l : List Nat} {x : Nat}, Wk tr (x :: l) → a ∉ x :: l → ¬ Desc (par tr) a x → ∀ z ∈ x :: l, ¬ Desc (par tr) a z
  | [], x, _, _, h, z, hz => by
    rw [List.mem_singleton] at hz
    rw [hz]
    exact h
  | y :: l, x, w, na, h, z, hz => by
    rcases List.mem_cons.mp hz with rfl | hz
    · exact h
    · refine walk_out T (x := y) w.2 (fun m => na (List.mem_cons_of_mem _ m)) ?_ z hz
      have nya : y ≠ a := fun e => na (by simp [e])
      intro d
      rcases adj_par T w.1 with ⟨h1, h2, _⟩ | ⟨h1, h2, _⟩
      · exact h (.up h1 (h2 ▸ d))
      · exact h (h2 ▸ (Desc.step h1 nya).mp d)
theorem walk_in (T : TreeL tr) {c : Nat} : ∀ {l : List Nat} {x : Nat}, Wk tr (x :: l) → par tr c ∉ x :: l → Desc (par tr) c x → ∀ z ∈ x :: l, Desc (par tr) c z
  | [], x, _, _, h, z, hz => by
    rw [List.mem_singleton] at hz
    rw [hz]
    exact h
  | y :: l, x, w, na, h, z, hz => by
    rcases List.mem_cons.mp hz with rfl | hz
    · exact h
    · refine walk_in T (x := y) w.2 (fun m => na (List.mem_cons_of_mem _ m)) ?_ z hz
      rcases adj_par T w.1 with ⟨h1, h2, _⟩ | ⟨h1, h2, _⟩
      · by_cases e : x = c
        · exfalso
          apply na
          rw [← e, ← h2]
          simp
        · rw [h2]
          exact (Desc.step h1 e).mp h
      · exact .up h1 (h2 ▸ h)
/-- between two stations there is one walk without repetition -/
theorem SW.uniq (T : TreeL tr) {b : Nat} : ∀ {l l' : List Nat} {a : Nat}, SW tr a b l → SW tr a b l' → l = l'
  | [], _, _, s, _ => by cases s.hd
  | _, [], _, _, s => by cases s.hd
  | a0 :: t, a1 :: t', a, s, s' => by
    have e0 : a0 = a := Option.some.inj s.hd
    have e1 : a1 = a := Option.some.inj s'.hd
    subst e0 e1
    have one : ∀ {t : List Nat}, SW tr a1 b (a1 :: t) → a1 = b → t = [] := fun {t} s e => by
      cases t with
      | nil => rfl
      | cons x r =>
        exfalso
        have hb : b ∈ x :: r := by
          have := s.lt
          rw [List.getLast?_cons_cons] at this
          exact List.mem_of_getLast? this
        rw [← e] at hb
        exact (List.nodup_cons.mp s.nd).1 hb
    by_cases c : a1 = b
    · rw [one s c, one s' c]
    · cases t with
      | nil => exact absurd (Option.some.inj s.lt) c
      | cons x r =>
        cases t' with
        | nil => exact absurd (Option.some.inj s'.lt) c
        | cons x' r' =>
          have sub : ∀ {x : Nat} {r : List Nat}, SW tr a1 b (a1 :: x :: r) → SW tr x b (x :: r) ∧ a1 ∉ x :: r ∧ Adj tr a1 x := fun {x r} s =>
            ⟨⟨s.wk.2, (List.nodup_cons.mp s.nd).2, rfl, by have := s.lt; rw [List.getLast?_cons_cons] at this; exact this⟩, (List.nodup_cons.mp s.nd).1, s.wk.1⟩
          obtain ⟨s1, n1, j1⟩ := sub s
          obtain ⟨s2, n2, j2⟩ := sub s'
          have out : ∀ {x : Nat} {r : List Nat}, SW tr x b (x :: r) → a1 ∉ x :: r → 0 < a1 → x = par tr a1 → ¬ Desc (par tr) a1 b := fun {x r} s n h e => by
            refine walk_out T s.wk n ?_ b s.mem
            intro d
            rw [e] at d
            have := Desc.dep T d
            have := par_dep T h
            omega
          have inn : ∀ {x : Nat} {r : List Nat}, SW tr x b (x :: r) → a1 ∉ x :: r → a1 = par tr x → Desc (par tr) x b := fun {x r} s n e => walk_in T s.wk (e ▸ n) .self b s.mem
          have exx : x = x' := by
            rcases adj_par T j1 with ⟨h1, h2, _⟩ | ⟨h1, h2, _⟩
            · rcases adj_par T j2 with ⟨k1, k2, _⟩ | ⟨k1, k2, _⟩
              · rw [h2, k2]
              · exact absurd (desc_tr k1 k2.symm (inn s2 n2 k2)) (out s1 n1 h1 h2)
            · rcases adj_par T j2 with ⟨k1, k2, _⟩ | ⟨k1, k2, _⟩
              · exact absurd (desc_tr h1 h2.symm (inn s1 n1 h2)) (out s2 n2 k1 k2)
              · exact sib T h1 k1 (h2.symm.trans k2) (inn s1 n1 h2) (inn s2 n2 k2)
          subst exx
          rw [SW.uniq T s1 s2]
end
end TR

namespace TR
section
variable {tr : List E2}
/-- two ways up, from a and from b, at x and y -/
structure Clb (tr : List E2) (a b x y : Nat) (F B : List Nat) : Prop where
  wf : Wk tr (F ++ [x])
  wb : Wk tr (B ++ [y])
  hf : (F ++ [x]).head? = some a
  hb : (B ++ [y]).head? = some b
  nf : (F ++ [x]).Nodup
  nb : (B ++ [y]).Nodup
  k1 : ∀ z ∈ F, z ∉ B ++ [y]
  k2 : ∀ w ∈ B, w ∉ F ++ [x]
  k3 : ∀ w ∈ B, dep tr x ≤ dep tr w
  k4 : ∀ z ∈ F, dep tr y < dep tr z
  fx : ∀ z ∈ F, dep tr x < dep tr z
  by_ : ∀ w ∈ B, dep tr y < dep tr w
  lx : x ≤ tr.length
  ly : y ≤ tr.length
  lf : ∀ z ∈ F, z ≤ tr.length
  lb : ∀ z ∈ B, z ≤ tr.length
theorem Clb.start {a b : Nat} (ha : a ≤ tr.length) (hb : b ≤ tr.length) : Clb tr a b a b [] [] :=
  ⟨trivial, trivial, rfl, rfl, by simp, by simp, (fun _ h => nomatch h), (fun _ h => nomatch h), (fun _ h => nomatch h), (fun _ h => nomatch h), (fun _ h => nomatch h), (fun _ h => nomatch h), ha, hb, (fun _ h => nomatch h), (fun _ h => nomatch h)⟩
theorem head_app {l : List Nat} {x y a : Nat} (h : (l ++ [x]).head? = some a) : (l ++ [x] ++ [y]).head? = some a := by
  rw [List.head?_append, h]
  rfl
theorem nd_snoc {l : List Nat} {x : Nat} (h : l.Nodup) (hx : x ∉ l) : (l ++ [x]).Nodup := by
  rw [List.nodup_append]
  refine ⟨h, by simp, fun u hu v hv => ?_⟩
  rw [List.mem_singleton] at hv
  rintro rfl
  exact hx (hv ▸ hu)
theorem mem_snoc {l : List Nat} {x z : Nat} : z ∈ l ++ [x] ↔ z ∈ l ∨ z = x := by simp
theorem Clb.up1 (T : TreeL tr) {a b x y : Nat} {F B : List Nat} (c : Clb tr a b x y F B) (ne : x ≠ y) (h : dep tr y < dep tr x) : 0 < x ∧ dep tr (par tr x) < dep tr x ∧ Clb tr a b (par tr x) y (F ++ [x]) B := by
  have hx : 0 < x := by
    by_cases z : x = 0
    · rw [z, dep_zero] at h
      omega
    · omega
  have ds := dep_succ T hx
  refine ⟨hx, by omega, c.wf.snoc (par_adj T hx c.lx), c.wb, head_app c.hf, c.hb, nd_snoc c.nf ?_, c.nb, ?_, ?_, ?_, ?_, ?_, c.by_, T.par_le x, c.ly, ?_, c.lb⟩
  · intro m
    rcases mem_snoc.mp m with m | m
    · have := c.fx _ m
      omega
    · rw [m] at ds
      omega
  · intro z hz
    rcases mem_snoc.mp hz with hz | rfl
    · exact c.k1 z hz
    · intro m
      rcases mem_snoc.mp m with m | m
      · exact c.k2 z m (by simp)
      · exact ne m
  · intro w hw m
    rcases mem_snoc.mp m with m | m
    · exact c.k2 w hw m
    · have := c.k3 w hw
      rw [m] at this
      omega
  · intro w hw
    have := c.k3 w hw
    omega
  · intro z hz
    rcases mem_snoc.mp hz with hz | rfl
    · exact c.k4 z hz
    · exact h
  · intro z hz
    rcases mem_snoc.mp hz with hz | rfl
    · have := c.fx z hz
      omega
    · omega
  · intro z hz
    rcases mem_snoc.mp hz with hz | rfl
    · exact c.lf z hz
    · exact c.lx
theorem Clb.up2 (T : TreeL tr) {a b x y : Nat} {F B : List Nat} (c : Clb tr a b x y F B) (ne : x ≠ y) (h : ¬ dep tr y < dep tr x) : 0 < y ∧ dep tr (par tr y) < dep tr y ∧ Clb tr a b x (par tr y) F (B ++ [y]) := by
  have hy : 0 < y := by
    by_cases z : y = 0
    · exfalso
      subst z
      rw [dep_zero] at h
      have : 0 < x := by omega
      rw [dep_succ T this] at h
      omega
    · omega
  have ds := dep_succ T hy
  refine ⟨hy, by omega, c.wf, c.wb.snoc (par_adj T hy c.ly), c.hf, head_app c.hb, c.nf, nd_snoc c.nb ?_, ?_, ?_, ?_, ?_, c.fx, ?_, c.lx, T.par_le y, c.lf, ?_⟩
  · intro m
    rcases mem_snoc.mp m with m | m
    · have := c.by_ _ m
      omega
    · rw [m] at ds
      omega
  · intro z hz m
    rcases mem_snoc.mp m with m | m
    · exact c.k1 z hz m
    · have := c.k4 z hz
      rw [m] at this
      omega
  · intro w hw
    rcases mem_snoc.mp hw with hw | rfl
    · exact c.k2 w hw
    · intro m
      rcases mem_snoc.mp m with m | m
      · exact c.k1 w m (by simp)
      · exact ne m.symm
  · intro w hw
    rcases mem_snoc.mp hw with hw | rfl
    · exact c.k3 w hw
    · omega
  · intro z hz
    have := c.k4 z hz
    omega
  · intro w hw
    rcases mem_snoc.mp hw with hw | rfl
    · have := c.by_ w hw
      omega
    · omega
  · intro z hz
    rcases mem_snoc.mp hz with hz | rfl
    · exact c.lb z hz
    · exact c.ly
theorem Clb.done {a b x : Nat} {F B : List Nat} (c : Clb tr a b x x F B) : SW tr a b (F ++ [x] ++ B.reverse) := by
  have hr : Wk tr (x :: B.reverse) := by
    have := c.wb.rev
    rw [List.reverse_append] at this
    exact this
  refine ⟨?_, ?_, ?_, ?_⟩
  · rw [List.append_assoc]
    exact c.wf.glue hr
  · rw [List.nodup_append]
    refine ⟨c.nf, ?_, fun u hu v hv => ?_⟩
    · exact (List.reverse_perm B).nodup_iff.mpr (List.nodup_append.mp c.nb).1
    · rintro rfl
      exact c.k2 u (List.mem_reverse.mp hv) hu
  · rw [List.head?_append, c.hf]
    rfl
  · cases B with
    | nil =>
      have e : x = b := Option.some.inj c.hb
      rw [e]
      simp
    | cons w r =>
      have e : w = b := Option.some.inj c.hb
      rw [List.getLast?_append, List.getLast?_reverse, e]
      rfl
end
end TR

namespace TR
section
variable {tr : List E2}
theorem SW.norm {tr2 : List E2} (n : Norm tr tr2) {a b : Nat} {l : List Nat} (s : SW tr2 a b l) : SW tr a b l := by
  refine ⟨?_, s.nd, s.hd, s.lt⟩
  have : ∀ {l : List Nat}, Wk tr2 l → Wk tr l := by
    intro l
    induction l with
    | nil => exact fun _ => trivial
    | cons a r ih =>
      cases r with
      | nil => exact fun _ => trivial
      | cons b r => exact fun h => ⟨n.adj.mp h.1, ih h.2⟩
  exact this s.wk
/-- the search's state: found, still to be looked at -/
structure Bf (tr : List E2) (st : Nat) (xs qs : List Nat) : Prop where
  st_ : st ∈ xs
  nd : xs.Nodup
  le : ∀ x ∈ xs, x ≤ tr.length
  sub : ∀ q ∈ qs, q ∈ xs
  cl : ∀ x ∈ xs, x ∉ qs → ∀ y, Adj tr x y → y ∈ xs
theorem Bf.start {st : Nat} (h : st ≤ tr.length) : Bf tr st [st] [st] :=
  ⟨by simp, by simp, fun x hx => by rw [List.mem_singleton] at hx; omega, fun q hq => hq, fun x hx hn => absurd hx hn⟩
/-- one station is being looked at, j of its neighbours have been -/
structure Bg (tr : List E2) (st sp j : Nat) (xs qs : List Nat) : Prop where
  st_ : st ∈ xs
  nd : xs.Nodup
  le : ∀ x ∈ xs, x ≤ tr.length
  sub : ∀ q ∈ qs, q ∈ xs
  cl : ∀ x ∈ xs, x ∉ qs → x ≠ sp → ∀ y, Adj tr x y → y ∈ xs
  sp_ : sp ∈ xs
  dn : ∀ y ∈ (nb tr sp).take j, y ∈ xs
theorem Bf.pop {st sp : Nat} {xs qs : List Nat} (b : Bf tr st xs (sp :: qs)) : Bg tr st sp 0 xs qs :=
  ⟨b.st_, b.nd, b.le, fun q hq => b.sub q (List.mem_cons_of_mem _ hq), fun x hx hn ne => b.cl x hx (fun h => by rcases List.mem_cons.mp h with h | h; exact ne h; exact hn h), b.sub sp (by simp), fun y hy => by rw [List.take_zero] at hy; cases hy⟩
theorem Bg.skip {st sp j y : Nat} {xs qs : List Nat} (b : Bg tr st sp j xs qs) (hy : (nb tr sp)[j]? = some y) (h : y ∈ xs) : Bg tr st sp (j + 1) xs qs := by
  refine ⟨b.st_, b.nd, b.le, b.sub, b.cl, b.sp_, fun z hz => ?_⟩
  rw [List.take_succ, hy] at hz
  rcases List.mem_append.mp hz with hz | hz
  · exact b.dn z hz
  · have : z = y := by simpa using hz
    rw [this]
    exact h
theorem Bg.add (T : TreeL tr) {st sp j y : Nat} {xs qs : List Nat} (b : Bg tr st sp j xs qs) (hy : (nb tr sp)[j]? = some y) (h : y ∉ xs) : Bg tr st sp (j + 1) (xs ++ [y]) (qs ++ [y]) := by
  have ha : Adj tr sp y := (mem_nb T.ne).mp (List.mem_of_getElem? hy)
  have hl : y ≤ tr.length := by
    exact (T.adj_le ha).2
  refine ⟨List.mem_append_left _ b.st_, nd_snoc b.nd h, fun x hx => ?_, fun q hq => ?_, fun x hx hn ne z hz => ?_, List.mem_append_left _ b.sp_, fun z hz => ?_⟩
  · rcases mem_snoc.mp hx with hx | rfl
    · exact b.le x hx
    · exact hl
  · rcases mem_snoc.mp hq with hq | rfl
    · exact List.mem_append_left _ (b.sub q hq)
    · simp
  · rcases mem_snoc.mp hx with hx | rfl
    · exact List.mem_append_left _ (b.cl x hx (fun m => hn (List.mem_append_left _ m)) ne z hz)
    · exact absurd (by simp) hn
  · rw [List.take_succ, hy] at hz
    rcases List.mem_append.mp hz with hz | hz
    · exact List.mem_append_left _ (b.dn z hz)
    · have : z = y := by simpa using hz
      rw [this]
      simp
theorem Bg.back (T : TreeL tr) {st sp : Nat} {xs qs : List Nat} (b : Bg tr st sp (nb tr sp).length xs qs) : Bf tr st xs qs := by
  refine ⟨b.st_, b.nd, b.le, b.sub, fun x hx hn y hy => ?_⟩
  by_cases c : x = sp
  · subst c
    apply b.dn
    rw [List.take_length]
    exact (mem_nb T.ne).mpr hy
  · exact b.cl x hx hn c y hy
theorem Bf.all (T : TreeL tr) {st : Nat} {xs : List Nat} (b : Bf tr st xs []) : ∀ x, x ≤ tr.length → x ∈ xs := by
  have cl : ∀ x ∈ xs, ∀ y, Adj tr x y → y ∈ xs := fun x hx => b.cl x hx (by simp)
  have up : ∀ (k x : Nat), dep tr x ≤ k → x ∈ xs → 0 ∈ xs := by
    intro k
    induction k with
    | zero =>
      intro x hx h
      by_cases c : x = 0
      · rw [← c]
        exact h
      · have := dep_succ T (y := x) (by omega)
        omega
    | succ k ih =>
      intro x hx h
      by_cases c : x = 0
      · rw [← c]
        exact h
      · have hlt := dep_succ T (y := x) (by omega)
        exact ih (par tr x) (by omega) (cl x h _ (par_adj T (by omega) (b.le x h)))
  have h0 := up _ st (Nat.le_refl _) b.st_
  have dn : ∀ (k x : Nat), dep tr x ≤ k → x ≤ tr.length → x ∈ xs := by
    intro k
    induction k with
    | zero =>
      intro x hx _
      by_cases c : x = 0
      · rw [c]
        exact h0
      · have := dep_succ T (y := x) (by omega)
        omega
    | succ k ih =>
      intro x hx hl
      by_cases c : x = 0
      · rw [c]
        exact h0
      · have hlt := dep_succ T (y := x) (by omega)
        exact cl _ (ih (par tr x) (by omega) (T.par_le x)) _ (par_adj T (by omega) hl).sym
  exact fun x hx => dn _ x (Nat.le_refl _) hx
theorem Bf.len {st : Nat} {xs qs : List Nat} (b : Bf tr st xs qs) : xs.length ≤ tr.length + 1 := nd_len b.nd b.le
theorem Bg.len {st sp j : Nat} {xs qs : List Nat} (b : Bg tr st sp j xs qs) : xs.length ≤ tr.length + 1 := nd_len b.nd b.le
end
end TR

namespace TR
section
variable {tr : List E2}
/-- the stations of a layer, each with where it was entered from -/
def nxt (tr : List E2) (x : Nat × Option Nat) : List (Nat × Option Nat) := ((nb tr x.1).filter fun w => decide (some w ≠ x.2)).map fun w => (w, some x.1)
def lyr (tr : List E2) (s : Nat) (b : Option Nat) : Nat → List (Nat × Option Nat)
  | 0 => [(s, b)]
  | k + 1 => (lyr tr s b k).flatMap (nxt tr)
theorem mem_nxt (T : TreeL tr) {x y : Nat × Option Nat} : y ∈ nxt tr x ↔ Adj tr x.1 y.1 ∧ some y.1 ≠ x.2 ∧ y.2 = some x.1 := by
  unfold nxt
  rw [List.mem_map]
  constructor
  · rintro ⟨w, hw, rfl⟩
    rw [List.mem_filter, mem_nb T.ne] at hw
    exact ⟨hw.1, of_decide_eq_true hw.2, rfl⟩
  · rintro ⟨h1, h2, h3⟩
    refine ⟨y.1, ?_, ?_⟩
    · rw [List.mem_filter, mem_nb T.ne]
      exact ⟨h1, decide_eq_true h2⟩
    · rw [← h3]
noncomputable def ms (tr : List E2) (x : Nat × Option Nat) : Nat := if 0 < x.1 ∧ x.2 = some (par tr x.1) then tr.length + 1 - dep tr x.1 else tr.length + 1 + dep tr x.1
theorem ms_nxt (T : TreeL tr) {x y : Nat × Option Nat} (hx : x.1 ≤ tr.length) (h : y ∈ nxt tr x) : ms tr y < ms tr x ∧ y.1 ≤ tr.length := by
  obtain ⟨v, e⟩ := x
  obtain ⟨w, e'⟩ := y
  obtain ⟨h1, h2, h3⟩ := (mem_nxt T).mp h
  have h3 : e' = some v := h3
  subst h3
  have h2 : some w ≠ e := h2
  have hx : v ≤ tr.length := hx
  have h1 : Adj tr v w := h1
  unfold ms
  rcases adj_par T h1 with ⟨a1, a2, a3⟩ | ⟨a1, a2, a3⟩
  · have lt := dep_succ T a1
    rw [← a2] at lt
    have c1 : ¬ (0 < v ∧ e = some (par tr v)) := fun z => h2 (by rw [z.2, a2])
    have c2 : ¬ (0 < w ∧ some v = some (par tr w)) := fun z => by
      have e1 := Option.some.inj z.2
      have := dep_succ T z.1
      rw [← e1] at this
      omega
    show (if 0 < w ∧ some v = some (par tr w) then _ else _) < (if 0 < v ∧ e = some (par tr v) then _ else _) ∧ w ≤ tr.length
    rw [if_neg c1, if_neg c2]
    refine ⟨?_, (T.adj_le h1).2⟩
    show tr.length + 1 + dep tr w < tr.length + 1 + dep tr v
    omega
  · have lt := dep_succ T a1
    rw [← a2] at lt
    have dv := dep_le T a3
    have c2 : 0 < w ∧ some v = some (par tr w) := ⟨a1, by rw [a2]⟩
    show (if 0 < w ∧ some v = some (par tr w) then _ else _) < (if 0 < v ∧ e = some (par tr v) then _ else _) ∧ w ≤ tr.length
    rw [if_pos c2]
    refine ⟨?_, a3⟩
    show tr.length + 1 - dep tr w < _
    split
    · show _ < tr.length + 1 - dep tr v
      omega
    · show _ < tr.length + 1 + dep tr v
      omega
theorem lyr_ms (T : TreeL tr) {s : Nat} {b : Option Nat} (hs : s ≤ tr.length) : ∀ (k : Nat) (x : Nat × Option Nat), x ∈ lyr tr s b k → ms tr x + k ≤ 2 * tr.length + 2 ∧ x.1 ≤ tr.length
  | 0, x, h => by
    have e : x = (s, b) := by simpa [lyr] using h
    subst e
    refine ⟨?_, hs⟩
    have := dep_le T hs
    unfold ms
    split <;> (simp only; omega)
  | k + 1, x, h => by
    have h : x ∈ (lyr tr s b k).flatMap (nxt tr) := h
    obtain ⟨y, hy, hx⟩ := List.mem_flatMap.mp h
    obtain ⟨i1, i2⟩ := lyr_ms T hs k y hy
    obtain ⟨j1, j2⟩ := ms_nxt T i2 hx
    exact ⟨by omega, j2⟩
theorem lyr_le (T : TreeL tr) {s : Nat} {b : Option Nat} (hs : s ≤ tr.length) {k : Nat} (h : lyr tr s b k ≠ []) : k ≤ 2 * tr.length + 2 := by
  obtain ⟨x, hx⟩ := List.exists_mem_of_ne_nil _ h
  have := (lyr_ms T hs k x hx).1
  omega
/-- a part of a walk without repetition -/
theorem SW.part {a b : Nat} {l r : List Nat} {w : Nat} (s : SW tr a b (l ++ w :: r)) : SW tr w b (w :: r) := by
  refine ⟨?_, (List.nodup_append.mp s.nd).2.1, rfl, ?_⟩
  · have : ∀ {l : List Nat}, Wk tr (l ++ w :: r) → Wk tr (w :: r) := by
      intro l
      induction l with
      | nil => exact fun h => h
      | cons c l ih => exact fun h => ih h.tail
    exact this s.wk
  · have := s.lt
    rw [List.getLast?_append] at this
    cases e : (w :: r).getLast? with
    | none => simp at e
    | some z =>
      rw [e] at this
      exact this
/-- a walk is gone on with, not back -/
theorem SW.on (T : TreeL tr) {a v w : Nat} {l : List Nat} {e : Option Nat} (s : SW tr a v l) (he : ∀ l', l = l' ++ [v] → l' ≠ [] → l'.getLast? = e) (h : Adj tr v w) (hw : some w ≠ e) : SW tr a w (l ++ [w]) := by
  refine s.snoc h fun hm => ?_
  have hvw : v ≠ w := fun z => by
    subst z
    rcases h with h | h
    · exact T.ne _ h rfl
    · exact T.ne _ h rfl
  obtain ⟨p, r, rfl⟩ := List.append_of_mem hm
  have s1 := s.part
  have s2 : SW tr w v [w, v] := ⟨⟨h.symm, trivial⟩, by simp; exact fun z => hvw z.symm, rfl, rfl⟩
  have e1 := SW.uniq T s1 s2
  have e2 : r = [v] := by
    have := List.cons.inj e1
    exact this.2
  subst e2
  have := he (p ++ [w]) (by simp) (by simp)
  rw [List.getLast?_append] at this
  exact hw this
/-- each station of a layer is reached by a walk of its own -/
theorem lyr_sw (T : TreeL tr) {s : Nat} {b : Option Nat} : ∀ (k : Nat) (x : Nat × Option Nat), x ∈ lyr tr s b k → ∃ l, SW tr s x.1 l ∧ l.length = k + 1 ∧ (∀ l', l = l' ++ [x.1] → l' ≠ [] → l'.getLast? = x.2)
  | 0, x, h => by
    have e : x = (s, b) := by simpa [lyr] using h
    subst e
    refine ⟨[s], SW.one s, rfl, fun l' h1 h2 => ?_⟩
    exfalso
    have := congrArg List.length h1
    rw [List.length_append] at this
    have : l'.length = 0 := by
      simp at this
      exact this ▸ rfl
    exact h2 (List.length_eq_zero_iff.mp this)
  | k + 1, x, h => by
    have h : x ∈ (lyr tr s b k).flatMap (nxt tr) := h
    obtain ⟨y, hy, hx⟩ := List.mem_flatMap.mp h
    obtain ⟨l, i1, i2, i3⟩ := lyr_sw T k y hy
    obtain ⟨h1, h2, h3⟩ := (mem_nxt T).mp hx
    refine ⟨l ++ [x.1], i1.on T i3 h1 h2, by rw [List.length_append, i2]; rfl, fun l' e1 e2 => ?_⟩
    have := (List.append_inj' e1 rfl).1
    rw [← this, h3]
    exact i1.lt
end
end TR

namespace TR
section
variable {tr : List E2}
theorem nxt_fst {x : Nat × Option Nat} : (nxt tr x).map Prod.fst = (nb tr x.1).filter fun w => decide (some w ≠ x.2) := by
  unfold nxt
  rw [List.map_map]
  have : (Prod.fst ∘ fun w => ((w, some x.1) : Nat × Option Nat)) = id := rfl
  rw [this, List.map_id]
/-- the stations of a layer are different -/
theorem lyr_nd (T : TreeL tr) {s : Nat} {b : Option Nat} : ∀ k, ((lyr tr s b k).map Prod.fst).Nodup
  | 0 => by
    show [s].Nodup
    simp
  | k + 1 => by
    have key : ∀ {L : List (Nat × Option Nat)}, (∀ x ∈ L, x ∈ lyr tr s b k) → (L.map Prod.fst).Nodup → ((L.flatMap (nxt tr)).map Prod.fst).Nodup := by
      intro L
      induction L with
      | nil => exact fun _ _ => List.nodup_nil
      | cons x L ih =>
        intro hL hn
        rw [List.map_cons, List.nodup_cons] at hn
        have e : (x :: L).flatMap (nxt tr) = nxt tr x ++ L.flatMap (nxt tr) := rfl
        rw [e, List.map_append, List.nodup_append]
        refine ⟨?_, ih (fun y hy => hL y (List.mem_cons_of_mem _ hy)) hn.2, ?_⟩
        · rw [nxt_fst]
          exact (nb_nd T _).filter _
        · rintro w hw w' hw' rfl
          obtain ⟨y, hy, ey⟩ := List.mem_map.mp hw
          obtain ⟨y', hy', ey'⟩ := List.mem_map.mp hw'
          obtain ⟨z, hz, hyz⟩ := List.mem_flatMap.mp hy'
          have m1 : y ∈ lyr tr s b (k + 1) := List.mem_flatMap.mpr ⟨x, hL x (by simp), hy⟩
          have m2 : y' ∈ lyr tr s b (k + 1) := List.mem_flatMap.mpr ⟨z, hL z (List.mem_cons_of_mem _ hz), hyz⟩
          obtain ⟨l, a1, a2, a3⟩ := lyr_sw T (k + 1) y m1
          obtain ⟨l', b1, b2, b3⟩ := lyr_sw T (k + 1) y' m2
          rw [ey] at a1 a3
          rw [ey'] at b1 b3
          have el := SW.uniq T a1 b1
          subst el
          obtain ⟨q, hq⟩ : ∃ q, l = q ++ [w] := by
            have := a1.lt
            rw [List.getLast?_eq_some_iff] at this
            exact this
          have qne : q ≠ [] := by
            rintro rfl
            rw [hq] at a2
            simp at a2
          have e1 := a3 q hq qne
          have e2 := b3 q hq qne
          rw [((mem_nxt T).mp hy).2.2] at e1
          rw [((mem_nxt T).mp hyz).2.2] at e2
          have exz : x.1 = z.1 := Option.some.inj (e1.symm.trans e2)
          exact hn.1 (by rw [exz]; exact List.mem_map_of_mem hz)
    exact key (fun x hx => hx) (lyr_nd T k)
theorem lyr_len (T : TreeL tr) {s : Nat} {b : Option Nat} (hs : s ≤ tr.length) (k : Nat) : (lyr tr s b k).length ≤ tr.length + 1 := by
  have h := nd_len (n := tr.length) (lyr_nd T (s := s) (b := b) k) (fun x hx => by
    obtain ⟨y, hy, rfl⟩ := List.mem_map.mp hx
    exact (lyr_ms T hs k y hy).2)
  rw [List.length_map] at h
  exact h
end
end TR

namespace TR
def nrm (e : E2) : E2 := (mn e, mx e)
/-- pairs in their order -/
def lexle (a b : E2) : Bool := decide (a.1 < b.1) || (decide (a.1 = b.1) && decide (a.2 ≤ b.2))
theorem lexle_iff {a b : E2} : lexle a b = true ↔ a.1 < b.1 ∨ (a.1 = b.1 ∧ a.2 ≤ b.2) := by
  unfold lexle
  simp
def srt2 (l : List E2) : List E2 := l.mergeSort lexle
theorem srt2_perm (l : List E2) : (srt2 l).Perm l := List.mergeSort_perm l _
theorem srt2_le (l : List E2) : (srt2 l).Pairwise (fun a b => lexle a b = true) :=
  List.pairwise_mergeSort (le := lexle) (fun a b c h k => by
    rw [lexle_iff] at h k ⊢
    omega) (fun a b => by
    rw [Bool.or_eq_true, lexle_iff, lexle_iff]
    omega) l
theorem srt2_of {l l' : List E2} (hp : l'.Perm l) (hs : l'.Pairwise (fun a b => lexle a b = true)) : l' = srt2 l := by
  refine List.Perm.eq_of_pairwise (le := fun a b => lexle a b = true) (fun a b _ _ h1 h2 => ?_) hs (srt2_le l) (hp.trans (srt2_perm l).symm)
  rw [lexle_iff] at h1 h2
  have e1 : a.1 = b.1 := by omega
  have e2 : a.2 = b.2 := by omega
  exact Prod.ext e1 e2
theorem srt2_perm_eq {l l' : List E2} (h : l.Perm l') : srt2 l = srt2 l' := srt2_of ((srt2_perm l).trans h) (srt2_le l)
theorem srt2_srt2 (l : List E2) : srt2 (srt2 l) = srt2 l := (srt2_of (srt2_perm l |>.trans (List.Perm.refl l)) (srt2_le l) ▸ (srt2_perm_eq (srt2_perm l)))
/-- the tracks as a railway tells them -/
def nrmS (tr : List E2) : List E2 := srt2 (tr.map nrm)
theorem nrmS_len (tr : List E2) : (nrmS tr).length = tr.length := by
  unfold nrmS
  rw [(srt2_perm _).length_eq, List.length_map]
theorem nrm_nrm (e : E2) : nrm (nrm e) = nrm e := by
  unfold nrm mn mx
  simp only [Prod.mk.injEq]
  omega
theorem nrm_lt {e : E2} (h : e.1 < e.2) : nrm e = e := by
  unfold nrm mn mx
  exact Prod.ext (by simp only; omega) (by simp only; omega)
theorem nrmS_nrmS (tr : List E2) : nrmS (nrmS tr) = nrmS tr := by
  unfold nrmS
  rw [srt2_perm_eq ((srt2_perm (tr.map nrm)).map nrm), List.map_map]
  congr 1
  exact List.map_congr_left fun e _ => nrm_nrm e
theorem nrmS_perm {tr tr' : List E2} (h : tr.Perm tr') : nrmS tr = nrmS tr' := srt2_perm_eq (h.map nrm)
theorem nrmS_norm (tr : List E2) : Norm tr (nrmS tr) := ⟨srt2_perm _⟩
theorem nrmS_mem {tr : List E2} {e : E2} (h : e ∈ nrmS tr) : ∃ d ∈ tr, e = nrm d := by
  obtain ⟨d, hd, q⟩ := List.mem_map.mp ((srt2_perm _).mem_iff.mp h)
  exact ⟨d, hd, q.symm⟩
theorem nrmS_lt {tr : List E2} (T : TreeL tr) {e : E2} (h : e ∈ nrmS tr) : e.1 < e.2 := by
  obtain ⟨d, hd, rfl⟩ := nrmS_mem h
  exact mn_lt (T.ne d hd)
theorem TreeL.nS {tr : List E2} (T : TreeL tr) : TreeL (nrmS tr) := (nrmS_norm tr).tree T
/-- tracks as they are drawn: each greater end once -/
theorem tree_drawn {tr : List E2} (ne : ∀ e ∈ tr, e.1 ≠ e.2) (pm : (tr.map mx).Perm (List.range' 1 tr.length)) : TreeL tr := by
  have bd : ∀ e ∈ tr, mx e ≤ tr.length := fun e h => by
    have := pm.mem_iff.mp (List.mem_map_of_mem (f := mx) h)
    rw [List.mem_range'] at this
    obtain ⟨i, h1, h2⟩ := this
    omega
  refine ⟨ne, fun e h => by have := bd e h; unfold mx at this; omega, ?_⟩
  intro v
  induction v using Nat.strongRecOn with
  | ind v ih =>
    intro hv
    by_cases c : v = 0
    · exact ⟨0, c⟩
    · have : v ∈ tr.map mx := pm.mem_iff.mpr (by rw [List.mem_range']; exact ⟨v - 1, by omega, by omega⟩)
      obtain ⟨e, he, q⟩ := List.mem_map.mp this
      have h1 := mn_lt (ne e he)
      obtain ⟨k, hk⟩ := ih (mn e) (by omega) (by omega)
      refine ⟨k + 1, mn e, hk, ?_⟩
      rw [← q]
      rcases ends e with ⟨e1, e2⟩ | ⟨e1, e2⟩
      · exact .inr (by rw [← e1, ← e2]; exact he)
      · exact .inl (by rw [← e1, ← e2]; exact he)
theorem tree_nil : TreeL [] := tree_drawn (fun _ h => nomatch h) (List.Perm.refl _)
theorem tree_perm {tr tr' : List E2} (T : TreeL tr) (h : tr'.Perm tr) : TreeL tr' := by
  have adj : ∀ {a b}, Adj tr a b → Adj tr' a b := fun {a b} q => q.imp h.mem_iff.mpr h.mem_iff.mpr
  have wn : ∀ k v, WN tr k v → WN tr' k v := by
    intro k
    induction k with
    | zero => exact fun v h => h
    | succ k ih => exact fun v ⟨u, h1, h2⟩ => ⟨u, ih u h1, adj h2⟩
  refine ⟨fun e he => T.ne e (h.mem_iff.mp he), fun e he => by rw [h.length_eq]; exact T.le e (h.mem_iff.mp he), fun v hv => ?_⟩
  obtain ⟨k, hk⟩ := T.co v (by rw [← h.length_eq]; exact hv)
  exact ⟨k, wn k v hk⟩
theorem wn_app {tr tr' : List E2} : ∀ {k v}, WN tr k v → WN (tr ++ tr') k v
  | 0, v, h => h
  | k + 1, v, ⟨u, h1, h2⟩ => ⟨u, wn_app h1, h2.imp (List.mem_append_left _) (List.mem_append_left _)⟩
/-- a new station -/
theorem TreeL.push {tr : List E2} (T : TreeL tr) {x : Nat} (h : x ≤ tr.length) : TreeL (tr ++ [(x, tr.length + 1)]) := by
  refine ⟨fun d hd => ?_, fun d hd => ?_, fun v hv => ?_⟩
  · rcases List.mem_append.mp hd with h1 | h1
    · exact T.ne d h1
    · rw [List.mem_singleton.mp h1]
      show x ≠ tr.length + 1
      omega
  · rw [List.length_append, List.length_singleton]
    rcases List.mem_append.mp hd with h1 | h1
    · have := T.le d h1
      omega
    · rw [List.mem_singleton.mp h1]
      show x ≤ _ ∧ tr.length + 1 ≤ _
      omega
  · rw [List.length_append, List.length_singleton] at hv
    by_cases c : v ≤ tr.length
    · obtain ⟨k, hk⟩ := T.co v c
      exact ⟨k, wn_app hk⟩
    · have : v = tr.length + 1 := by omega
      subst this
      obtain ⟨k, hk⟩ := T.co x h
      exact ⟨k + 1, x, wn_app hk, .inl (by simp)⟩
end TR

namespace TR
open PySem PySem.Spec PyProof.Rows L2 L2.TT StX ClX
theorem f01 : ¬ (("_tracks" : Str) = "_neighbours") := by decide +kernel
theorem f02 : ¬ (("_tracks" : Str) = "_above") := by decide +kernel
theorem f03 : ¬ (("_tracks" : Str) = "_levels") := by decide +kernel
theorem f12 : ¬ (("_neighbours" : Str) = "_above") := by decide +kernel
theorem f13 : ¬ (("_neighbours" : Str) = "_levels") := by decide +kernel
theorem f23 : ¬ (("_above" : Str) = "_levels") := by decide +kernel
def flR (tt na A L : Addr) : List (Str × V) := putF "_levels" (.ref L) (putF "_above" (.ref A) (putF "_neighbours" (.ref na) (putF "_tracks" (.ref tt) [])))
theorem flR_t {tt na A L : Addr} : (flR tt na A L).lookup ("_tracks" : Str) = some (.ref tt) := by
  unfold flR
  rw [lookup_putF, if_neg f03, lookup_putF, if_neg f02, lookup_putF, if_neg f01, lookup_putF, if_pos rfl]
theorem flR_n {tt na A L : Addr} : (flR tt na A L).lookup ("_neighbours" : Str) = some (.ref na) := by
  unfold flR
  rw [lookup_putF, if_neg f13, lookup_putF, if_neg f12, lookup_putF, if_pos rfl]
theorem flR_a {tt na A L : Addr} : (flR tt na A L).lookup ("_above" : Str) = some (.ref A) := by
  unfold flR
  rw [lookup_putF, if_neg f23, lookup_putF, if_pos rfl]
theorem flR_l {tt na A L : Addr} : (flR tt na A L).lookup ("_levels" : Str) = some (.ref L) := by
  unfold flR
  rw [lookup_putF, if_pos rfl]
theorem flR_no {tt na A L : Addr} {m : Str} (h0 : ¬ m = "_tracks") (h1 : ¬ m = "_neighbours") (h2 : ¬ m = "_above") (h3 : ¬ m = "_levels") : (flR tt na A L).lookup m = none := by
  unfold flR
  rw [lookup_putF, if_neg h3, lookup_putF, if_neg h2, lookup_putF, if_neg h1, lookup_putF, if_neg h0]
  rfl
/-- at r: a railway with the tracks tr (normed) -/
structure RailAt (C : Addr) (H : Hp) (r : Addr) (tr : List E2) : Prop where
  T : TreeL tr
  few : tr.length ≤ 99
  ex : ∃ (dx tt na A L : Addr) (ps ts : List Addr), H r = some (.ins C dx (flR tt na A L)) ∧ H tt = some (.tup (ps.map V.ref)) ∧ Prs H ps tr ∧ H na = some (.lst (ts.map V.ref)) ∧ ts.length = tr.length + 1 ∧
    (∀ (v : Nat) (t : Addr), ts[v]? = some t → H t = some (.tup ((nb tr v).map iv))) ∧ H A = some (.lst (vec (tr.length + 1) (p0 tr))) ∧ H L = some (.lst (vec (tr.length + 1) (dep tr)))
theorem RailAt.same {C : Addr} {H H' : Hp} {r : Addr} {tr : List E2} (R : RailAt C H r tr) (s : Same H H') : RailAt C H' r tr := by
  obtain ⟨T, few, dx, tt, na, A, L, ps, ts, h1, h2, h3, h4, h5, h6, h7, h8⟩ := R
  exact ⟨T, few, dx, tt, na, A, L, ps, ts, s _ _ h1, s _ _ h2, h3.same s, s _ _ h4, h5, fun v t h => s _ _ (h6 v t h), s _ _ h7, s _ _ h8⟩
/-- what the top has made of the class -/
structure TxtR (K : PySem.W.Frag) (mg : Str → Option Value) (C : Addr) : Prop where
  cl : Cls K C
  nT : NoAttr K C "_tracks"
  nN : NoAttr K C "_neighbours"
  nA : NoAttr K C "_above"
  nL : NoAttr K C "_levels"
  mgC : mg "Railway" = some (.ref C)
  cr : ∃ mc t, CRead K C mc ∧ CVal K C mc "MOST_STATIONS" (.int 100) (.int 100 t)
theorem maxK {X : Cx} {K : PySem.W.Frag} (h : X.K = K) (hc : X.calm = true) : CallR X (.builtin "max") (rMaxP K) := by
  subst h
  exact cr_maxP hc
theorem minK {X : Cx} {K : PySem.W.Frag} (h : X.K = K) (hc : X.calm = true) : CallR X (.builtin "min") (rMinP K) := by
  subst h
  exact cr_minP hc
theorem Prs.snoc {H : Hp} {qs : List Addr} {l : List E2} {q : Addr} {e : E2} (h : Prs H qs l) (hq : H q = some (.tup [iv e.1, iv e.2])) : Prs H (qs ++ [q]) (l ++ [e]) := by
  refine ⟨by rw [List.length_append, List.length_append, h.1]; rfl, fun i p d hp hd => ?_⟩
  rcases get_snoc hp with hp | ⟨e1, e2⟩
  · rcases get_snoc hd with hd | ⟨e3, e4⟩
    · exact h.2 i p d hp hd
    · exfalso
      have := (List.getElem?_eq_some_iff.mp hp).1
      rw [h.1] at this
      omega
  · rcases get_snoc hd with hd | ⟨e3, e4⟩
    · exfalso
      have := (List.getElem?_eq_some_iff.mp hd).1
      rw [h.1] at e1
      omega
    · rw [e2, e4]
      exact hq
def unref : V → Addr
  | .ref p => p
  | _ => 0
theorem refs_perm {ys : List V} {qs : List Addr} (h : ys.Perm (qs.map V.ref)) : ∃ ps : List Addr, ys = ps.map V.ref ∧ ps.Perm qs := by
  refine ⟨ys.map unref, ?_, ?_⟩
  · rw [List.map_map]
    symm
    calc ys.map (V.ref ∘ unref) = ys.map id := List.map_congr_left fun y hy => by
          obtain ⟨q, _, rfl⟩ := List.mem_map.mp (h.mem_iff.mp hy)
          rfl
      _ = ys := List.map_id _
  · have := h.map unref
    rw [List.map_map] at this
    have e : qs.map (unref ∘ V.ref) = qs := by
      calc qs.map (unref ∘ V.ref) = qs.map id := List.map_congr_left fun _ _ => rfl
        _ = qs := List.map_id _
    rw [e] at this
    exact this
def edOf (qs : List Addr) (l : List E2) (p : Addr) : E2 := l.getD (qs.idxOf p) (0, 0)
theorem ed_get {H : Hp} {qs : List Addr} {l : List E2} (h : Prs H qs l) (nd : qs.Nodup) {i : Nat} {p : Addr} (hp : qs[i]? = some p) : l[i]? = some (edOf qs l p) := by
  have hl := (List.getElem?_eq_some_iff.mp hp).1
  rw [h.1] at hl
  unfold edOf
  rw [idxOf_get nd hp, List.getD_eq_getElem?_getD, List.getElem?_eq_getElem hl]
  rfl
theorem ed_heap {H : Hp} {qs : List Addr} {l : List E2} (h : Prs H qs l) (nd : qs.Nodup) {p : Addr} (hp : p ∈ qs) : H p = some (.tup [iv (edOf qs l p).1, iv (edOf qs l p).2]) := by
  obtain ⟨i, hi⟩ := List.mem_iff_getElem?.mp hp
  exact h.2 i p _ hi (ed_get h nd hi)
theorem ed_map {H : Hp} {qs : List Addr} {l : List E2} (h : Prs H qs l) (nd : qs.Nodup) : qs.map (edOf qs l) = l := by
  apply List.ext_getElem?
  intro i
  cases e : qs[i]? with
  | none =>
    rw [List.getElem?_map, e]
    have hl := List.getElem?_eq_none_iff.mp e
    rw [h.1] at hl
    exact (List.getElem?_eq_none_iff.mpr hl).symm
  | some p => rw [List.getElem?_map, e, ed_get h nd e]; rfl
def kfOf (qs : List Addr) (l : List E2) : V → Int × Int
  | .ref p => (((edOf qs l p).1 : Nat), ((edOf qs l p).2 : Nat))
  | _ => (0, 0)
def spRI (C : Addr) (K : PySem.W.Frag) : Sp := fun vs H Q _ => ∃ (r dx a : Addr) (ps : List Addr) (tr : List E2), vs = [.ref r, .ref a] ∧ H r = some (.ins C dx []) ∧ SqT K H a (ps.map V.ref) ∧ Prs H ps tr ∧ TreeL tr ∧ tr.length ≤ 99 ∧
  ∀ (H' : Hp), (∀ b o, H b = some o → b ≠ r → H' b = some o) → RailAt C H' r (nrmS tr) → Q .non H'
section
variable {P : Program} {w : World} {K : PySem.W.Frag} {mg : Str → Option Value} {base : Heap}
abbrev NRi : List Str := ["self", "tracks", "wrong", "track"]
theorem sc_ri : FnScope NRi ((["self"] : List Str) ++ (["tracks"] : List Str)) (defScope s_Railway_init) := ⟨rfl, rfl, rfl, by decide +kernel, rfl, by decide +kernel, by decide +kernel⟩
theorem body_ri {f fF fN fP C : Addr} {fdF fdN fdP : FuncData} (N : Nm mg) (X : TxtR K mg C) (UF : Use P w K mg base CX0 4 "first_wrong_track" fF fdF ["tracks"] (spFirst K)) (UN : Use P w K mg base CX0 1 "_neighbours_of" fN fdN ["tracks"] (spNbs K))
    (UP : Use P w K mg base CX0 1 "_places_below_first" fP fdP ["neighbours"] (spPlaces K)) (cdv : Value) (A : Around) (outer : List Env) (s : Shared) (H : Hp) (vs : List V) (Q : VK) (E : XK)
    (hr : Room 4 (A.deeper (envOfC "Railway.__init__" (defScope s_Railway_init) s.heap.objs.size f cdv))) (h : spRI C K vs H Q E) :
    ∃ t, PSs (cxOf CX0 P w K mg base NRi "Railway.__init__" (defScope s_Railway_init) f cdv A outer s H E).nox (defBody s_Railway_init) t ∧ t { nx := fun _ H' => Q .non H', rt := Q } (start NRi vs) H := by
  obtain ⟨r, dx, a, ps, tr, rfl, hr0, hS, hP, T, hl, k⟩ := h
  obtain ⟨mc, ct, hcr, hcv⟩ := X.cr
  have hr1 : Room 1 (A.deeper (envOfC "Railway.__init__" (defScope s_Railway_init) s.heap.objs.size f cdv)) := hr.mono (by decide)
  refine ⟨_, pss_cons (ps_if (pt_cmpR op_ge (pe_callB call_len_seq (by rfl) N.len PySem.boot_len (pa_cons (pv 1) pa_nil)) (pe_cval (pe_glob (v := .ref C) (by rfl) X.mgC rfl)) (nomark _)) pss_never pss_nil)
    (pss_cons (ps_set (i := 2) sc_ri.nd rfl (.inl rfl) (pe_use UF hr rfl (pa_cons (pv 1) pa_nil)))
    (pss_cons (ps_if (pt_cmpR op_notN (pv 2) pe_non (nomark _)) pss_never pss_nil)
    (pss_cons (ps_fld (pv 0) (pe_callTy call_tuple_of (by rfl) N.tuple boot_tuple (pa_cons (pe_callB cr_sortedPO (by rfl) N.sorted boot_sorted (pa_cons
        (pe_lc (own := [("track", 3)]) (g := gName 3) (tt := tYes) rfl sc_ri.nd (pi_tup (pv 1)) (blkOk_by (N := NRi) (sc := defScope s_Railway_init) (by decide +kernel))
          (fun _ _ _ _ _ => pg_name (i := 3) sc_ri.nd rfl (Or.inl rfl)) (fun _ _ _ _ _ => pts_nil)
          (fun _ _ _ _ _ => pe_tup (pa_cons (pe_callB (minK (K := K) rfl rfl) (by rfl) N.min PyProof.Rows.boot_min (pa_cons (pv 3) pa_nil)) (pa_cons (pe_callB (maxK (K := K) rfl rfl) (by rfl) N.max PyProof.Rows.boot_max (pa_cons (pv 3) pa_nil)) pa_nil)))) pa_nil)) pa_nil)) rfl)
    (pss_cons (ps_fld (pv 0) (pe_use UN hr1 rfl (pa_cons (pe_fld (pv 0) rfl) pa_nil)) rfl)
    (pss_one (ps_asg (pe_use UP hr1 rfl (pa_cons (pe_fld (pv 0) rfl) pa_nil)) (pg_tup rfl (pgs_cons (pg_fld (pv 0)) (pgs_cons (pg_fld (pv 0)) pgs_nil)))))))))  , ?_⟩
  have lp : (ps.map V.ref).length = tr.length := by rw [List.length_map, hP.1]
  refine ⟨_, rfl, a, _, rfl, .inr hS, C, mc, .int 100, _, rfl, hcr, hcv, _, _, rfl, rfl, _, rfl, ?_⟩
  refine iteF' (decide_eq_false (by rw [lp]; omega)) ?_
  refine ⟨_, rfl, a, ps, tr, rfl, hS, hP, T, by omega, fun H1 s1 => ?_⟩
  refine ⟨_, rfl, rfl, _, rfl, ?_⟩
  refine iteNS rfl ?_
  -- the normed tracks
  refine ⟨_, rfl, a, rfl, ⟨_, s1.tp hS⟩, fun D nD => ?_⟩
  have hP1 := hP.same s1
  refine lc_tup (K := K) (a := a) (xs := ps.map V.ref) (fun i H' => ∃ qs, H' D = some (.lst (qs.map V.ref)) ∧ Same H1 H' ∧ Prs H' qs ((tr.take i).map nrm) ∧ qs.Nodup) ⟨[], upd_same, same_upd nD _, ⟨rfl, fun _ _ _ h => by cases h⟩, List.nodup_nil⟩ (fun i H' _ ⟨_, _, s2, _⟩ => s2.tp (s1.tp hS)) ?_ ?_
  · rintro i v H' hv ⟨qs, hD, s2, hQ, nd⟩
    obtain ⟨p, e, rfl, hp, he, hH⟩ := hP1.get hv
    have hH2 := s2 _ _ hH
    refine ⟨rfl, _, rfl, p, _, _, rfl, SqT.of hH2, _, rfl, p, _, _, rfl, SqT.of hH2, by show 2 ≤ sizeLine; rw [sizeLine_eq]; decide, fun q nq => ⟨qs.map V.ref, ?_, ?_, qs ++ [q], ?_, ?_, ?_, ?_⟩⟩
    · have nD2 : D ≠ q := fun z => by rw [← z, hD] at nq; cases nq
      rw [upd_ne nD2]
      exact hD
    · rw [List.length_map, hQ.1, List.length_map, List.length_take, sizeLine_eq]
      omega
    · rw [upd_same, List.map_append]
      rfl
    · exact same_old (s2.trans (same_upd nq _)) nD _
    · have e1 : min (e.1 : Int) (e.2 : Int) = ((nrm e).1 : Nat) := by show _ = ((mn e : Nat) : Int); unfold mn; omega
      have e2 : max (e.1 : Int) (e.2 : Int) = ((nrm e).2 : Nat) := by show _ = ((mx e : Nat) : Int); unfold mx; omega
      have et : (tr.take (i + 1)).map nrm = (tr.take i).map nrm ++ [nrm e] := by rw [take_snoc he, List.map_append]; rfl
      rw [et]
      have qD : q ≠ D := fun z => by rw [z, hD] at nq; cases nq
      have hq1 : upd H' q (.tup [V.int (min (e.1 : Int) (e.2 : Int)), V.int (max (e.1 : Int) (e.2 : Int))]) q = some (.tup [iv (nrm e).1, iv (nrm e).2]) := by rw [upd_same, e1, e2]
      have hQ2 := (hQ.same (same_upd nq (.tup [V.int (min (e.1 : Int) (e.2 : Int)), V.int (max (e.1 : Int) (e.2 : Int))]))).snoc hq1
      refine ⟨hQ2.1, fun j x y hx hy => ?_⟩
      have hxy := hQ2.2 j x y hx hy
      have xD : x ≠ D := fun z => by
        rw [z, upd_ne qD.symm, hD] at hxy
        cases hxy
      exact (upd_ne xD).trans hxy
    · refine nodup_snoc nd fun hm => ?_
      obtain ⟨j, hj⟩ := List.mem_iff_getElem?.mp hm
      have hl := (List.getElem?_eq_some_iff.mp hj).1
      rw [hQ.1] at hl
      have := hQ.2 j q _ hj (List.getElem?_eq_getElem hl)
      rw [nq] at this
      cases this
  rintro H2 ⟨qs, hD, s2, hQ, nd⟩
  have et : (tr.take (ps.map V.ref).length).map nrm = tr.map nrm := by rw [lp, List.take_length]
  rw [et] at hQ
  refine ⟨D, _, kfOf qs (tr.map nrm), rfl, SqL.of hD, fun x hx => ?_, fun ys p hsr hst np => ?_⟩
  · obtain ⟨q, hq, rfl⟩ := List.mem_map.mp hx
    exact ⟨q, rfl, ed_heap hQ nd hq⟩
  obtain ⟨ps2, rfl, hpm⟩ := refs_perm hst.perm
  refine ⟨p, _, rfl, .inl ⟨SqL.of upd_same, fun l nl => ?_⟩⟩
  have s3 := same_upd np (.lst (ps2.map V.ref))
  have s4 := s3.trans (same_upd nl (.tup (ps2.map V.ref)))
  have hl4 := upd_same (H := upd H2 p (.lst (ps2.map V.ref))) (a := l) (o := .tup (ps2.map V.ref))
  generalize upd (upd H2 p (.lst (ps2.map V.ref))) l (.tup (ps2.map V.ref)) = H4 at s4 hl4
  have s04 : Same H H4 := (s1.trans s2).trans s4
  have nm : Norm tr (ps2.map (edOf qs (tr.map nrm))) := by
    refine ⟨?_⟩
    have := hpm.map (edOf qs (tr.map nrm))
    rw [ed_map hQ nd] at this
    exact this
  have enS : ps2.map (edOf qs (tr.map nrm)) = nrmS tr := by
    refine srt2_of nm.pm ?_
    have h0 : (ps2.map V.ref).Pairwise (fun x y => ltP (kfOf qs (tr.map nrm)) y x = false) := hsr
    rw [List.pairwise_map] at h0 ⊢
    refine h0.imp fun {a b} h => ?_
    have h2 := SrtO.lexB_no.mp h
    rw [lexle_iff]
    simp only [kfOf] at h2
    omega
  have hQ4 : Prs H4 ps2 (ps2.map (edOf qs (tr.map nrm))) := by
    refine ⟨(List.length_map _).symm, fun i x y hx hy => ?_⟩
    obtain ⟨x', hx', rfl⟩ := map_got hy
    rw [hx] at hx'
    cases hx'
    exact s4 _ _ (ed_heap hQ nd (hpm.mem_iff.mp (List.mem_of_getElem? hx)))
  generalize ps2.map (edOf qs (tr.map nrm)) = tr2 at nm hQ4 enS
  have T2 := nm.tree T
  have len2 := nm.len
  have hr4 := s04 _ _ hr0
  have lr : l ≠ r := ne_of hl4 hr4 (by intro z; cases z)
  refine ⟨_, rfl, r, C, dx, [], rfl, hr4, X.cl, X.nT, by show 0 < 1000; decide, ?_⟩
  have hr5 := upd_same (H := H4) (a := r) (o := .ins C dx (putF "_tracks" (.ref l) []))
  have k5 : ∀ b o, H4 b = some o → b ≠ r → upd H4 r (.ins C dx (putF "_tracks" (.ref l) [])) b = some o := fun b o e ne => by rw [upd_ne ne]; exact e
  generalize upd H4 r (.ins C dx (putF "_tracks" (.ref l) [])) = H5 at hr5 k5
  have hl5 := k5 _ _ hl4 lr
  have hQ5 : Prs H5 ps2 tr2 := ⟨hQ4.1, fun i x y hx hy => k5 _ _ (hQ4.2 i x y hx hy) (ne_of (hQ4.2 i x y hx hy) hr4 (by intro z; cases z))⟩
  refine ⟨_, rfl, r, C, dx, _, _, rfl, hr5, X.cl, X.nT, by rw [lookup_putF, if_pos rfl], l, ps2, tr2, rfl, SqT.of hl5, hQ5, fun e he => ⟨T2.ne e he, T2.lt1 he⟩, by omega, fun D2 ts H6 s6 R => ?_⟩
  refine ⟨_, rfl, r, C, dx, _, rfl, s6 _ _ hr5, X.cl, X.nN, by show 1 < 1000; decide, ?_⟩
  have hr6 := s6 _ _ hr5
  have hr7 := upd_same (H := H6) (a := r) (o := .ins C dx (putF "_neighbours" (.ref D2) (putF "_tracks" (.ref l) [])))
  have k7 : ∀ b o, H6 b = some o → b ≠ r → upd H6 r (.ins C dx (putF "_neighbours" (.ref D2) (putF "_tracks" (.ref l) []))) b = some o := fun b o e ne => by rw [upd_ne ne]; exact e
  generalize upd H6 r (.ins C dx (putF "_neighbours" (.ref D2) (putF "_tracks" (.ref l) []))) = H7 at hr7 k7
  have hD7 := k7 _ _ R.own (ne_of R.own hr6 (by intro z; cases z))
  have ht7 : ∀ (v : Nat) (t : Addr), ts[v]? = some t → H7 t = some (.tup ((nb tr2 v).map iv)) := fun v t h => k7 _ _ (R.at_ v t h).1 (ne_of (R.at_ v t h).1 hr6 (by intro z; cases z))
  refine ⟨_, rfl, r, C, dx, _, _, rfl, hr7, X.cl, X.nN, by rw [lookup_putF, if_pos rfl], D2, ts, tr2, rfl, SqL.of hD7, R.len, ht7, T2, by omega, fun t Aa L H8 tw ht => ?_⟩
  have hr8 := tw.same _ _ hr7
  refine ⟨t, _, rfl, SqT.of ht, rfl, ?_⟩
  refine ⟨_, _, rfl, _, rfl, r, C, dx, _, rfl, hr8, X.cl, X.nA, by show 2 < 1000; decide, ?_⟩
  refine ⟨_, _, rfl, _, rfl, r, C, dx, _, rfl, upd_same, X.cl, X.nL, by show 3 < 1000; decide, rfl, ?_⟩
  rw [upd_upd]
  have hrF := upd_same (H := H8) (a := r) (o := .ins C dx (putF "_levels" (.ref L) (putF "_above" (.ref Aa) (putF "_neighbours" (.ref D2) (putF "_tracks" (.ref l) [])))))
  have kF : ∀ b o, H8 b = some o → b ≠ r → upd H8 r (.ins C dx (putF "_levels" (.ref L) (putF "_above" (.ref Aa) (putF "_neighbours" (.ref D2) (putF "_tracks" (.ref l) []))))) b = some o := fun b o e ne => by rw [upd_ne ne]; exact e
  generalize upd H8 r (.ins C dx (putF "_levels" (.ref L) (putF "_above" (.ref Aa) (putF "_neighbours" (.ref D2) (putF "_tracks" (.ref l) []))))) = HF at hrF kF
  have all : ∀ b o, H4 b = some o → b ≠ r → HF b = some o := fun b o e ne => kF _ _ (tw.same _ _ (k7 _ _ (s6 _ _ (k5 _ _ e ne)) ne)) ne
  have all7 : ∀ b o, H7 b = some o → b ≠ r → HF b = some o := fun b o e ne => kF _ _ (tw.same _ _ e) ne
  refine k HF (fun b o e ne => all b o (s04 _ _ e) ne) (enS ▸ ⟨T2, by omega, dx, l, D2, Aa, L, ps2, ts, hrF, all _ _ hl4 lr, ⟨hQ4.1, fun i x y hx hy => all _ _ (hQ4.2 i x y hx hy) (ne_of (hQ4.2 i x y hx hy) hr4 (by intro z; cases z))⟩,
    all7 _ _ hD7 (ne_of hD7 hr7 (by intro z; cases z)), R.len, fun v t h => all7 _ _ (ht7 v t h) (ne_of (ht7 v t h) hr7 (by intro z; cases z)), kF _ _ tw.hA (ne_of tw.hA hr8 (by intro z; cases z)), kF _ _ tw.hL (ne_of tw.hL hr8 (by intro z; cases z))⟩)
end
end TR

namespace TR
open PySem PySem.Spec PyProof.Rows L2 L2.TT StX ClX
def spRail (C : Addr) : Sp := fun vs H Q _ => ∃ (r dx : Addr) (ps : List Addr) (tr : List E2), vs = .ref r :: ps.map V.ref ∧ H r = some (.ins C dx []) ∧ Prs H ps tr ∧ TreeL tr ∧ tr.length ≤ 99 ∧
  ∀ (H' : Hp), (∀ b o, H b = some o → b ≠ r → H' b = some o) → RailAt C H' r (nrmS tr) → Q .non H'
def spRof (C : Addr) : Sp := fun vs H Q _ => ∃ (a : Addr) (ps : List Addr) (tr : List E2), vs = [.ref C, .ref a] ∧ H a = some (.tup (ps.map V.ref)) ∧ Prs H ps tr ∧ TreeL tr ∧ tr.length ≤ 99 ∧
  ∀ (r : Addr) (H' : Hp), H r = none → Same H H' → RailAt C H' r (nrmS tr) → Q (.ref r) H'
def spSize (C : Addr) : Sp := fun vs H Q _ => ∃ (r : Addr) (tr : List E2), vs = [.ref r] ∧ RailAt C H r tr ∧ Q (.int ((tr.length : Int) + 1)) H
def spIsSt (C : Addr) (K : PySem.W.Frag) : Sp := fun vs H Q _ => ∃ (r : Addr) (tr : List E2) (v : V), vs = [.ref r, v] ∧ RailAt C H r tr ∧ IV K H v ∧ Q (.bl (inR v 0 tr.length)) H
def spChkSt (C : Addr) : Sp := fun vs H Q _ => ∃ (r : Addr) (tr : List E2) (v : Nat), vs = [.ref r, iv v] ∧ RailAt C H r tr ∧ v ≤ tr.length ∧ Q .non H
section
variable {P : Program} {w : World} {K : PySem.W.Frag} {mg : Str → Option Value} {base : Heap}
theorem fn_init {f fF fN fP C : Addr} {fd fdF fdN fdP : FuncData} (F : Fun K "__init__" "Railway.__init__" s_Railway_init f fd) (N : Nm mg) (X : TxtR K mg C) (UF : Use P w K mg base CX0 4 "first_wrong_track" fF fdF ["tracks"] (spFirst K)) (UN : Use P w K mg base CX0 1 "_neighbours_of" fN fdN ["tracks"] (spNbs K))
    (UP : Use P w K mg base CX0 1 "_places_below_first" fP fdP ["neighbours"] (spPlaces K)) : FnR P w K mg base CX0 5 f (spRail C) := by
  obtain ⟨oc, od, kV, doc, pm, an, cdv, ct, osl, rfl, lk, hcd⟩ := F.ex
  have G := fn_star (P := P) (w := w) (mg := mg) (base := base) (CX := CX0) (k := 4) (ps := ["self"]) (pv := "tracks") (N := NRi) (sp := spRI C K) lk hcd sc_ri cxUp_none (bind_star1 (B := fun vs => bindArgs (PySem.W.fnOf "__init__" "Railway.__init__" (defArgs s_Railway_init) (defBody s_Railway_init) (defScope s_Railway_init) .none kV doc pm an cdv ct) ⟨vs, []⟩) (p1 := "self") (pv := "tracks") (fun a => rfl) (fun a r rs => rfl))
    (fun A outer s H vs Q E hr h => by
      obtain ⟨t, h1, h2⟩ := body_ri (f := f) N X UF UN UP cdv A outer s H vs Q E hr h
      exact ⟨t, h1.nox, h2⟩)
  refine G.imp fun vs H Q E h => ?_
  obtain ⟨r, dx, ps, tr, rfl, hr, hP, T, hl, k⟩ := h
  refine ⟨[.ref r], ps.map V.ref, rfl, rfl, by rw [List.length_map, hP.1, sizeLine_eq]; omega, fun p np => ?_⟩
  have s0 := same_upd np (.tup (ps.map V.ref))
  have rp : r ≠ p := ne_of_none hr np
  refine ⟨r, dx, p, ps, tr, rfl, s0 _ _ hr, SqT.of upd_same, hP.same s0, T, hl, fun H' kp R => ?_⟩
  exact k H' (fun b o e ne => kp b o (s0 _ _ e) ne) R
theorem sc_rof : FnScope ["cls", "tracks"] ["cls", "tracks"] (defScope s_Railway_of) := ⟨rfl, rfl, rfl, by decide +kernel, rfl, by decide +kernel, by decide +kernel⟩
theorem ok_rof {f fI C : Addr} {fd : FuncData} (F : Fun K "of" "Railway.of" s_Railway_of f fd) (N : Nm mg) (M : Mk K C fI) (FI : FnR P w K mg base CX0 5 fI (spRail C)) : FnOk P w K mg base CX0 7 f fd ["cls", "tracks"] (spRof C) := by
  refine F.ok sc_rof (fun vs H Q E h => ?_) (fun cdv A outer s H vs Q E hr h => ?_)
  · obtain ⟨a, ps, tr, rfl, _⟩ := h
    rfl
  · obtain ⟨a, ps, tr, rfl, ha, hP, T, hl, k⟩ := h
    refine ⟨_, pss_cons (ps_if (pt_not (pt_val (pe_callB call_isi (by rfl) N.isi boot_isinstance (pa_cons (pv 1) (pa_cons (pe_bltn (v := .ty "tuple") (by rfl) N.tuple (by decide +kernel) rfl) pa_nil))))) pss_never pss_nil)
      (pss_one (ps_ret (pe_makeLS (i := 0) M FI hr rfl (.inl rfl) pass0 (pv 1)))), ?_⟩
    refine ⟨_, rfl, _, _, _, _, true, rfl, .ty _, .base (.tup ha), tup_tup, true, rfl, ?_⟩
    refine iteF ?_
    refine ⟨rfl, _, rfl, a, _, rfl, .inl (SqT.of ha), fun o dx no ndx ne => ?_⟩
    have s1 : Same H (upd (upd H dx (.own o)) o (.ins C dx [])) := fun b u e => by
      rw [upd_ne (ne_of_none e no), upd_ne (ne_of_none e ndx)]
      exact e
    refine ⟨o, dx, ps, tr, rfl, upd_same, hP.same s1, T, hl, fun H' kp R => ⟨rfl, ?_⟩⟩
    exact k o H' no (fun b u e => kp b u (s1 _ _ e) (ne_of_none e no)) R
theorem sc_size : FnScope ["self"] ["self"] (defScope s_Railway_size) := ⟨rfl, rfl, rfl, by decide +kernel, rfl, by decide +kernel, by decide +kernel⟩
theorem ok_size {f C : Addr} {fd : FuncData} (F : Fun K "size" "Railway.size" s_Railway_size f fd) (N : Nm mg) (X : TxtR K mg C) : FnOk P w K mg base CX0 1 f fd ["self"] (spSize C) := by
  refine F.ok sc_size (fun vs H Q E h => ?_) (fun cdv A outer s H vs Q E hr h => ?_)
  · obtain ⟨r, tr, rfl, _⟩ := h
    rfl
  · obtain ⟨r, tr, rfl, R, k⟩ := h
    obtain ⟨T, few, dx, tt, na, Aa, L, ps, ts, h1, h2, h3, h4, h5, h6, h7, h8⟩ := R
    refine ⟨_, pss_one (ps_ret (pe_callB call_len_seq (by rfl) N.len PySem.boot_len (pa_cons (pe_fld (pv 0) rfl) pa_nil))), ?_⟩
    refine ⟨_, rfl, r, C, dx, _, _, rfl, h1, X.cl, X.nN, flR_n, na, _, rfl, .inl (SqL.of h4), ?_⟩
    rw [List.length_map, h5]
    exact k
/-- the property size as a rule -/
structure SizeOf (P : Program) (w : World) (K : PySem.W.Frag) (mg : Str → Option Value) (base : Heap) (C p g : Addr) (fd : FuncData) : Prop where
  cl : Cls K C
  hp : PropOf K C "size" p g
  G : FnOk P w K mg base CX0 1 g fd ["self"] (spSize C)
  b : Binds K fd ["self"] []
theorem sc_isst : FnScope ["railway", "value"] ["railway", "value"] (defScope s_is_station) := ⟨rfl, rfl, rfl, by decide +kernel, rfl, by decide +kernel, by decide +kernel⟩
theorem ok_isst {f fI C p g : Addr} {fd fdI fdS : FuncData} (F : Fun K "is_station" "is_station" s_is_station f fd) (U : Use P w K mg base CX0 2 "is_number_from" fI fdI ["value", "least", "greatest"] (spNumFrom K)) (Z : SizeOf P w K mg base C p g fdS) : FnOk P w K mg base CX0 3 f fd ["railway", "value"] (spIsSt C K) := by
  refine F.ok sc_isst (fun vs H Q E h => ?_) (fun cdv A outer s H vs Q E hr h => ?_)
  · obtain ⟨r, tr, v, rfl, _⟩ := h
    rfl
  · obtain ⟨r, tr, v, rfl, R, hv, k⟩ := h
    refine ⟨_, pss_one (ps_ret (pe_use U hr rfl (pa_cons (pv 1) (pa_cons pe_int (pa_cons (pe_op op_sub (pe_prop (pv 0) Z.cl Z.hp Z.G (hr.mono (by decide)) Z.b .nil pass0 rfl) pe_int) pa_nil))))), ?_⟩
    obtain ⟨T, few, dx, tt, na, Aa, L, ps, ts, h1, h2⟩ := id R
    refine ⟨_, rfl, _, rfl, r, dx, _, rfl, h1, r, tr, rfl, R, _, _, rfl, rfl, v, 0, _, rfl, hv, ?_⟩
    rw [show (tr.length : Int) + 1 - 1 = tr.length by omega]
    exact k
theorem sc_chk : FnScope ["railway", "station"] ["railway", "station"] (defScope s_check_station) := ⟨rfl, rfl, rfl, by decide +kernel, rfl, by decide +kernel, by decide +kernel⟩
theorem ok_chk {f fI C : Addr} {fd fdI : FuncData} (F : Fun K "check_station" "check_station" s_check_station f fd) (U : Use P w K mg base CX0 3 "is_station" fI fdI ["railway", "value"] (spIsSt C K)) : FnOk P w K mg base CX0 4 f fd ["railway", "station"] (spChkSt C) := by
  refine F.ok sc_chk (fun vs H Q E h => ?_) (fun cdv A outer s H vs Q E hr h => ?_)
  · obtain ⟨r, tr, v, rfl, _⟩ := h
    rfl
  · obtain ⟨r, tr, v, rfl, R, hv, k⟩ := h
    refine ⟨_, pss_one (ps_if (pt_not (pt_val (pe_use U hr rfl (pa_cons (pv 0) (pa_cons (pv 1) pa_nil))))) pss_never pss_nil), ?_⟩
    refine ⟨_, rfl, _, rfl, r, tr, _, rfl, R, .inl ⟨_, rfl⟩, _, rfl, ?_⟩
    have e : inR (iv v) 0 tr.length = true := by
      show (decide ((0 : Int) ≤ (v : Int)) && decide ((v : Int) ≤ (tr.length : Int))) = true
      rw [Bool.and_eq_true]
      exact ⟨decide_eq_true (by omega), decide_eq_true (by omega)⟩
    rw [e]
    exact iteF k
end
end TR

namespace TR
open PySem PySem.Spec PyProof.Rows L2 L2.TT StX ClX
theorem at_last {l : List Nat} {x : Nat} : atI ((l ++ [x]).map iv) (-1) = some (iv x) := by
  have e : ixN ((l ++ [x]).map iv).length (-1) = some l.length := by
    unfold ixN
    rw [if_neg (by omega), if_pos (by rw [List.length_map, List.length_append, List.length_singleton]; omega), List.length_map, List.length_append, List.length_singleton]
    have : ((-1 : Int) + ((l.length + 1 : Nat) : Int)).toNat = l.length := by omega
    rw [this]
  unfold atI
  rw [e]
  show ((l ++ [x]).map iv)[l.length]? = _
  rw [List.map_append, List.getElem?_append_right (by rw [List.length_map]; exact Nat.le_refl _), List.length_map, Nat.sub_self]
  rfl
def spPath (C : Addr) : Sp := fun vs H Q _ => ∃ (r : Addr) (tr : List E2) (a b : Nat), vs = [.ref r, iv a, iv b] ∧ RailAt C H r tr ∧ a ≤ tr.length ∧ b ≤ tr.length ∧
  ∀ (l : List Nat) (p : Addr) (H' : Hp), SW tr a b l → Same H H' → H p = none → H' p = some (.tup (l.map iv)) → Q (.ref p) H'
section
variable {P : Program} {w : World} {K : PySem.W.Frag} {mg : Str → Option Value} {base : Heap}
theorem sc_path : FnScope ["self", "one", "other", "front", "back"] ["self", "one", "other"] (defScope s_Railway_path) := ⟨rfl, rfl, rfl, by decide +kernel, rfl, by decide +kernel, by decide +kernel⟩
theorem ok_path {f fc C : Addr} {fd fdc : FuncData} (F : Fun K "path" "Railway.path" s_Railway_path f fd) (N : Nm mg) (X : TxtR K mg C) (U : Use P w K mg base CX0 4 "check_station" fc fdc ["railway", "station"] (spChkSt C)) : FnOk P w K mg base CX0 5 f fd ["self", "one", "other"] (spPath C) := by
  refine F.ok sc_path (fun vs H Q E h => ?_) (fun cdv A outer s H vs Q E hr h => ?_)
  · obtain ⟨r, tr, a, b, rfl, _⟩ := h
    rfl
  · obtain ⟨r, tr, a, b, rfl, R, ha, hb, k⟩ := h
    refine ⟨_, pss_cons (ps_expr (pe_use U hr rfl (pa_cons (pv 0) (pa_cons (pv 1) pa_nil))))
      (pss_cons (ps_expr (pe_use U hr rfl (pa_cons (pv 0) (pa_cons (pv 2) pa_nil))))
      (pss_cons (ps_set (i := 3) sc_path.nd rfl (.inl rfl) (pe_lst (pa_cons (pv 1) pa_nil)))
      (pss_cons (ps_set (i := 4) sc_path.nd rfl (.inl rfl) (pe_lst (pa_cons (pv 2) pa_nil)))
      (pss_cons (ps_while PassesOwn.never (pt_cmpR op_ne (pe_ix ix_list (pv 3) (pe_un un_neg pe_int) (fun _ _ => rfl)) (pe_ix ix_list (pv 4) (pe_un un_neg pe_int) (fun _ _ => rfl)) (nomark _))
        (pss_one (ps_if (pt_cmpR op_gt (pe_ix ix_list (pe_fld (pv 0) rfl) (pe_ix ix_list (pv 3) (pe_un un_neg pe_int) (fun _ _ => rfl)) (fun _ _ => rfl)) (pe_ix ix_list (pe_fld (pv 0) rfl) (pe_ix ix_list (pv 4) (pe_un un_neg pe_int) (fun _ _ => rfl)) (fun _ _ => rfl)) (nomark _))
          (pss_one (ps_expr (pe_bm PySem.F.plainAttrs_list PySem.F.slot_list_append PySem.F.type_list_append mt_append (pv 3) (pa_cons (pe_ix ix_list (pe_fld (pv 0) rfl) (pe_ix ix_list (pv 3) (pe_un un_neg pe_int) (fun _ _ => rfl)) (fun _ _ => rfl)) pa_nil))))
          (pss_one (ps_expr (pe_bm PySem.F.plainAttrs_list PySem.F.slot_list_append PySem.F.type_list_append mt_append (pv 4) (pa_cons (pe_ix ix_list (pe_fld (pv 0) rfl) (pe_ix ix_list (pv 4) (pe_un un_neg pe_int) (fun _ _ => rfl)) (fun _ _ => rfl)) pa_nil)))))))
      (pss_cons (ps_expr (pe_bm0 PySem.F.plainAttrs_list PySem.F.slot_list_pop PySem.F.type_list_pop mt_pop (pv 4)))
      (pss_one (ps_ret (pe_callTy call_tuple_of (by rfl) N.tuple boot_tuple (pa_cons (pe_op op_cat (pv 3) (pe_revL (pv 4))) pa_nil)))))))))
      , ?_⟩
    obtain ⟨T, few, dx, tt, na, Aa, L, ps, ts, h1, h2, h3, h4, h5, h6, h7, h8⟩ := id R
    refine ⟨_, rfl, _, rfl, r, tr, a, rfl, R, ha, ?_⟩
    refine ⟨_, rfl, _, rfl, r, tr, b, rfl, R, hb, ?_⟩
    refine ⟨_, rfl, by show 1 ≤ sizeLine; rw [sizeLine_eq]; decide, fun fa nfa => ?_⟩
    refine ⟨_, rfl, by show 1 ≤ sizeLine; rw [sizeLine_eq]; decide, fun ba nba1 => ?_⟩
    have sf := same_upd nfa (.lst [iv a])
    have nba := sf.free nba1
    have s0 := sf.trans (same_upd nba1 (.lst [iv b]))
    have nfb : fa ≠ ba := fun z => by rw [← z, upd_same] at nba1; cases nba1
    have hf0 : upd (upd H fa (.lst [iv a])) ba (.lst [iv b]) fa = some (.lst [iv a]) := by rw [upd_ne nfb, upd_same]
    have hb0 := upd_same (H := upd H fa (.lst [iv a])) (a := ba) (o := .lst [iv b])
    generalize upd (upd H fa (.lst [iv a])) ba (.lst [iv b]) = H0 at s0 hf0 hb0
    refine ⟨fun m σ H' => ∃ (x y : Nat) (F B : List Nat), m = dep tr x + dep tr y ∧ σ = [some (.ref r), some (iv a), some (iv b), some (.ref fa), some (.ref ba)] ∧ Clb tr a b x y F B ∧ Same H H' ∧ H' fa = some (.lst ((F ++ [x]).map iv)) ∧ H' ba = some (.lst ((B ++ [y]).map iv)),
      ⟨_, a, b, [], [], rfl, rfl, Clb.start ha hb, s0, hf0, hb0⟩, ?_⟩
    clear sf nba1 s0 hf0 hb0 H0
    rintro m σ H1 ⟨x, y, F, B, rfl, rfl, c, s1, hf, hb1⟩
    have lx := c.lx
    have ly := c.ly
    refine ⟨_, rfl, _, rfl, fa, _, _, _, rfl, rfl, SqL.of hf, at_last, _, rfl, _, rfl, ba, _, _, _, rfl, rfl, SqL.of hb1, at_last, rfl, _, rfl, ?_⟩
    have hr1 := s1 _ _ h1
    have hA1 := s1 _ _ h7
    have hL1 := s1 _ _ h8
    refine ite2 (fun hc => ?_) (fun hc => ?_)
    · have ne : x ≠ y := fun z => by rw [z] at hc; simp at hc
      refine ⟨fun σ' H' => ∃ (x' y' : Nat) (F B : List Nat), dep tr x' + dep tr y' < dep tr x + dep tr y ∧ σ' = [some (.ref r), some (iv a), some (iv b), some (.ref fa), some (.ref ba)] ∧ Clb tr a b x' y' F B ∧ Same H H' ∧ H' fa = some (.lst ((F ++ [x']).map iv)) ∧ H' ba = some (.lst ((B ++ [y']).map iv)),
        fun σ' H' ⟨x', y', F, B, lt, e⟩ => ⟨_, lt, x', y', F, B, rfl, e⟩, ?_⟩
      refine ⟨_, rfl, r, C, dx, _, _, rfl, hr1, X.cl, X.nL, flR_l, _, rfl, _, rfl, fa, _, _, _, rfl, rfl, SqL.of hf, at_last, L, _, _, _, rfl, rfl, SqL.of hL1, atN (vec_get (by omega)), ?_⟩
      refine ⟨_, rfl, r, C, dx, _, _, rfl, hr1, X.cl, X.nL, flR_l, _, rfl, _, rfl, ba, _, _, _, rfl, rfl, SqL.of hb1, at_last, L, _, _, _, rfl, rfl, SqL.of hL1, atN (vec_get (by omega)), _, _, rfl, rfl, _, rfl, ?_⟩
      refine ite2 (fun hd => ?_) (fun hd => ?_)
      · have hlt : dep tr y < dep tr x := by
          have := of_decide_eq_true hd
          omega
        obtain ⟨q1, q2, c2⟩ := c.up1 T ne hlt
        have ep : p0 tr x = par tr x := by unfold p0; rw [if_neg (by omega)]
        refine ⟨_, rfl, .inl ⟨rfl, _, SqL.of hf⟩, _, rfl, r, C, dx, _, _, rfl, hr1, X.cl, X.nA, flR_a, _, rfl, _, rfl, fa, _, _, _, rfl, rfl, SqL.of hf, at_last, Aa, _, _, _, rfl, rfl, SqL.of hA1, atN (vec_get (by omega)), _, _, _, rfl, rfl, hf, ?_, ?_⟩
        · have h9 : (F ++ [x]).length ≤ tr.length + 1 := nd_len c.nf fun z hz => by
            rcases mem_snoc.mp hz with hz | rfl
            · exact c.lf z hz
            · exact lx
          rw [List.length_map, sizeLine_eq]
          omega
        · refine ⟨par tr x, y, F ++ [x], B, by omega, rfl, c2, same_old s1 nfa _, ?_, by rw [upd_ne nfb.symm]; exact hb1⟩
          rw [upd_same, ep, List.map_append (l₁ := F ++ [x])]
          rfl
      · have hlt : ¬ dep tr y < dep tr x := by
          intro z
          apply hd
          exact decide_eq_true (by show ((dep tr y : Nat) : Int) < ((dep tr x : Nat) : Int); omega)
        obtain ⟨q1, q2, c2⟩ := c.up2 T ne hlt
        have ep : p0 tr y = par tr y := by unfold p0; rw [if_neg (by omega)]
        refine ⟨_, rfl, .inl ⟨rfl, _, SqL.of hb1⟩, _, rfl, r, C, dx, _, _, rfl, hr1, X.cl, X.nA, flR_a, _, rfl, _, rfl, ba, _, _, _, rfl, rfl, SqL.of hb1, at_last, Aa, _, _, _, rfl, rfl, SqL.of hA1, atN (vec_get (by omega)), _, _, _, rfl, rfl, hb1, ?_, ?_⟩
        · have h9 : (B ++ [y]).length ≤ tr.length + 1 := nd_len c.nb fun z hz => by
            rcases mem_snoc.mp hz with hz | rfl
            · exact c.lb z hz
            · exact ly
          rw [List.length_map, sizeLine_eq]
          omega
        · refine ⟨x, par tr y, F, B ++ [y], by omega, rfl, c2, same_old s1 nba _, by rw [upd_ne nfb]; exact hf, ?_⟩
          rw [upd_same, ep, List.map_append (l₁ := B ++ [y])]
          rfl
    · have e : x = y := by
        by_cases z : x = y
        · exact z
        · exfalso
          apply hc
          have : ¬ (iv x = iv y) := fun q => z (iv_inj.mp q)
          simp [this]
      subst e
      have sw := c.done
      have hlen : (F ++ [x] ++ B.reverse).length ≤ tr.length + 1 := nd_len sw.nd fun z hz => by
        rcases List.mem_append.mp hz with hz | hz
        · rcases mem_snoc.mp hz with hz | rfl
          · exact c.lf z hz
          · exact lx
        · exact c.lb z (List.mem_reverse.mp hz)
      rw [List.length_append, List.length_reverse] at hlen
      have e1 : ((B ++ [x]).map iv).dropLast = B.map iv := by rw [List.map_append]; exact List.dropLast_concat
      have e2 : ((B ++ [x]).map iv)[((B ++ [x]).map iv).length - 1]? = some (iv x) := by
        rw [List.length_map, List.length_append, List.length_singleton, Nat.add_sub_cancel, List.map_append, List.getElem?_append_right (by rw [List.length_map]; exact Nat.le_refl _), List.length_map, Nat.sub_self]
        rfl
      refine ⟨_, rfl, .inl ⟨rfl, _, SqL.of hb1⟩, ba, _, _, rfl, rfl, hb1, e2, ?_⟩
      rw [e1]
      have s2 := same_old s1 nba (.lst (B.map iv))
      have hf2 : upd H1 ba (.lst (B.map iv)) fa = some (.lst ((F ++ [x]).map iv)) := by rw [upd_ne nfb]; exact hf
      have hb2 := upd_same (H := H1) (a := ba) (o := .lst (B.map iv))
      generalize upd H1 ba (.lst (B.map iv)) = H2 at s2 hf2 hb2
      refine ⟨_, rfl, _, rfl, ba, _, rfl, SqL.of hb2, fun p np => ?_⟩
      refine ⟨fa, p, _, _, rfl, rfl, same_upd np _ _ _ hf2, upd_same, ?_, fun q nq => ?_⟩
      · rw [List.length_map, List.length_reverse, List.length_map, sizeLine_eq]
        omega
      refine ⟨q, _, rfl, .inl ⟨SqL.of upd_same, fun t nt => ?_⟩⟩
      refine k (F ++ [x] ++ B.reverse) t _ sw (((s2.trans (same_upd np _)).trans (same_upd nq _)).trans (same_upd nt _)) ?_ ?_
      · exact (s2.trans ((same_upd np _).trans (same_upd nq _))).free nt
      · rw [upd_same, List.map_append (l₁ := F ++ [x]), List.map_reverse]
end
end TR

namespace L2.TT
open PySem PySem.Spec PyProof.Rows PySem.W

/-! ### data that may be shown: dicts too -/
def keyD : Key → PyData
  | .inl i => .int i
  | .inr x => .str x
/-- a flat value -/
inductive FlatD : V → PyData → Prop
  | non : FlatD .non .none
  | bl (b : Bool) : FlatD (.bl b) (.bool b)
  | int (i : Int) : FlatD (.int i) (.int i)
  | str (x : Str) : FlatD (.str x) (.str x)
abbrev KvD : List (Key × V) → List (PyData × PyData) → Prop := Paired fun p q => q.1 = keyD p.1 ∧ FlatD p.2 q.2
/-- flat, or a dict of flat things -/
inductive FD (H : Hp) : V → PyData → Prop
  | flat {v : V} {d : PyData} : FlatD v d → FD H v d
  | dic {a : Addr} {kvs : List (Key × V)} {es : List (PyData × PyData)} : H a = some (.dK kvs) → KvD kvs es → FD H (.ref a) (.dict es)
inductive DS (K : Frag) (H : Hp) : V → PyData → Prop
  | fd {v : V} {d : PyData} : FD H v d → DS K H v d
  | tup {a : Addr} {xs : List V} {ds : List PyData} : SqT K H a xs → Paired (FD H) xs ds → DS K H (.ref a) (.tuple ds)
/-- the items of a list that may be shown -/
def DL (K : Frag) (H : Hp) (vs : List V) (ds : List PyData) : Prop := (DpAll K H vs ds ∧ PyData.canLayAll0 ds = true) ∨ Paired (DS K H) vs ds

section
variable {X : Cx} {pins : List (Addr × Obj)} {σ : St} {H : Hp} {s : Shared}
theorem FlatD.reads {v : V} {d : PyData} {u : Value} (f : FlatD v d) (r : RelV v u) (h : Heap) : Reads h u d [] := by
  cases f with
  | non => cases r; exact .none
  | bl b => cases r; exact .bool b
  | int i => obtain ⟨t, rfl⟩ := r; exact .int i t
  | str x => obtain ⟨t, rfl⟩ := r; exact .str x t
theorem reads_vals : ∀ {kvs : List (Key × V)} {es : List (PyData × PyData)} {vs : List (Key × Value)} {ds : List DictEntry} {h : Heap} {P : Program} {w : World}, KvD kvs es → KV kvs vs → Pairs (mixKind P w) ds vs →
    ReadsAll h (ds.map (·.key)) (es.map (·.1)) [] ∧ ReadsAll h (ds.map (·.val)) (es.map (·.2)) []
  | _, _, _, _, _, _, _, .nil, .nil, .nil => ⟨.nil, .nil⟩
  | _, _, _, _, h, _, _, .cons (a := p) (b := q) ⟨e1, f⟩ t, .cons (b := z) ⟨e2, r⟩ t2, .cons (e := e) (kv := _) i v t3 => by
    obtain ⟨h1, h2⟩ := reads_vals (h := h) t t2 t3
    have rk : Reads h e.key q.1 [] := by
      rw [e1, e2]
      have i' : keyIs z.1 e.key = true := i
      rcases keyIs_shape i' with ⟨n, tk, ek, ev⟩ | ⟨x, tk, ek, ev⟩
      · rw [ek, ev]; exact .int n tk
      · rw [ek, ev]; exact .str x tk
    have rv : Reads h e.val q.2 [] := by rw [v]; exact f.reads r h
    exact ⟨ReadsAll.cons rk h1, ReadsAll.cons rv h2⟩
theorem FD.reads (I : Inv X pins σ H s) {v : V} {d : PyData} {u : Value} (f : FD H v d) (r : RelV v u) : ∃ as, Reads s.heap u d as ∧ sysModules ∉ as := by
  cases f with
  | flat f => exact ⟨[], f.reads r _, fun z => nomatch z⟩
  | dic e k =>
    rename_i a kvs es
    cases r
    obtain ⟨_, hs, vs, rel, o, eo, ep, ho, hx, hd, _, hp, _⟩ := dk_of I.hok e
    obtain ⟨h1, h2⟩ := reads_vals (h := s.heap) k rel hp
    refine ⟨_, Reads.dict ho hx.1 hd h1 h2, ?_⟩
    intro z
    have z' : sysModules = a := by simpa using z
    rw [← z'] at hs
    simp at hs
theorem FD.readsAll (I : Inv X pins σ H s) : ∀ {vs : List V} {ds : List PyData} {us : List Value}, Paired (FD H) vs ds → Vals vs us → ∃ as, ReadsAll s.heap us ds as ∧ sysModules ∉ as
  | _, _, _, .nil, .nil => ⟨[], .nil, fun z => nomatch z⟩
  | _, _, _, .cons f t, .cons r t2 => by
    obtain ⟨as, h1, n1⟩ := f.reads I r
    obtain ⟨bs, h2, n2⟩ := FD.readsAll I t t2
    exact ⟨as ++ bs, .cons h1 h2, fun z => (List.mem_append.mp z).elim n1 n2⟩
theorem DS.reads (I : Inv X pins σ H s) {v : V} {d : PyData} {u : Value} (f : DS X.K H v d) (r : RelV v u) : ∃ as, Reads s.heap u d as ∧ sysModules ∉ as := by
  cases f with
  | fd f => exact f.reads I r
  | tup hs ha =>
    cases r
    obtain ⟨its, rv, ⟨o, ho, hc, n, hd⟩, _⟩ := I.tuple hs
    obtain ⟨as, q, n⟩ := FD.readsAll I ha rv
    exact ⟨_, .tuple ho hc hd q, n⟩
theorem DS.readsAll (I : Inv X pins σ H s) : ∀ {vs : List V} {ds : List PyData} {us : List Value}, Paired (DS X.K H) vs ds → Vals vs us → ∃ as, ReadsAll s.heap us ds as ∧ sysModules ∉ as
  | _, _, _, .nil, .nil => ⟨[], .nil, fun z => nomatch z⟩
  | _, _, _, .cons f t, .cons r t2 => by
    obtain ⟨as, h1, n1⟩ := f.reads I r
    obtain ⟨bs, h2, n2⟩ := DS.readsAll I t t2
    exact ⟨as ++ bs, .cons h1 h2, fun z => (List.mem_append.mp z).elim n1 n2⟩
theorem DL.reads (I : Inv X pins σ H s) {vs : List V} {ds : List PyData} {us : List Value} (f : DL X.K H vs ds) (r : Vals vs us) : ∃ as, ReadsAll s.heap us ds as ∧ (PyData.hasDictAll ds = true → sysModules ∉ as) := by
  rcases f with ⟨f, c⟩ | f
  · obtain ⟨as, q⟩ := Dp.readsAll I ds vs us f r
    refine ⟨as, q, fun z => ?_⟩
    rw [PyData.hasDictAll_of_canLayAll ds c] at z
    exact absurd z Bool.false_ne_true
  · obtain ⟨as, q, n⟩ := DS.readsAll I f r
    exact ⟨as, q, fun _ => n⟩
/-- repr(xs), xs a list -/
def rRepr (K : Frag) : List V → Hp → VK → Prop := fun xs H Q => ∃ (a : Addr) (vs : List V) (ds : List PyData), xs = [.ref a] ∧ SqL K H a vs ∧ DL K H vs ds ∧ PyData.showableAll ds = true ∧ PyData.leavesShortAll 13 ds = true ∧ PyData.weightAll ds ≤ 1000000 ∧ PyData.depthAll ds ≤ 20 ∧
  Q (.str (PyData.shown (.list ds))) H
theorem call_repr (hg : X.A.guards = some []) (hu : X.A.units + 64 < cLine) : CallR X (.builtin "repr") (rRepr X.K) := by
  intro pins s σ H xs us Q I r h
  obtain ⟨a, vs, ds, rfl, hl, hd, hs, hb, hw, hp, q⟩ := h
  obtain rfl := Vals.ref1 r
  obtain ⟨its, rv, ⟨o, n, ho, hc, hdn, hda⟩, hz⟩ := I.list hl
  obtain ⟨as, h4, hsm⟩ := hd.reads I rv
  have fit : (PyData.shown (.list ds)).length ≤ sizeLine := PyData.shown_fits (B := 13) (by decide) (by decide) (by simpa only [PyData.leavesShort] using hb) (by
    simp only [PyData.weight]
    omega)
  have hz' : (listText (PyData.shownAll ds)).length ≤ sizeLine := by simpa only [PyData.shown] using fit
  obtain ⟨bs, hbs, hk⟩ := ReprAllK.of_readsAll (prog := X.prog) (w := X.w) h4 hs hsm (fun t ht => Nat.le_trans (listText_mem_le ht) hz')
  have hna : a ∉ bs := not_mem_of_deeper (.list ho hc hda h4) (by simp only [PyData.depth]; omega) hbs
  simp only [PyData.shown] at q
  refine call_repr_slot (by omega) ⟨o, ho, hc⟩ F.slot_list_repr.toG ?_
  cases its with
  | nil =>
    cases h4
    simp only [PyData.shownAll, listText_nil] at q
    refine call_list_repr_empty (s := s) ⟨o, ho, hc⟩ ho hda ?_
    exact ⟨_, _, rfl, .str "[]", H, I.tok _, ⟨_, rfl⟩, q⟩
  | cons x l =>
    refine call_list_reprK ho hc hda hna (by simpa using hk.length_eq) (fun i y e => hk.item i y (by simpa using e)) hg (fun b _ => Clear.nil b) (by show X.A.units + 1 + _ < cLine; omega) (fun _ _ e => e) (fun h' u tk k => ?_) hz'
    exact ⟨_, _, rfl, .str (listText (PyData.shownAll ds)), H, I.kept k, ⟨u, rfl⟩, q⟩
end
end L2.TT

namespace TR
open PySem PySem.Spec PyProof.Rows L2 L2.TT
abbrev sBegin : Stmt := s_law_begin
abbrev sMixed : Stmt := s_law_mixed
abbrev sNext : Stmt := s_law_next
/-- the drawn values' state: a dict, its list of cells; no counter beyond n -/
def drawKvs (cl : Addr) (i j k : Int) : List (Key × V) := [(Sum.inr "cells", .ref cl), (Sum.inr "at", .int i), (Sum.inr "left", .int j), (Sum.inr "used", .int k)]
def DrawAt (H : Hp) (dr cl : Addr) (n : Nat) : Prop := ∃ (cs : List Int) (i j k : Int), H dr = some (.dK (drawKvs cl i j k)) ∧ H cl = some (.lst (cs.map V.int)) ∧ cs ≠ [] ∧ cs.length ≤ 64 ∧ 0 ≤ i ∧ i ≤ n ∧ 0 ≤ j ∧ 0 ≤ k ∧ k ≤ n
def spBegin (K : PySem.W.Frag) : Sp := fun vs H Q _ => ∃ (a : Addr) (ns : List Int), vs = [.ref a] ∧ SqL K H a (ns.map V.int) ∧ ns.length ≤ 63 ∧ ∀ (p c : Addr) (H' : Hp), H p = none → H c = none → Same H H' → DrawAt H' p c 0 → Q (.ref p) H'
def spMixed : Sp := fun vs H Q _ => ∃ (c k : Int), vs = [.int c, .int k] ∧ 0 ≤ k ∧ k ≤ 1000000000 ∧ ∀ r : Int, Q (.int r) H
def spNext : Sp := fun vs H Q _ => ∃ (dr cl : Addr) (b : Int) (n : Nat), vs = [.ref dr, .int b] ∧ DrawAt H dr cl n ∧ n ≤ 900000000 ∧ 0 < b ∧ b < 1073741824 ∧
  ∀ (r : Int) (H' : Hp), 0 ≤ r → r < b → DrawAt H' dr cl (n + 1) → (∀ q, q ≠ dr → H' q = H q) → Q (.int r) H'
theorem modb (x : Int) {m : Int} (h : 0 < m) : 0 ≤ x % m ∧ x % m < m := ⟨Int.emod_nonneg _ (by omega), Int.emod_lt_of_pos _ h⟩
theorem n1 : ¬ (("cells" : Str) = "at") := by decide +kernel
theorem n2 : ¬ (("cells" : Str) = "left") := by decide +kernel
theorem n3 : ¬ (("cells" : Str) = "used") := by decide +kernel
theorem n4 : ¬ (("at" : Str) = "left") := by decide +kernel
theorem n5 : ¬ (("at" : Str) = "used") := by decide +kernel
theorem n6 : ¬ (("left" : Str) = "used") := by decide +kernel
theorem dg_cells {cl : Addr} {i j k : Int} : valV (drawKvs cl i j k) (Sum.inr "cells") = some (.ref cl) := by simp [valV, drawKvs]
theorem dg_at {cl : Addr} {i j k : Int} : valV (drawKvs cl i j k) (Sum.inr "at") = some (.int i) := by simp [valV, drawKvs, n1]
theorem dg_left {cl : Addr} {i j k : Int} : valV (drawKvs cl i j k) (Sum.inr "left") = some (.int j) := by simp [valV, drawKvs, n2, n4]
theorem dg_used {cl : Addr} {i j k : Int} : valV (drawKvs cl i j k) (Sum.inr "used") = some (.int k) := by simp [valV, drawKvs, n3, n5, n6]
theorem dp_at {cl : Addr} {i j k x : Int} : putK (drawKvs cl i j k) (Sum.inr "at") (.int x) = drawKvs cl x j k := by simp [putK, drawKvs, n1, n4, n5, Ne.symm n4, Ne.symm n5]
theorem dp_left {cl : Addr} {i j k x : Int} : putK (drawKvs cl i j k) (Sum.inr "left") (.int x) = drawKvs cl i x k := by simp [putK, drawKvs, n2, n4, n6, Ne.symm n6]
theorem dp_used {cl : Addr} {i j k x : Int} : putK (drawKvs cl i j k) (Sum.inr "used") (.int x) = drawKvs cl i j x := by simp [putK, drawKvs, n3, n5, n6]
theorem atI_pos {α : Type} {xs : List α} {i : Int} {v : α} (h0 : 0 ≤ i) (h : xs[i.toNat]? = some v) : atI xs i = some v := by
  have := atI_nat h
  rwa [Int.toNat_of_nonneg h0] at this
structure TxtD (K : PySem.W.Frag) (mg : Str → Option Value) (fM : Addr) : Prop where
  len : mg "len" = none
  gM : mg "_law_mixed" = some (.ref fM)
section
variable {P : Program} {w : World} {K : PySem.W.Frag} {mg : Str → Option Value} {base : Heap}
theorem scB : FnScope ["script"] ["script"] (defScope sBegin) := ⟨rfl, rfl, rfl, by decide +kernel, rfl, by decide +kernel, by decide +kernel⟩
theorem ok_begin {f : Addr} {fd : FuncData} (F : Fun K "_law_begin" "_law_begin" sBegin f fd) : FnOk P w K mg base CX0 1 f fd ["script"] (spBegin K) := by
  refine F.ok scB (fun vs H Q E h => ?_) (fun cdv A outer s H vs Q E hr h => ?_)
  · obtain ⟨a, ns, rfl, _⟩ := h
    rfl
  · obtain ⟨a, ns, rfl, hS, hl, k⟩ := h
    refine ⟨_, pss_one (ps_ret (pe_disp (pps_cons pe_str (pe_op op_catL (pv 0) (pe_lst (pa_cons pe_int pa_nil))) (pps_cons pe_str pe_int (pps_cons pe_str pe_int (pps_cons pe_str pe_int pps_nil)))) (by rfl) (by rfl) (fun z => by cases z) (by decide))), ?_⟩
    intro p hp
    have s1 : Same H (upd H p (.dK [])) := fun b o e => by rw [upd_ne (ne_of_none e hp)]; exact e
    refine ⟨_, rfl, by rw [sizeLine_eq]; decide, fun l hl2 => ?_⟩
    have npl : p ≠ l := ne_of_none upd_same hl2
    have s2 : Same H (upd (upd H p (.dK [])) l (.lst [V.int 0])) := fun b o e => by rw [upd_ne (ne_of_none (s1 b o e) hl2)]; exact s1 b o e
    refine ⟨a, l, ns.map V.int, [V.int 0], rfl, rfl, s2.seq hS, .inl (.inl upd_same), ?_⟩
    rw [sizeLine_eq, List.length_map]
    refine ⟨by simp only [List.length_singleton]; omega, fun c hc => ?_⟩
    have ncp : p ≠ c := ne_of_none (by rw [upd_ne npl]; exact upd_same) hc
    have s3 : Same H (upd (upd (upd H p (.dK [])) l (.lst [V.int 0])) c (.lst (ns.map V.int ++ [V.int 0]))) := fun b o e => by rw [upd_ne (ne_of_none (s2 b o e) hc)]; exact s2 b o e
    refine ⟨by rw [upd_ne ncp, upd_ne npl, upd_same], drawKvs c 0 0 0, rfl, (by show 4 ≤ 15; decide), ?_⟩
    refine k p c _ hp (s2.free hc) (fun b o e => by rw [upd_ne (ne_of_none e hp)]; exact s3 b o e) ⟨ns ++ [0], 0, 0, 0, ?_, ?_, by simp, by simp; omega, by decide, by decide, by decide, by decide, by decide⟩
    · rw [upd_same]
      rfl
    · rw [upd_ne ncp.symm, upd_same, List.map_append]
      rfl
theorem scM : FnScope ["cell", "k", "mixed"] ["cell", "k"] (defScope sMixed) := ⟨rfl, rfl, rfl, by decide +kernel, rfl, by decide +kernel, by decide +kernel⟩
theorem ok_mixed {f : Addr} {fd : FuncData} (F : Fun K "_law_mixed" "_law_mixed" sMixed f fd) : FnOk P w K mg base CX0 1 f fd ["cell", "k"] spMixed := by
  refine F.ok scM (fun vs H Q E h => ?_) (fun cdv A outer s H vs Q E hr h => ?_)
  · obtain ⟨a, ns, rfl, _⟩ := h
    rfl
  · obtain ⟨c, n, rfl, h0, hn, k⟩ := h
    refine ⟨_, pss_cons (ps_set (i := 2) scM.nd rfl (Or.inl rfl) (pe_op op_mod (pe_op op_add (pe_op op_add (pe_op op_add (pe_op op_mod (pv 0) pe_int) (pe_op op_mul (pe_op op_mul pe_int (pv 1)) (pv 1))) (pe_op op_mul pe_int (pv 1))) pe_int) pe_int))
      (pss_cons (ps_set (i := 2) scM.nd rfl (Or.inl rfl) (pe_op op_mod (pe_op op_mul (pe_op op_mod (pe_op op_mul (pv 2) (pv 2)) pe_int) (pv 2)) pe_int))
      (pss_one (ps_ret (pe_op op_fdiv (pe_op op_mod (pe_op op_mul (pv 2) (pe_op op_add pe_int (pe_op op_mul pe_int (pe_op op_mod (pv 1) pe_int)))) pe_int) pe_int)))), ?_⟩
    refine ⟨_, rfl, _, _, rfl, rfl, (by show (0 : Int) < 1000000007; decide), ?_⟩
    refine ⟨_, rfl, _, _, rfl, rfl, .inl ⟨by decide, by decide⟩, _, rfl, _, _, rfl, rfl, .inr ⟨by omega, by omega⟩, _, _, rfl, rfl, ?_⟩
    refine ⟨_, rfl, _, _, rfl, rfl, .inl ⟨by decide, by decide⟩, _, _, rfl, rfl, _, _, rfl, rfl, _, _, rfl, rfl, (by show (0 : Int) < 2147483647; decide), ?_⟩
    have hm := modb (c % 1000000007 + 7919 * n * n + 31 * n + 7) (m := 2147483647) (by decide)
    generalize (c % 1000000007 + 7919 * n * n + 31 * n + 7) % 2147483647 = m at hm
    refine ⟨_, rfl, _, rfl, _, _, rfl, rfl, .inl ⟨by omega, by omega⟩, _, _, rfl, rfl, (by show (0 : Int) < 2147483647; decide), ?_⟩
    have hm2 := modb (m * m) (m := 2147483647) (by decide)
    generalize (m * m) % 2147483647 = m2 at hm2
    refine ⟨_, rfl, _, _, rfl, rfl, .inl ⟨by omega, by omega⟩, _, _, rfl, rfl, (by show (0 : Int) < 2147483629; decide), ?_⟩
    have hm3 := modb (m2 * m) (m := 2147483629) (by decide)
    generalize (m2 * m) % 2147483629 = m3 at hm3
    refine ⟨_, rfl, _, rfl, _, _, rfl, rfl, (by show (0 : Int) < 1000; decide), _, _, rfl, rfl, .inl ⟨by decide, by decide⟩, _, _, rfl, rfl, _, _, rfl, rfl, .inl ⟨by omega, by omega⟩, _, _, rfl, rfl, (by show (0 : Int) < 2147483647; decide), _, _, rfl, rfl, ⟨by decide, by decide⟩, ?_⟩
    exact k _
theorem scN : FnScope ["draw", "bound", "found", "cells", "cell"] ["draw", "bound"] (defScope sNext) := ⟨rfl, rfl, rfl, by decide +kernel, rfl, by decide +kernel, by decide +kernel⟩
theorem ok_next {f fM : Addr} {fd fdM : FuncData} (F : Fun K "_law_next" "_law_next" sNext f fd) (T : TxtD K mg fM) (FM : Fun K "_law_mixed" "_law_mixed" sMixed fM fdM) (bM : Binds K fdM ["cell", "k"] []) : FnOk P w K mg base CX0 2 f fd ["draw", "bound"] spNext := by
  have GM : FnOk P w K mg base CX0 1 fM fdM ["cell", "k"] spMixed := ok_mixed FM
  refine F.ok scN (fun vs H Q E h => ?_) (fun cdv A outer s H vs Q E hr h => ?_)
  · obtain ⟨a, cl0, ns, n, rfl, _⟩ := h
    rfl
  · obtain ⟨dr, cl, b, n, rfl, ⟨cs, i, j, k, hd, hc, hne, hcl, hi0, hin, hj0, hk0, hkn⟩, hn, hb0, hb1, q⟩ := h
    have hu := hu_of hr
    refine ⟨_, pss_cons (ps_if (pt_cmpR op_gt (pe_dget hu (pv 0) pe_str (fun _ _ => rfl)) pe_int (nomark _))
        (pss_cons (ps_set (i := 2) scN.nd rfl (Or.inl rfl) (pe_op op_modN (pe_dget hu (pv 0) pe_str (fun _ _ => rfl)) (pv 1)))
        (pss_cons (ps_dput hu (pv 0) pe_str (pe_op op_fdivN (pe_dget hu (pv 0) pe_str (fun _ _ => rfl)) (pv 1)) rfl)
        (pss_one (ps_ret (pv 2))))) pss_nil)
      (pss_cons (ps_set (i := 3) scN.nd rfl (Or.inl rfl) (pe_dget hu (pv 0) pe_str (fun _ _ => rfl)))
      (pss_cons (ps_set (i := 4) scN.nd rfl (Or.inl rfl) (pe_ix ix_list (pv 3) (pe_op op_modN (pe_dget hu (pv 0) pe_str (fun _ _ => rfl)) (pe_callB call_len_seq (by rfl) T.len PySem.boot_len (pa_cons (pv 3) pa_nil))) (fun _ _ => rfl)))
      (pss_cons (ps_dput hu (pv 0) pe_str (pe_op op_add (pe_dget hu (pv 0) pe_str (fun _ _ => rfl)) pe_int) rfl)
      (pss_cons (ps_if (PW.pt (pw_and (pt_cmpR op_ge (pv 4) (pe_op op_pow pe_int pe_int) (nomark _)) (pw_and1 (pt_cmpR op_le (pe_dget hu (pv 0) pe_str (fun _ _ => rfl)) (pe_callB call_len_seq (by rfl) T.len PySem.boot_len (pa_cons (pv 3) pa_nil)) (nomark _)))))
        (pss_cons (ps_dput hu (pv 0) pe_str (pe_op op_fdivN (pv 4) (pv 1)) rfl)
        (pss_one (ps_ret (pe_op op_modN (pv 4) (pv 1))))) pss_nil)
      (pss_cons (ps_dput hu (pv 0) pe_str (pe_op op_add (pe_dget hu (pv 0) pe_str (fun _ _ => rfl)) pe_int) rfl)
      (pss_one (ps_ret (pe_op op_modN (pe_call GM hr rfl T.gM FM.kp bM .nil pass0 (pa_cons (pe_call GM hr rfl T.gM FM.kp bM .nil pass0 (pa_cons (pv 4) (pa_cons (pe_dget hu (pv 0) pe_str (fun _ _ => rfl)) pa_nil))) (pa_cons (pe_dget hu (pv 0) pe_str (fun _ _ => rfl)) pa_nil))) (pv 1))))))))), ?_⟩
    have gA : DGet H dr (kV (Sum.inr "at")) (some (.int i)) := by rw [← dg_at]; exact DGet.k hd
    have gL : DGet H dr (kV (Sum.inr "left")) (some (.int j)) := by rw [← dg_left]; exact DGet.k hd
    have gC : DGet H dr (kV (Sum.inr "cells")) (some (.ref cl)) := by rw [← dg_cells]; exact DGet.k hd
    have ncd : cl ≠ dr := ne_of hc hd (by intro z; cases z)
    -- if draw["left"] > 0
    refine ⟨_, rfl, dr, _, rfl, gL, _, _, rfl, rfl, _, rfl, ?_⟩
    refine ite2 (fun hj => ?_) (fun hj => ?_)
    · refine ⟨_, rfl, dr, _, rfl, gL, _, rfl, _, _, rfl, rfl, by omega, ?_⟩
      refine ⟨_, rfl, dr, _, rfl, gL, _, rfl, _, _, rfl, rfl, ⟨by omega, by omega⟩, _, rfl, dr, _, rfl, DPut.k (k := Sum.inr "left") hd (by show 4 < sizeLine; rw [sizeLine_eq]; decide), ?_⟩
      refine ⟨_, rfl, ?_⟩
      rw [dp_left]
      refine q _ _ ?_ ?_ ⟨cs, i, _, k, upd_same, by rw [upd_ne ncd]; exact hc, hne, hcl, hi0, by omega, ?_, hk0, by omega⟩ fun z hz => upd_ne hz
      · rw [Int.fmod_eq_emod_of_nonneg _ (by omega)]
        exact (modb _ hb0).1
      · rw [Int.fmod_eq_emod_of_nonneg _ (by omega)]
        exact (modb _ hb0).2
      · rw [Int.fdiv_eq_ediv_of_nonneg _ (by omega)]
        exact Int.ediv_nonneg hj0 (by omega)
    · -- the next cell
      have hlp : 0 < cs.length := List.length_pos_iff.mpr hne
      have hmz : (0 : Int) ≤ i.fmod (cs.length : Int) ∧ i.fmod (cs.length : Int) < cs.length := by
        rw [Int.fmod_eq_emod_of_nonneg _ (by omega)]
        exact modb _ (by omega)
      obtain ⟨c, hcx⟩ : ∃ c, (cs.map V.int)[(i.fmod (cs.length : Int)).toNat]? = some (V.int c) := by
        have hlt : (i.fmod (cs.length : Int)).toNat < cs.length := by omega
        exact ⟨cs[(i.fmod (cs.length : Int)).toNat], by rw [List.getElem?_map, List.getElem?_eq_getElem hlt]; rfl⟩
      refine ⟨_, rfl, dr, _, rfl, gC, ?_⟩
      refine ⟨_, rfl, _, rfl, dr, _, rfl, gA, _, rfl, cl, _, rfl, .inl (SqL.of hc), _, _, rfl, rfl, by rw [List.length_map]; omega, ?_⟩
      rw [List.length_map]
      refine ⟨cl, _, _, _, rfl, rfl, SqL.of hc, atI_pos hmz.1 hcx, ?_⟩
      -- draw["at"] = draw["at"] + 1
      refine ⟨_, rfl, dr, _, rfl, gA, _, _, rfl, rfl, _, rfl, dr, _, rfl, DPut.k (k := Sum.inr "at") hd (by show 4 < sizeLine; rw [sizeLine_eq]; decide), ?_⟩
      rw [dp_at]
      have hd1 : upd H dr (.dK (drawKvs cl (i + 1) j k)) dr = some (.dK (drawKvs cl (i + 1) j k)) := upd_same
      have hc1 : upd H dr (.dK (drawKvs cl (i + 1) j k)) cl = some (.lst (cs.map V.int)) := by rw [upd_ne ncd]; exact hc
      have ke1 : ∀ z, z ≠ dr → upd H dr (.dK (drawKvs cl (i + 1) j k)) z = H z := fun z hz => upd_ne hz
      generalize upd H dr (.dK (drawKvs cl (i + 1) j k)) = H1 at hd1 hc1 ke1
      have gA1 : DGet H1 dr (kV (Sum.inr "at")) (some (.int (i + 1))) := by rw [← dg_at]; exact DGet.k hd1
      have gU1 : DGet H1 dr (kV (Sum.inr "used")) (some (.int k)) := by rw [← dg_used]; exact DGet.k hd1
      refine ⟨_, rfl, _, _, rfl, rfl, ⟨by decide, by decide, by decide⟩, _, _, rfl, rfl, _, rfl, ?_⟩
      refine ite2 (fun hg => ?_) (fun hg => ?_)
      · refine ⟨_, rfl, dr, _, rfl, gA1, _, rfl, cl, _, rfl, .inl (SqL.of hc1), _, _, rfl, rfl, _, rfl, ?_⟩
        refine ite2 (fun hg2 => ?_) (fun hg2 => ?_)
        · have hc0 : (0 : Int) ≤ c := by
            have := of_decide_eq_true hg
            have e : (10 : Int) ^ (18 : Int).toNat = 1000000000000000000 := by decide
            rw [e] at this
            omega
          refine ⟨_, rfl, _, rfl, _, _, rfl, rfl, ⟨by omega, by omega⟩, _, rfl, dr, _, rfl, DPut.k (k := Sum.inr "left") hd1 (by show 4 < sizeLine; rw [sizeLine_eq]; decide), ?_⟩
          rw [dp_left]
          refine ⟨_, rfl, _, rfl, _, _, rfl, rfl, by omega, ?_⟩
          show Q (.int (Int.fmod c b)) _
          rw [Int.fmod_eq_emod_of_nonneg _ (by omega)]
          refine q _ _ (modb _ hb0).1 (modb _ hb0).2 ⟨cs, i + 1, _, k, upd_same, by rw [upd_ne ncd]; exact hc1, hne, hcl, by omega, by omega, ?_, hk0, by omega⟩ fun z hz => by rw [upd_ne hz]; exact ke1 z hz
          rw [Int.fdiv_eq_ediv_of_nonneg _ (by omega)]
          exact Int.ediv_nonneg hc0 (by omega)
        · skip
          refine ⟨_, rfl, dr, _, rfl, gU1, _, _, rfl, rfl, _, rfl, dr, _, rfl, DPut.k (k := Sum.inr "used") hd1 (by show 4 < sizeLine; rw [sizeLine_eq]; decide), ?_⟩
          rw [dp_used]
          have hd2 : upd H1 dr (.dK (drawKvs cl (i + 1) j (k + 1))) dr = some (.dK (drawKvs cl (i + 1) j (k + 1))) := upd_same
          have hc2 : upd H1 dr (.dK (drawKvs cl (i + 1) j (k + 1))) cl = some (.lst (cs.map V.int)) := by rw [upd_ne ncd]; exact hc1
          have ke2 : ∀ z, z ≠ dr → upd H1 dr (.dK (drawKvs cl (i + 1) j (k + 1))) z = H z := fun z hz => by rw [upd_ne hz]; exact ke1 z hz
          generalize upd H1 dr (.dK (drawKvs cl (i + 1) j (k + 1))) = H2 at hd2 hc2 ke2
          have gA2 : DGet H2 dr (kV (Sum.inr "at")) (some (.int (i + 1))) := by rw [← dg_at]; exact DGet.k hd2
          have gU2 : DGet H2 dr (kV (Sum.inr "used")) (some (.int (k + 1))) := by rw [← dg_used]; exact DGet.k hd2
          refine ⟨_, rfl, _, rfl, dr, _, rfl, gA2, c, i + 1, rfl, by omega, by omega, fun r1 => ?_⟩
          refine ⟨_, rfl, dr, _, rfl, gU2, r1, k + 1, rfl, by omega, by omega, fun r2 => ?_⟩
          refine ⟨_, rfl, _, _, rfl, rfl, by omega, ?_⟩
          have hr2 := modb r2 hb0
          show Q (.int (Int.fmod r2 b)) _
          rw [Int.fmod_eq_emod_of_nonneg _ (by omega)]
          exact q _ _ hr2.1 hr2.2 ⟨cs, i + 1, j, k + 1, hd2, hc2, hne, hcl, by omega, by omega, hj0, by omega, by omega⟩ ke2
      · refine iteF ?_
        refine ⟨_, rfl, dr, _, rfl, gU1, _, _, rfl, rfl, _, rfl, dr, _, rfl, DPut.k (k := Sum.inr "used") hd1 (by show 4 < sizeLine; rw [sizeLine_eq]; decide), ?_⟩
        rw [dp_used]
        have hd2 : upd H1 dr (.dK (drawKvs cl (i + 1) j (k + 1))) dr = some (.dK (drawKvs cl (i + 1) j (k + 1))) := upd_same
        have hc2 : upd H1 dr (.dK (drawKvs cl (i + 1) j (k + 1))) cl = some (.lst (cs.map V.int)) := by rw [upd_ne ncd]; exact hc1
        have ke2 : ∀ z, z ≠ dr → upd H1 dr (.dK (drawKvs cl (i + 1) j (k + 1))) z = H z := fun z hz => by rw [upd_ne hz]; exact ke1 z hz
        generalize upd H1 dr (.dK (drawKvs cl (i + 1) j (k + 1))) = H2 at hd2 hc2 ke2
        have gA2 : DGet H2 dr (kV (Sum.inr "at")) (some (.int (i + 1))) := by rw [← dg_at]; exact DGet.k hd2
        have gU2 : DGet H2 dr (kV (Sum.inr "used")) (some (.int (k + 1))) := by rw [← dg_used]; exact DGet.k hd2
        refine ⟨_, rfl, _, rfl, dr, _, rfl, gA2, c, i + 1, rfl, by omega, by omega, fun r1 => ?_⟩
        refine ⟨_, rfl, dr, _, rfl, gU2, r1, k + 1, rfl, by omega, by omega, fun r2 => ?_⟩
        refine ⟨_, rfl, _, _, rfl, rfl, by omega, ?_⟩
        have hr2 := modb r2 hb0
        show Q (.int (Int.fmod r2 b)) _
        rw [Int.fmod_eq_emod_of_nonneg _ (by omega)]
        exact q _ _ hr2.1 hr2.2 ⟨cs, i + 1, j, k + 1, hd2, hc2, hne, hcl, by omega, by omega, hj0, by omega, by omega⟩ ke2
end
end TR

namespace TR
open PySem PySem.Spec PyProof.Rows L2 L2.TT StX ClX
theorem DrawAt.mono {H : Hp} {dr cl : Addr} {n m : Nat} (d : DrawAt H dr cl n) (h : n ≤ m) : DrawAt H dr cl m := by
  obtain ⟨cs, i, j, k, h1, h2, h3, h4, h5, h6, h7, h8, h9⟩ := d
  exact ⟨cs, i, j, k, h1, h2, h3, h4, h5, by omega, h7, h8, by omega⟩
theorem DrawAt.keep {H H' : Hp} {dr cl : Addr} {n : Nat} (d : DrawAt H dr cl n) (e1 : H' dr = H dr) (e2 : H' cl = H cl) : DrawAt H' dr cl n := by
  obtain ⟨cs, i, j, k, h1, h2, r⟩ := d
  exact ⟨cs, i, j, k, e1.trans h1, e2.trans h2, r⟩
theorem DrawAt.same {H H' : Hp} {dr cl : Addr} {n : Nat} (d : DrawAt H dr cl n) (s : Same H H') : DrawAt H' dr cl n := by
  obtain ⟨cs, i, j, k, h1, h2, r⟩ := d
  exact ⟨cs, i, j, k, s _ _ h1, s _ _ h2, r⟩
theorem DrawAt.some1 {H : Hp} {dr cl : Addr} {n : Nat} (d : DrawAt H dr cl n) : ∃ kvs, H dr = some (.dK kvs) := by
  obtain ⟨cs, i, j, k, h1, h2, r⟩ := d
  exact ⟨_, h1⟩
theorem DrawAt.some2 {H : Hp} {dr cl : Addr} {n : Nat} (d : DrawAt H dr cl n) : ∃ xs, H cl = some (.lst xs) := by
  obtain ⟨cs, i, j, k, h1, h2, r⟩ := d
  exact ⟨_, h2⟩
/-- all but the draw stands as before -/
def Fr (dr : Addr) (H H' : Hp) : Prop := ∀ b o, H b = some o → b ≠ dr → H' b = some o
theorem Fr.refl {dr : Addr} {H : Hp} : Fr dr H H := fun _ _ e _ => e
theorem Fr.trans {dr : Addr} {H H1 H2 : Hp} (a : Fr dr H H1) (b : Fr dr H1 H2) : Fr dr H H2 := fun c o e n => b _ _ (a _ _ e n) n
theorem Fr.of {dr : Addr} {H H' : Hp} (h : ∀ q, q ≠ dr → H' q = H q) : Fr dr H H' := fun b o e n => by rw [h b n]; exact e
theorem Fr.sm {dr : Addr} {H H' : Hp} (h : Same H H') : Fr dr H H' := fun b o e _ => h b o e
theorem Prs.fr {dr : Addr} {H H' : Hp} {ps : List Addr} {tr : List E2} {kvs : List (Key × V)} (h : Prs H ps tr) (k : Fr dr H H') (hd : H dr = some (.dK kvs)) : Prs H' ps tr :=
  ⟨h.1, fun i p e a b => k _ _ (h.2 i p e a b) (ne_of (h.2 i p e a b) hd (by intro z; cases z))⟩
theorem Fr.free {dr : Addr} {H H' : Hp} (k : Fr dr H H') {b : Addr} (hb : b ≠ dr) (h : H' b = none) : H b = none := by
  cases e : H b with
  | none => rfl
  | some o =>
    rw [k _ _ e hb] at h
    cases h
structure TI (H H' : Hp) (dr cl fl : Addr) (i n : Nat) (ps : List Addr) (tr : List E2) : Prop where
  D : DrawAt H' dr cl n
  fr : Fr dr H H'
  hf : H' fl = some (.lst (ps.map V.ref))
  P : Prs H' ps tr
  len : tr.length = i
  mxs : tr.map mx = List.range' 1 i
  ne : ∀ e ∈ tr, e.1 ≠ e.2
theorem TI.step {H H' : Hp} {dr cl fl : Addr} {i n m : Nat} {ps : List Addr} {tr : List E2} (t : TI H H' dr cl fl i n ps tr) (nf : H fl = none) (fd : fl ≠ dr) (fc : fl ≠ cl) {H3 : Hp} (D3 : DrawAt H3 dr cl m) (k : Fr dr H' H3) {p : Addr} (np : H3 p = none)
    {e : E2} (he : mx e = i + 1) (hne : e.1 ≠ e.2) : TI H (upd (upd H3 p (.tup [iv e.1, iv e.2])) fl (.lst (ps.map V.ref ++ [.ref p]))) dr cl fl (i + 1) m (ps ++ [p]) (tr ++ [e]) := by
  obtain ⟨kvs, hd0⟩ := t.D.some1
  obtain ⟨kv3, hd3⟩ := D3.some1
  obtain ⟨xs3, hc3⟩ := D3.some2
  have hf3 := k _ _ t.hf fd
  have npf : p ≠ fl := fun z => by rw [z, hf3] at np; cases np
  have npd : p ≠ dr := fun z => by rw [z, hd3] at np; cases np
  have npc : p ≠ cl := fun z => by rw [z, hc3] at np; cases np
  have P3 := t.P.fr k hd0
  refine ⟨D3.keep (by rw [upd_ne fd.symm, upd_ne npd.symm]) (by rw [upd_ne fc.symm, upd_ne npc.symm]), fun b o eb nb => ?_, by rw [upd_same, List.map_append]; rfl, ?_, by rw [List.length_append, t.len]; rfl, ?_, ?_⟩
  · have h1 := k _ _ (t.fr _ _ eb nb) nb
    rw [upd_ne (ne_of_none eb nf), upd_ne (ne_of_none h1 np)]
    exact h1
  · have P4 : Prs (upd H3 p (.tup [iv e.1, iv e.2])) (ps ++ [p]) (tr ++ [e]) := (P3.same (same_upd np _)).snoc upd_same
    refine ⟨P4.1, fun j q d hq hd => ?_⟩
    have h1 := P4.2 j q d hq hd
    have hf4 : upd H3 p (.tup [iv e.1, iv e.2]) fl = some (.lst (ps.map V.ref)) := by rw [upd_ne npf.symm]; exact hf3
    rw [upd_ne (ne_of h1 hf4 (by intro z; cases z))]
    exact h1
  · rw [List.map_append, t.mxs, List.range'_concat]
    show _ ++ [mx e] = _ ++ [1 + 1 * i]
    rw [he]
    congr 2
    omega
  · intro d hd
    rcases List.mem_append.mp hd with hd | hd
    · exact t.ne d hd
    · rw [List.mem_singleton] at hd
      rw [hd]
      exact hne
theorem pick5 {r i : Int} (h0 : 0 ≤ r) (h1 : r < 5) {a b c d e : Int} (ha : 0 ≤ a ∧ a ≤ i) (hb : 0 ≤ b ∧ b ≤ i) (hc : 0 ≤ c ∧ c ≤ i) (hd : 0 ≤ d ∧ d ≤ i) (he : 0 ≤ e ∧ e ≤ i) : ∃ x, atI [V.int a, V.int b, V.int c, V.int d, V.int e] r = some (.int x) ∧ 0 ≤ x ∧ x ≤ i := by
  have : r = 0 ∨ r = 1 ∨ r = 2 ∨ r = 3 ∨ r = 4 := by omega
  rcases this with rfl | rfl | rfl | rfl | rfl
  · exact ⟨a, rfl, ha⟩
  · exact ⟨b, rfl, hb⟩
  · exact ⟨c, rfl, hc⟩
  · exact ⟨d, rfl, hd⟩
  · exact ⟨e, rfl, he⟩
theorem Prs.rot {H : Hp} {ps : List Addr} {tr : List E2} (h : Prs H ps tr) (k : Nat) : Prs H (ps.drop k ++ ps.take k) (tr.drop k ++ tr.take k) := by
  have hl : (ps.drop k).length = (tr.drop k).length := by rw [List.length_drop, List.length_drop, h.1]
  refine ⟨by rw [List.length_append, List.length_append, hl, List.length_take, List.length_take, h.1], fun i p e hp he => ?_⟩
  by_cases c : i < (ps.drop k).length
  · rw [List.getElem?_append_left c, List.getElem?_drop] at hp
    rw [List.getElem?_append_left (by omega), List.getElem?_drop] at he
    exact h.2 _ p e hp he
  · rw [List.getElem?_append_right (by omega)] at hp
    rw [List.getElem?_append_right (by omega)] at he
    rw [← hl] at he
    have c2 : i - (ps.drop k).length < k := by
      have := (List.getElem?_eq_some_iff.mp hp).1
      rw [List.length_take] at this
      omega
    rw [List.getElem?_take_of_lt c2] at hp he
    exact h.2 _ p e hp he
theorem tree_rot {tr : List E2} (ne : ∀ e ∈ tr, e.1 ≠ e.2) (hm : tr.map mx = List.range' 1 tr.length) (k : Nat) : TreeL (tr.drop k ++ tr.take k) := by
  have hp : (tr.drop k ++ tr.take k).Perm tr := by
    have h1 : (tr.drop k ++ tr.take k).Perm (tr.take k ++ tr.drop k) := List.perm_append_comm
    rw [List.take_append_drop] at h1
    exact h1
  refine tree_drawn (fun e he => ne e (hp.mem_iff.mp he)) ?_
  rw [hp.length_eq, ← hm]
  exact hp.map mx
def spTracks : Sp := fun vs H Q _ => ∃ (dr cl : Addr) (m : Int) (n : Nat), vs = [.ref dr, .int m] ∧ DrawAt H dr cl n ∧ n ≤ 800000000 ∧ 0 < m ∧ m ≤ 100 ∧
  ∀ (a : Addr) (ps : List Addr) (tr : List E2) (H' : Hp), DrawAt H' dr cl (n + 400) → Fr dr H H' → H' a = some (.tup (ps.map V.ref)) → Prs H' ps tr → TreeL tr → (tr.length : Int) < m → Q (.ref a) H'
section
variable {P : Program} {w : World} {K : PySem.W.Frag} {mg : Str → Option Value} {base : Heap}
theorem sc_trk : FnScope NTr ["draw", "most"] (defScope s_law_tracks) := ⟨rfl, rfl, rfl, by decide +kernel, rfl, by decide +kernel, by decide +kernel⟩
theorem ok_trk {f fn : Addr} {fd fdn : FuncData} (F : Fun K "_law_tracks" "_law_tracks" s_law_tracks f fd) (N : Nm mg) (U : Use P w K mg base CX0 2 "_law_next" fn fdn ["draw", "bound"] spNext) : FnOk P w K mg base CX0 3 f fd ["draw", "most"] spTracks := by
  refine F.ok sc_trk (fun vs H Q E h => ?_) (fun cdv A outer s H vs Q E hr h => ?_)
  · obtain ⟨dr, cl, m, n, rfl, _⟩ := h
    rfl
  · obtain ⟨dr, cl, m, n, rfl, D, hn, hm0, hm1, k⟩ := h
    refine ⟨_, pss_cons (ps_par3 (i := 2) (j := 3) (l := 4) (by rfl) sc_trk.nd rfl rfl rfl (by decide) (by decide) (by decide) rfl rfl rfl (pa_cons (pe_op op_add pe_int (pe_use U hr rfl (pa_cons (pv 0) (pa_cons (pv 1) pa_nil)))) (pa_cons (pe_use U hr rfl (pa_cons (pv 0) (pa_cons pe_int pa_nil))) (pa_cons (pe_lst pa_nil) pa_nil))) (by rfl))
      (pss_cons (ps_for PassesOwn.never rfl (pi_range2 (by rfl) N.range (pa_cons pe_int (pa_cons (pv 2) pa_nil))) (pg_name (i := 5) sc_trk.nd rfl (.inl rfl))
        (pss_cons (ps_set (i := 6) sc_trk.nd rfl (.inl rfl) (pe_ix ix_list (pe_lst (pa_cons (pe_op op_sub (pv 5) pe_int) (pa_cons pe_int (pa_cons (pe_callB (call_max2 rfl) (by rfl) N.max PyProof.Rows.boot_max (pa_cons pe_int (pa_cons (pe_op op_sub (pv 5) pe_int) pa_nil)))
            (pa_cons (pe_callB (call_max2 rfl) (by rfl) N.max PyProof.Rows.boot_max (pa_cons pe_int (pa_cons (pe_op op_sub (pv 5) pe_int) pa_nil))) (pa_cons (pe_op op_fdiv (pv 5) pe_int) pa_nil)))))) (pv 3) (fun _ _ => rfl)))
        (pss_cons (ps_set (i := 7) sc_trk.nd rfl (.inl rfl) (pe_ifExp (pt_cmpR op_gt (pe_use U hr rfl (pa_cons (pv 0) (pa_cons pe_int pa_nil))) pe_int (nomark _)) (pv 6) (pe_use U hr rfl (pa_cons (pv 0) (pa_cons (pv 5) pa_nil)))))
        (pss_one (ps_expr (pe_bm PySem.F.plainAttrs_list PySem.F.slot_list_append PySem.F.type_list_append mt_append (pv 4) (pa_cons
          (pe_ifExp (pt_cmpR op_eq (pe_use U hr rfl (pa_cons (pv 0) (pa_cons pe_int pa_nil))) pe_int (nomark _)) (pe_tup (pa_cons (pv 7) (pa_cons (pv 5) pa_nil))) (pe_tup (pa_cons (pv 5) (pa_cons (pv 7) pa_nil)))) pa_nil))))))
      )
      (pss_cons (ps_set (i := 8) sc_trk.nd rfl (.inl rfl) (pe_use U hr rfl (pa_cons (pv 0) (pa_cons (pe_op op_add (pe_callB call_len_seq (by rfl) N.len PySem.boot_len (pa_cons (pv 4) pa_nil)) pe_int) pa_nil))))
      (pss_one (ps_ret (pe_callTy call_tuple_of (by rfl) N.tuple boot_tuple (pa_cons (pe_op op_cat (pe_slice sl_list (pv 4) (po_some (pv 8)) po_none) (pe_slice sl_list (pv 4) po_none (po_some (pv 8)))) pa_nil)))))), ?_⟩
    obtain ⟨kvs0, hd0⟩ := D.some1
    obtain ⟨xs0, hc0⟩ := D.some2
    refine ⟨_, rfl, _, rfl, dr, cl, m, n, rfl, D, by omega, hm0, by omega, fun c0 Ha c00 c01 Da ka => ?_⟩
    refine ⟨_, _, rfl, rfl, _, rfl, dr, cl, 5, _, rfl, Da, by omega, by decide, by decide, fun sh Hb sh0 sh1 Db kb => ?_⟩
    refine ⟨by show 0 ≤ sizeLine; exact Nat.zero_le _, fun fl nfl => ?_⟩
    have frb : Fr dr H Hb := (Fr.of ka).trans (Fr.of kb)
    obtain ⟨kvb, hdb⟩ := Db.some1
    obtain ⟨xsb, hcb⟩ := Db.some2
    have fd : fl ≠ dr := fun z => by rw [z, hdb] at nfl; cases nfl
    have fc : fl ≠ cl := fun z => by rw [z, hcb] at nfl; cases nfl
    have nf : H fl = none := frb.free fd nfl
    refine ⟨_, _, _, rfl, ?_⟩
    have T0 : TI H (upd Hb fl (.lst [])) dr cl fl 0 (n + 2) [] [] := ⟨Db.same (same_upd nfl _), frb.trans (Fr.sm (same_upd nfl _)), upd_same, ⟨rfl, fun _ _ _ h => nomatch h⟩, rfl, rfl, fun _ h => nomatch h⟩
    have e62 : (2 : Int) ^ 62 = 4611686018427387904 := by decide
    refine ⟨_, rfl, 1, _, rfl, ⟨by rw [e62]; omega, by rw [e62]; omega, by rw [e62]; omega, by rw [e62]; omega⟩, ?_⟩
    refine for_range (lo := 1) (fun i σ H1 => ∃ (ps : List Addr) (tr : List E2) (x5 x6 x7 x8 : Option V) (q : Nat), σ = [some (.ref dr), some (.int m), some (.int (1 + c0)), some (.int sh), some (.ref fl), x5, x6, x7, x8] ∧ q ≤ n + 2 + 3 * i ∧ TI H H1 dr cl fl i q ps tr) ⟨[], [], _, _, _, _, _, rfl, by omega, T0⟩ ?_ ?_
    · rintro i σ H1 hi ⟨ps, tr, x5, x6, x7, x8, q, rfl, hq, t⟩
      have hi2 : (i : Int) < 1 + c0 - 1 := by omega
      have lenb : (ps.map V.ref).length < sizeLine := by
        rw [List.length_map, t.P.1, t.len, sizeLine_eq]
        omega
      obtain ⟨b, hb, b0, b1⟩ := pick5 (r := sh) (i := i) sh0 sh1 (a := 1 + (i : Int) - 1) (b := 0) (c := if 1 + (i : Int) - 2 > 0 then 1 + (i : Int) - 2 else 0) (d := if 1 + (i : Int) - 3 > 0 then 1 + (i : Int) - 3 else 0) (e := (1 + (i : Int)) / 2) (by omega) (by omega) (by split <;> omega) (by split <;> omega) (by omega)
      refine ⟨_, rfl, _, _, rfl, rfl, _, rfl, _, _, rfl, rfl, _, _, rfl, _, rfl, _, _, rfl, rfl, _, _, rfl, _, rfl, _, _, rfl, rfl, ⟨by decide, by decide⟩, by show 5 ≤ sizeLine; rw [sizeLine_eq]; decide, fun lq nlq => ?_⟩
      refine ⟨_, rfl, lq, _, _, _, rfl, rfl, SqL.of upd_same, hb, ?_⟩
      have sL := same_upd (H := H1) nlq
      -- other
      refine ⟨_, rfl, dr, cl, 4, q, rfl, t.D.same (sL _), by omega, by decide, by decide, fun r4 H4 r40 r41 D4 k4 => ?_⟩
      have fr4 : Fr dr H1 H4 := (Fr.sm (sL _)).trans (Fr.of k4)
      refine ⟨_, _, rfl, rfl, _, rfl, ?_⟩
      refine ite2 (fun _ => ?_) (fun _ => ?_)
      · refine ⟨_, rfl, ?_⟩
        have o0 := b0
        have D2 := D4
        have k2 := fr4
        obtain ⟨on, rfl⟩ := Int.eq_ofNat_of_zero_le o0
        have fr2 : Fr dr H1 H4 := k2
        have hf2 := fr2 _ _ t.hf fd
        refine ⟨_, rfl, .inl ⟨rfl, _, SqL.of hf2⟩, _, rfl, dr, cl, 2, _, rfl, D2, by omega, by decide, by decide, fun z H3 z0 z1 D3 k3 => ?_⟩
        have fr3 : Fr dr H1 H3 := fr2.trans (Fr.of k3)
        have hf3 := fr3 _ _ t.hf fd
        refine ⟨rfl, _, rfl, ?_⟩
        refine ite2 (fun _ => ?_) (fun _ => ?_)
        · refine ⟨_, rfl, _, rfl, by show 2 ≤ sizeLine; rw [sizeLine_eq]; decide, fun p np => ⟨fl, _, _, rfl, rfl, same_upd np _ _ _ hf3, lenb, ?_⟩⟩
          have es : V.int (1 + (i : Int)) = iv (i + 1) := by show V.int _ = V.int _; congr 1; omega
          rw [es]
          exact ⟨_, _, _, _, _, _, q + 3, rfl, by omega, t.step nf fd fc (D3.mono (by omega)) fr3 np (e := (on, i + 1)) (by unfold mx; simp only; omega) (by show on ≠ i + 1; omega)⟩
        · refine ⟨_, rfl, _, rfl, by show 2 ≤ sizeLine; rw [sizeLine_eq]; decide, fun p np => ⟨fl, _, _, rfl, rfl, same_upd np _ _ _ hf3, lenb, ?_⟩⟩
          have es : V.int (1 + (i : Int)) = iv (i + 1) := by show V.int _ = V.int _; congr 1; omega
          rw [es]
          exact ⟨_, _, _, _, _, _, q + 3, rfl, by omega, t.step nf fd fc (D3.mono (by omega)) fr3 np (e := (i + 1, on)) (by unfold mx; simp only; omega) (by show i + 1 ≠ on; omega)⟩
      · refine ⟨_, rfl, _, rfl, dr, cl, _, _, rfl, D4, by omega, by omega, by omega, fun o H2 o0 o1 D2 k2' => ?_⟩
        have k2 : Fr dr H1 H2 := fr4.trans (Fr.of k2')
        obtain ⟨on, rfl⟩ := Int.eq_ofNat_of_zero_le o0
        have fr2 : Fr dr H1 H2 := k2
        have hf2 := fr2 _ _ t.hf fd
        refine ⟨_, rfl, .inl ⟨rfl, _, SqL.of hf2⟩, _, rfl, dr, cl, 2, _, rfl, D2, by omega, by decide, by decide, fun z H3 z0 z1 D3 k3 => ?_⟩
        have fr3 : Fr dr H1 H3 := fr2.trans (Fr.of k3)
        have hf3 := fr3 _ _ t.hf fd
        refine ⟨rfl, _, rfl, ?_⟩
        refine ite2 (fun _ => ?_) (fun _ => ?_)
        · refine ⟨_, rfl, _, rfl, by show 2 ≤ sizeLine; rw [sizeLine_eq]; decide, fun p np => ⟨fl, _, _, rfl, rfl, same_upd np _ _ _ hf3, lenb, ?_⟩⟩
          have es : V.int (1 + (i : Int)) = iv (i + 1) := by show V.int _ = V.int _; congr 1; omega
          rw [es]
          exact ⟨_, _, _, _, _, _, q + 3, rfl, by omega, t.step nf fd fc (D3.mono (by omega)) fr3 np (e := (on, i + 1)) (by unfold mx; simp only; omega) (by show on ≠ i + 1; omega)⟩
        · refine ⟨_, rfl, _, rfl, by show 2 ≤ sizeLine; rw [sizeLine_eq]; decide, fun p np => ⟨fl, _, _, rfl, rfl, same_upd np _ _ _ hf3, lenb, ?_⟩⟩
          have es : V.int (1 + (i : Int)) = iv (i + 1) := by show V.int _ = V.int _; congr 1; omega
          rw [es]
          exact ⟨_, _, _, _, _, _, q + 3, rfl, by omega, t.step nf fd fc (D3.mono (by omega)) fr3 np (e := (i + 1, on)) (by unfold mx; simp only; omega) (by show i + 1 ≠ on; omega)⟩
    · rintro σ H1 ⟨ps, tr, x5, x6, x7, x8, q, rfl, hq, t⟩
      have hcl : ((1 + c0 - 1).toNat : Int) = c0 := by omega
      have lps : (ps.map V.ref).length = ps.length := List.length_map _
      have lpt : ps.length = tr.length := t.P.1
      have ltr : tr.length = (1 + c0 - 1).toNat := t.len
      refine ⟨_, rfl, _, rfl, fl, _, rfl, .inl (SqL.of t.hf), _, _, rfl, rfl, dr, cl, _, q, rfl, t.D, by omega, by omega, by omega, fun z H2 z0 z1 D2 k2 => ?_⟩
      obtain ⟨zn, rfl⟩ := Int.eq_ofNat_of_zero_le z0
      obtain ⟨kv1, hd1⟩ := t.D.some1
      have hf2 := Fr.of k2 _ _ t.hf fd
      have P2 := t.P.fr (Fr.of k2) hd1
      have zl : zn ≤ ps.length := by omega
      refine ⟨_, rfl, _, rfl, _, rfl, fl, _, rfl, SqL.of hf2, fun p np => ?_⟩
      have s3 := same_upd np (.lst (cutV (ps.map V.ref) (some (zn : Int)) none))
      refine ⟨_, rfl, _, rfl, _, rfl, fl, _, rfl, SqL.of (s3 _ _ hf2), fun p2 np2 => ?_⟩
      have s4 := same_upd np2 (.lst (cutV (ps.map V.ref) none (some (zn : Int))))
      have e1 : cutV (ps.map V.ref) (some (zn : Int)) none = (ps.drop zn).map V.ref := by
        unfold cutV
        rw [HT.sIx_nat, HT.sIx_none, Nat.min_eq_left (by omega), List.map_drop]
        exact List.take_of_length_le (by rw [List.length_drop]; exact Nat.le_refl _)
      have e2 : cutV (ps.map V.ref) none (some (zn : Int)) = (ps.take zn).map V.ref := by
        unfold cutV
        rw [HT.sIx_nat, HT.sIx_none, Nat.min_eq_left (by omega), List.drop_zero, Nat.sub_zero, List.map_take]
      refine ⟨p, p2, _, _, rfl, rfl, s4 _ _ upd_same, upd_same, by rw [e1, e2, List.length_map, List.length_map, List.length_drop, List.length_take, sizeLine_eq]; omega, fun p3 np3 => ?_⟩
      have s5 := same_upd np3 (.lst (cutV (ps.map V.ref) (some (zn : Int)) none ++ cutV (ps.map V.ref) none (some (zn : Int))))
      refine ⟨p3, _, rfl, .inl ⟨SqL.of upd_same, fun p4 np4 => ?_⟩⟩
      have s6 := ((s3.trans s4).trans s5).trans (same_upd np4 (.tup (cutV (ps.map V.ref) (some (zn : Int)) none ++ cutV (ps.map V.ref) none (some (zn : Int)))))
      have e3 : cutV (ps.map V.ref) (some (zn : Int)) none ++ cutV (ps.map V.ref) none (some (zn : Int)) = (ps.drop zn ++ ps.take zn).map V.ref := by rw [e1, e2, List.map_append]
      have hl2 : (tr.drop zn ++ tr.take zn).length = tr.length := by
        rw [List.length_append, List.length_drop, List.length_take]
        omega
      refine k p4 (ps.drop zn ++ ps.take zn) (tr.drop zn ++ tr.take zn) _ ((D2.same s6).mono (by omega)) ((t.fr.trans (Fr.of k2)).trans (Fr.sm s6)) ?_ ((P2.rot zn).same s6) (tree_rot t.ne (by rw [t.mxs, t.len]) zn) (by rw [hl2]; omega)
      rw [upd_same, e3]
end
end TR

namespace TR
open PySem PySem.Spec PyProof.Rows L2 L2.TT StX ClX
/-- the lists of neighbours -/
structure Ard (K : PySem.W.Frag) (H : Hp) (a : Addr) (tr : List E2) : Prop where
  ex : ∃ ts : List Addr, SqL K H a (ts.map V.ref) ∧ ts.length = tr.length + 1 ∧ ∀ (v : Nat) (t : Addr), ts[v]? = some t → H t = some (.lst ((nb tr v).map iv))
theorem Ard.same {K : PySem.W.Frag} {H H' : Hp} {a : Addr} {tr : List E2} (h : Ard K H a tr) (s : Same H H') : Ard K H' a tr := by
  obtain ⟨ts, h1, h2, h3⟩ := h.ex
  exact ⟨ts, s.seq h1, h2, fun v t e => s _ _ (h3 v t e)⟩
theorem Ard.row {K : PySem.W.Frag} {H : Hp} {a : Addr} {tr : List E2} (h : Ard K H a tr) {v : Nat} (hv : v ≤ tr.length) : ∃ (xs : List V) (t : Addr), SqL K H a xs ∧ xs[v]? = some (.ref t) ∧ H t = some (.lst ((nb tr v).map iv)) := by
  obtain ⟨ts, h1, h2, h3⟩ := h.ex
  have lt : v < ts.length := by omega
  exact ⟨_, ts[v], h1, map_get (List.getElem?_eq_getElem lt), h3 v _ (List.getElem?_eq_getElem lt)⟩
theorem Ard.fr {K : PySem.W.Frag} {H H' : Hp} {a dr : Addr} {tr : List E2} {kvs : List (Key × V)} (h : Ard K H a tr) (k : Fr dr H H') (hd : H dr = some (.dK kvs)) : Ard K H' a tr := by
  obtain ⟨ts, h1, h2, h3⟩ := h.ex
  refine ⟨ts, ?_, h2, fun v t e => k _ _ (h3 v t e) (ne_of (h3 v t e) hd (by intro z; cases z))⟩
  rcases h1 with (h1 | ⟨ob, h1⟩) | h1
  · exact .inl (.inl (k _ _ h1 (ne_of h1 hd (by intro z; cases z))))
  · exact .inl (.inr ⟨ob, k _ _ h1 (ne_of h1 hd (by intro z; cases z))⟩)
  · exact .inr h1
theorem tupF {H H' : Hp} {dr p : Addr} {xs : List V} {kvs : List (Key × V)} (k : Fr dr H H') (hd : H dr = some (.dK kvs)) (h : H p = some (.tup xs)) : H' p = some (.tup xs) := k _ _ h (ne_of h hd (by intro z; cases z))
theorem lstF {H H' : Hp} {dr p : Addr} {xs : List V} {kvs : List (Key × V)} (k : Fr dr H H') (hd : H dr = some (.dK kvs)) (h : H p = some (.lst xs)) : H' p = some (.lst xs) := k _ _ h (ne_of h hd (by intro z; cases z))
end TR

namespace TR
open PySem PySem.Spec PyProof.Rows L2 L2.TT StX ClX LamX
/-- a def whose code object stands at c -/
structure FunC (K : PySem.W.Frag) (x qual : Str) (st : Stmt) (f : Addr) (fd : FuncData) (c : Addr) : Prop where
  ex : ∃ (oc : Value) (od : Option Addr) (kV doc pm : Value) (an : Option Addr) (ct : Value) (osl : Array (Option Value)),
    fd = PySem.W.fnOf x qual (defArgs st) (defBody st) (defScope st) .none kV doc pm an (.ref c) ct ∧ K.lookup f = some ⟨oc, od, .func fd, osl⟩ ∧ PySem.W.codeIn K (.ref c) qual = true
theorem FunC.okG {P : Program} {w : World} {K : PySem.W.Frag} {mg : Str → Option Value} {base : Heap} {x qual : Str} {st : Stmt} {f c : Addr} {fd : FuncData} {N ps : List Str} {k : Nat} {sp : Sp} (F : FunC K x qual st f fd c) (S : FnScope N ps (defScope st)) (len : ∀ vs H Q E, sp vs H Q E → vs.length = ps.length)
    (hbody : ∀ (A : Around) (outer : List Env) (s : Shared) (H : Hp) (vs : List V) (Q : VK) (E : XK), NoGuard (A.deeper (envOfC qual (defScope st) s.heap.objs.size f (.ref c))) → Room k (A.deeper (envOfC qual (defScope st) s.heap.objs.size f (.ref c))) → sp vs H Q E →
      ∃ t, PSs (cxOf CX0 P w K mg base N qual (defScope st) f (.ref c) A outer s H E).nox (defBody st) t ∧ t { nx := fun _ H' => Q .non H', rt := Q } (start N vs) H) : FnG P w K mg base CX0 (k + 1) f fd ps sp := by
  obtain ⟨oc, od, kV, doc, pm, an, ct, osl, rfl, lk, hcd⟩ := F.ex
  refine fnG_of lk hcd S len fun A outer s H vs Q E hG hr hsp => ?_
  obtain ⟨t, h, q⟩ := hbody A outer s H vs Q E hG hr hsp
  exact ⟨t, h.nox, q⟩
/-! what stands also behind a lambda -/
theorem draw_ex {H H' : Hp} {dr cl : Addr} {n : Nat} (d : DrawAt H dr cl n) (e : ExtN H H') : DrawAt H' dr cl n := by
  obtain ⟨cs, i, j, k, h1, h2, r⟩ := d
  exact ⟨cs, i, j, k, e _ _ h1 (fun _ z => by cases z), e _ _ h2 (fun _ z => by cases z), r⟩
theorem rail_ex {C : Addr} {H H' : Hp} {r : Addr} {tr : List E2} (R : RailAt C H r tr) (k : ExtN H H') : RailAt C H' r tr := by
  obtain ⟨T, few, dx, tt, na, A, L, ps, ts, h1, h2, h3, h4, h5, h6, h7, h8⟩ := R
  refine ⟨T, few, dx, tt, na, A, L, ps, ts, k _ _ h1 (fun _ z => by cases z), k _ _ h2 (fun _ z => by cases z), ⟨h3.1, fun i p e a b => k _ _ (h3.2 i p e a b) (fun _ z => by cases z)⟩, k _ _ h4 (fun _ z => by cases z), h5, fun v t h => k _ _ (h6 v t h) (fun _ z => by cases z), k _ _ h7 (fun _ z => by cases z), k _ _ h8 (fun _ z => by cases z)⟩
theorem tup_ex {H H' : Hp} {p : Addr} {xs : List V} (k : ExtN H H') (h : H p = some (.tup xs)) : H' p = some (.tup xs) := k _ _ h (fun _ z => by cases z)
theorem lst_ex {H H' : Hp} {p : Addr} {xs : List V} (k : ExtN H H') (h : H p = some (.lst xs)) : H' p = some (.lst xs) := k _ _ h (fun _ z => by cases z)
theorem Ard.ex2 {K : PySem.W.Frag} {H H' : Hp} {a : Addr} {tr : List E2} (h : Ard K H a tr) (k : ExtN H H') : Ard K H' a tr := by
  obtain ⟨ts, h1, h2, h3⟩ := h.ex
  refine ⟨ts, ?_, h2, fun v t e => lst_ex k (h3 v t e)⟩
  rcases h1 with (h1 | ⟨ob, h1⟩) | h1
  · exact .inl (.inl (lst_ex k h1))
  · exact .inl (.inr ⟨ob, k _ _ h1 (fun _ z => by cases z)⟩)
  · exact .inr h1
def spLawT (K : PySem.W.Frag) (T : List (Addr × Str)) : Sp := fun vs H Q _ => ∃ (a : Addr) (ns : List Int), vs = [.ref a] ∧ SqL K H a (ns.map V.int) ∧ ns.length ≤ 63 ∧ Tabs T H ∧ ∀ H', Q (.bl true) H'
end TR

namespace TR
open PySem PySem.Spec PyProof.Rows L2 L2.TT StX ClX L2.TL LamX
def fwd (i : Nat) : Str := if i ≤ 1 then "value" else "position"
def wd : Nat → Str
  | 0 => "standing"
  | 1 => "length"
  | 2 => "move"
  | _ => "blocked"
/-- what is read off of the i-th class of errors -/
structure SCls (K : PySem.W.Frag) (CR CU CM CS CL CV CB CP CT C : Addr) (i : Nat) : Prop where
  ea : PySem.W.exmAny K (.ref C) [.ref CR, .ref CU, .ref CM] = some true
  xc : ∃ bm nid, XC K C bm nid
  nv : PySem.W.findIn K (.ref C) (fwd i) = some none
  k0 : PySem.W.kitOne K (.ref C) (.ref CS) = some (decide (i = 0))
  k1 : PySem.W.kitOne K (.ref C) (.ref CL) = some (decide (i = 1))
  k2 : PySem.W.kitOne K (.ref C) (.ref CV) = some (decide (i = 2))
  k3 : PySem.W.kitOne K (.ref C) (.ref CB) = some (decide (i = 3))
  kt : PySem.W.kitAny K (.ref C) [.ref CP, .ref CT] = some false
  bV : PySem.W.kitOne K (.ref C) (.type "ValueError") = some (decide (i ≤ 2))
  bR : PySem.W.kitOne K (.ref C) (.type "RuntimeError") = some (decide (i = 3))
  bL : PySem.W.kitOne K (.ref C) (.type "LookupError") = some false
structure SayF (K : PySem.W.Frag) (mg : Str → Option Value) (CR CU CM CS CL CV CB CP CT : Addr) : Prop where
  kc : KCls K
  mR : mg "RailError" = some (.ref CR)
  mU : mg "RunError" = some (.ref CU)
  mM : mg "MissingError" = some (.ref CM)
  mS : mg "InvalidStanding" = some (.ref CS)
  mL : mg "InvalidLength" = some (.ref CL)
  mV : mg "InvalidMove" = some (.ref CV)
  mB : mg "Blocked" = some (.ref CB)
  mP : mg "InvalidPair" = some (.ref CP)
  mT : mg "InvalidStation" = some (.ref CT)
  eV : mg "ValueError" = none
  eR : mg "RuntimeError" = none
  eL : mg "LookupError" = none
  isi : mg "isinstance" = none
theorem FlownAt.same {H H' : Hp} {a C : Addr} {fs : List (Str × V)} (f : FlownAt H a C fs) (s : Same H H') : FlownAt H' a C fs :=
  let ⟨d, h1, h2⟩ := f
  ⟨d, s _ _ h1, s _ _ h2⟩
theorem said4 {i : Nat} (h : i ≤ 3) : i = 0 ∨ i = 1 ∨ i = 2 ∨ i = 3 := by omega
theorem said_cnt {i : Nat} (h : i ≤ 3) : (!decide (V.int ((([decide (i = 0), decide (i = 1), decide (i = 2), decide (i = 3)] : List Bool).count true : Nat) : Int) = V.int 1)) = false := by
  rcases said4 h with rfl | rfl | rfl | rfl <;> rfl
theorem said_cnt2 {i : Nat} (h : i ≤ 3) : (!decide (V.int ((([decide (i ≤ 2), decide (i = 3), false] : List Bool).count true : Nat) : Int) = V.int 1)) = false := by
  rcases said4 h with rfl | rfl | rfl | rfl <;> rfl
/-- what _law_said makes of the call -/
def TSaid (K : PySem.W.Frag) (CR CU CM CS CL CV CB CP CT : Addr) : (XK → Hp → VK → Prop) → Hp → VK → Prop := fun tl H Q => ∀ (E' : XK) (Q' : VK),
  (∀ (C d : Addr) (i : Nat) (v : V) (H' : Hp), i ≤ 3 → SCls K CR CU CM CS CL CV CB CP CT C i → H' d = some (.xd [(fwd i, v)]) → (∀ t H2, Same H' H2 → H' t = none → H2 t = some (.tup [.str (wd i), v]) → Q (.ref t) H2) → E' (.ref C) (some d) H') →
  (∀ v H', Q (.str "returned") H' → Q' v H') → tl E' H Q'
abbrev N_sc_said : List Str := ["call", "caught", "e", "some", "bases"]
theorem sc_said : FnScope N_sc_said ["call"] (defScope s_law_said) := ⟨rfl, rfl, rfl, by decide +kernel, rfl, by decide +kernel, by decide +kernel⟩
theorem said_gives {X : Cx} {g : Addr} {cdg : Value} {q : Str} {CR CU CM CS CL CV CB CP CT : Addr} (W : SayF X.K X.mg CR CU CM CS CL CV CB CP CT) :
    GivesS X N_sc_said "_law_said" (defScope s_law_said) g cdg (defBody s_law_said) "call" q (TSaid X.K CR CU CM CS CL CV CB CP CT) := by
  intro f c' s H Q tl act hc h hr
  have hu64 : (X.A.deeper (envOfC "_law_said" (defScope s_law_said) s.heap.objs.size g cdg)).units + 64 < cLine := hr.units
  refine ⟨_, (pss_cons (ps_set (i := 1) sc_said.nd rfl (.inl rfl) pe_non)
      (pss_cons (ps_try_kp (X := (cxOf C8.CX0 X.prog X.w X.K X.mg X.base N_sc_said "_law_said" (defScope s_law_said) g cdg X.A X.stack s H C8.E0).nox) (i := 2) (cs := [.ref CR, .ref CU, .ref CM]) (Wout := fun _ _ _ _ => False) rfl rfl rfl sc_said.nd rfl rfl (fun cls b he => test3 (X := (cxOf C8.CX0 X.prog X.w X.K X.mg X.base N_sc_said "_law_said" (defScope s_law_said) g cdg X.A X.stack s H C8.E0).nox) ⟨by rfl, by decide, .inl W.mR⟩ ⟨by rfl, by decide, .inl W.mU⟩ ⟨by rfl, by decide, .inl W.mM⟩ he) LamX.takes0 (fun W' pn xe tk ow => pss_one (ps_expr (act pn xe (WE W') _ _ (fun σ => passAt tk σ)))) (fun a oe cls d pn hz hd => pss_one (ps_set (i := 1) sc_said.nd rfl (.inl rfl) (pv 2))))
      (pss_cons (ps_if (pt_cmp (pc_isN (pv 1))) (pss_one (ps_ret pe_str)) pss_nil)
      (pss_cons (ps_set (i := 3) sc_said.nd rfl (.inl rfl) (pe_lst (pa_cons (pe_callB (call_fis W.kc) (by rfl) W.isi boot_isinstance (pa_cons (pv 1) (pa_cons (pe_glob (v := .ref CS) (by rfl) W.mS rfl) pa_nil))) (pa_cons (pe_callB (call_fis W.kc) (by rfl) W.isi boot_isinstance (pa_cons (pv 1) (pa_cons (pe_glob (v := .ref CL) (by rfl) W.mL rfl) pa_nil))) (pa_cons (pe_callB (call_fis W.kc) (by rfl) W.isi boot_isinstance (pa_cons (pv 1) (pa_cons (pe_glob (v := .ref CV) (by rfl) W.mV rfl) pa_nil))) pa_nil)))))
      (pss_cons (ps_expr (pe_bm PySem.F.plainAttrs_list PySem.F.slot_list_append PySem.F.type_list_append mt_append (pv 3) (pa_cons (pe_callB (call_fis W.kc) (by rfl) W.isi boot_isinstance (pa_cons (pv 1) (pa_cons (pe_glob (v := .ref CB) (by rfl) W.mB rfl) pa_nil))) pa_nil)))
      (pss_cons (ps_set (i := 4) sc_said.nd rfl (.inl rfl) (pe_lst (pa_cons (pe_callB (call_fis W.kc) (by rfl) W.isi boot_isinstance (pa_cons (pv 1) (pa_cons (pe_bltn (v := .ty "ValueError") (by rfl) W.eV (by decide +kernel) rfl) pa_nil))) (pa_cons (pe_callB (call_fis W.kc) (by rfl) W.isi boot_isinstance (pa_cons (pv 1) (pa_cons (pe_bltn (v := .ty "RuntimeError") (by rfl) W.eR (by decide +kernel) rfl) pa_nil))) (pa_cons (pe_callB (call_fis W.kc) (by rfl) W.isi boot_isinstance (pa_cons (pv 1) (pa_cons (pe_bltn (v := .ty "LookupError") (by rfl) W.eL (by decide +kernel) rfl) pa_nil))) pa_nil)))))
      (pss_cons (ps_if (PW.pt (pw_or (pt_val (pe_callB (call_fisT W.kc) (by rfl) W.isi boot_isinstance (pa_cons (pv 1) (pa_cons (pe_tup (pa_cons (pe_glob (v := .ref CP) (by rfl) W.mP rfl) (pa_cons (pe_glob (v := .ref CT) (by rfl) W.mT rfl) pa_nil))) pa_nil)))) (pw_or (pt_cmpR op_ne (pe_bm PySem.F.plainAttrs_list PySem.F.slot_list_count PySem.F.type_list_count mt_cntB (pv 3) (pa_cons pe_bl pa_nil)) pe_int (nomark _)) (pw_or1 (pt_cmpR op_ne (pe_bm PySem.F.plainAttrs_list PySem.F.slot_list_count PySem.F.type_list_count mt_cntB (pv 4) (pa_cons pe_bl pa_nil)) pe_int (nomark _)))))) (pss_one (ps_ret pe_str)) pss_nil)
      (pss_cons (ps_if (PW.pt (pw_or (pt_cmpR op_ne (pe_ix ix_list (pv 4) pe_int (fun _ _ => rfl)) (pe_ix ix_list (pv 3) pe_int (fun _ _ => rfl)) (nomark _)) (pw_or1 (pt_val (pe_ix ix_list (pv 4) pe_int (fun _ _ => rfl)))))) (pss_one (ps_ret pe_str)) pss_nil)
      (pss_cons (ps_if (PW.pt (pw_or (pt_val (pe_ix ix_list (pv 3) pe_int (fun _ _ => rfl))) (pw_or1 (pt_val (pe_ix ix_list (pv 3) pe_int (fun _ _ => rfl)))))) (pss_one (ps_ret (pe_ifExp (pt_val (pe_ix ix_list (pv 3) pe_int (fun _ _ => rfl))) (pe_tup (pa_cons pe_str (pa_cons (pe_fget (pv 1)) pa_nil))) (pe_tup (pa_cons pe_str (pa_cons (pe_fget (pv 1)) pa_nil)))))) pss_nil)
      (pss_one (ps_ret (pe_ifExp (pt_val (pe_ix ix_list (pv 3) pe_int (fun _ _ => rfl))) (pe_tup (pa_cons pe_str (pa_cons (pe_fget (pv 1)) pa_nil))) (pe_tup (pa_cons pe_str (pa_cons (pe_fget (pv 1)) pa_nil))))))))))))))), ?_⟩
  have two : (2 : Nat) ≤ sizeLine := by rw [sizeLine_eq]; decide
  have three : (3 : Nat) ≤ sizeLine := by rw [sizeLine_eq]; decide
  have four : (4 : Nat) ≤ sizeLine := by rw [sizeLine_eq]; decide
  refine ⟨rfl, hc, ?_⟩
  refine h _ _ (fun C d i v H' hi S hd kk => ?_) (fun v H' hq => ?_)
  · obtain ⟨bm, nid, xc⟩ := S.xc
    refine ⟨true, S.ea, fun _ a na => ⟨_, rfl, ?_⟩, fun z => (nomatch z)⟩
    have fl := FlownAt.mk (C := C) (d := d) (fs := [(fwd i, v)]) na hd
    have s0 := same_upd na (exq a (.ref C) (some d))
    refine ⟨_, rfl, _, rfl, ?_⟩
    refine iteF ?_
    generalize upd H' a (exq a (.ref C) (some d)) = H1 at fl s0
    refine ⟨_, rfl, a, C, _, _, _, nid, bm, _, rfl, .own CS, xc, fl, S.k0, _, rfl, a, C, _, _, _, nid, bm, _, rfl, .own CL, xc, fl, S.k1, _, rfl, a, C, _, _, _, nid, bm, _, rfl, .own CV, xc, fl, S.k2, three, fun la nla => ?_⟩
    have s1 := s0.trans (same_upd nla (.lst [V.bl (decide (i = 0)), V.bl (decide (i = 1)), V.bl (decide (i = 2))]))
    have fl1 := fl.same (same_upd nla (.lst [V.bl (decide (i = 0)), V.bl (decide (i = 1)), V.bl (decide (i = 2))]))
    have hl1 := upd_same (H := H1) (a := la) (o := .lst [V.bl (decide (i = 0)), V.bl (decide (i = 1)), V.bl (decide (i = 2))])
    have nla0 := s0.free nla
    generalize upd H1 la (.lst [V.bl (decide (i = 0)), V.bl (decide (i = 1)), V.bl (decide (i = 2))]) = H2 at s1 fl1 hl1
    refine ⟨_, rfl, .inl ⟨rfl, _, SqL.of hl1⟩, _, rfl, a, C, _, _, _, nid, bm, _, rfl, .own CB, xc, fl1, S.k3, la, _, _, rfl, rfl, hl1, by rw [sizeLine_eq]; show 3 < _; decide, ?_⟩
    have s2 := same_old s1 nla0 (.lst ([V.bl (decide (i = 0)), V.bl (decide (i = 1)), V.bl (decide (i = 2))] ++ [V.bl (decide (i = 3))]))
    have hl2 : upd H2 la (.lst ([V.bl (decide (i = 0)), V.bl (decide (i = 1)), V.bl (decide (i = 2))] ++ [V.bl (decide (i = 3))])) la = some (.lst [V.bl (decide (i = 0)), V.bl (decide (i = 1)), V.bl (decide (i = 2)), V.bl (decide (i = 3))]) := upd_same
    have fl2 : FlownAt (upd H2 la (.lst ([V.bl (decide (i = 0)), V.bl (decide (i = 1)), V.bl (decide (i = 2))] ++ [V.bl (decide (i = 3))]))) a C [(fwd i, v)] := by
      obtain ⟨dd, f1, f2⟩ := fl1
      exact ⟨dd, (upd_ne (ne_of f1 hl1 (by intro z; cases z))).trans f1, (upd_ne (ne_of f2 hl1 (by intro z; cases z))).trans f2⟩
    generalize upd H2 la (.lst ([V.bl (decide (i = 0)), V.bl (decide (i = 1)), V.bl (decide (i = 2))] ++ [V.bl (decide (i = 3))])) = H3 at s2 hl2 fl2 ⊢
    clear hl1 fl1 s1
    refine ⟨_, rfl, a, C, _, _, _, nid, bm, _, rfl, .ty _, xc, fl2, S.bV, _, rfl, a, C, _, _, _, nid, bm, _, rfl, .ty _, xc, fl2, S.bR, _, rfl, a, C, _, _, _, nid, bm, _, rfl, .ty _, xc, fl2, S.bL, three, fun lb nlb => ?_⟩
    have sb := same_upd nlb (.lst [V.bl (decide (i ≤ 2)), V.bl (decide (i = 3)), V.bl false])
    have s3 := s2.trans sb
    have fl3 := fl2.same sb
    have hl3 := sb _ _ hl2
    have hb3 := upd_same (H := H3) (a := lb) (o := .lst [V.bl (decide (i ≤ 2)), V.bl (decide (i = 3)), V.bl false])
    generalize upd H3 lb (.lst [V.bl (decide (i ≤ 2)), V.bl (decide (i = 3)), V.bl false]) = H4 at s3 fl3 hl3 hb3
    refine ⟨_, rfl, two, fun tp ntp => ?_⟩
    have st := same_upd ntp (.tup [V.ref CP, V.ref CT])
    refine ⟨a, C, tp, _, _, _, nid, bm, false, rfl, upd_same, .cons (.own CP) (.cons (.own CT) .nil), xc, fl3.same st, S.kt, _, rfl, ?_⟩
    refine iteF ?_
    have s4 := s3.trans st
    have fl4 := fl3.same st
    have hl4 := st _ _ hl3
    have hb4 := st _ _ hb3
    generalize upd H4 tp (.tup [V.ref CP, V.ref CT]) = H5 at s4 fl4 hl4 hb4
    refine ⟨_, rfl, .inl ⟨rfl, _, SqL.of hl4⟩, la, [decide (i = 0), decide (i = 1), decide (i = 2), decide (i = 3)], true, rfl, rfl, SqL.of hl4, rfl, _, rfl, ?_⟩
    rw [said_cnt hi]
    refine iteF ?_
    refine ⟨_, rfl, .inl ⟨rfl, _, SqL.of hb4⟩, lb, [decide (i ≤ 2), decide (i = 3), false], true, rfl, rfl, SqL.of hb4, rfl, _, rfl, ?_⟩
    rw [said_cnt2 hi]
    refine iteF ?_
    refine ⟨_, rfl, lb, _, _, _, rfl, rfl, SqL.of hb4, rfl, _, rfl, la, _, _, _, rfl, rfl, SqL.of hl4, rfl, rfl, _, rfl, ?_⟩
    rw [show (!decide (V.bl (decide (i = 3)) = V.bl (decide (i = 3)))) = false from by rw [decide_eq_true rfl]; rfl]
    refine iteF ?_
    refine ⟨_, rfl, lb, _, _, _, rfl, rfl, SqL.of hb4, rfl, _, rfl, ?_⟩
    refine iteF ?_
    refine ⟨_, rfl, la, _, _, _, rfl, rfl, SqL.of hl4, rfl, _, rfl, ?_⟩
    rcases said4 hi with rfl | rfl | rfl | rfl
    · refine iteT (iteT ?_)
      refine ⟨_, rfl, la, _, _, _, rfl, rfl, SqL.of hl4, rfl, _, rfl, ?_⟩
      refine iteT ?_
      refine ⟨_, rfl, a, C, _, v, nid, bm, rfl, xc, S.nv, fl4, rfl, two, fun t nt => ?_⟩
      exact kk t _ (s4.trans (same_upd nt _)) (s4.free nt) upd_same
    · refine iteF ?_
      refine ⟨_, rfl, la, _, _, _, rfl, rfl, SqL.of hl4, rfl, _, rfl, ?_⟩
      refine iteT ?_
      refine ⟨_, rfl, la, _, _, _, rfl, rfl, SqL.of hl4, rfl, _, rfl, ?_⟩
      refine iteF ?_
      refine ⟨_, rfl, a, C, _, v, nid, bm, rfl, xc, S.nv, fl4, rfl, two, fun t nt => ?_⟩
      exact kk t _ (s4.trans (same_upd nt _)) (s4.free nt) upd_same
    · refine iteF ?_
      refine ⟨_, rfl, la, _, _, _, rfl, rfl, SqL.of hl4, rfl, _, rfl, ?_⟩
      refine iteF ?_
      refine ⟨_, rfl, la, _, _, _, rfl, rfl, SqL.of hl4, rfl, _, rfl, ?_⟩
      refine iteT ?_
      refine ⟨_, rfl, a, C, _, v, nid, bm, rfl, xc, S.nv, fl4, rfl, two, fun t nt => ?_⟩
      exact kk t _ (s4.trans (same_upd nt _)) (s4.free nt) upd_same
    · refine iteF ?_
      refine ⟨_, rfl, la, _, _, _, rfl, rfl, SqL.of hl4, rfl, _, rfl, ?_⟩
      refine iteF ?_
      refine ⟨_, rfl, la, _, _, _, rfl, rfl, SqL.of hl4, rfl, _, rfl, ?_⟩
      refine iteF ?_
      refine ⟨_, rfl, a, C, _, v, nid, bm, rfl, xc, S.nv, fl4, rfl, two, fun t nt => ?_⟩
      exact kk t _ (s4.trans (same_upd nt _)) (s4.free nt) upd_same
  · refine ⟨_, rfl, _, rfl, ?_⟩
    refine iteT ?_
    exact hq
end TR


namespace L2.TT
open PySem PySem.Spec PyProof.Rows PySem.W
theorem sqT_same {K : Frag} {H H' : Hp} {a : Addr} {xs : List V} (h : SqT K H a xs) (e : Same H H') : SqT K H' a xs := by
  rcases h with (h | ⟨o, h⟩) | h
  · exact .inl (.inl (e _ _ h))
  · exact .inl (.inr ⟨o, e _ _ h⟩)
  · exact .inr h
section
variable {K : Frag} {H H' : Hp}
mutual
theorem dp_same (e : Same H H') : ∀ (d : PyData) (v : V), Dp K H v d → Dp K H' v d
  | .none, _, h => by cases h; exact .non
  | .bool b, _, h => by cases h; exact .bl b
  | .int i, _, h => by cases h; exact .int i
  | .str x, _, h => by cases h; exact .str x
  | .list ds, _, h => by
    cases h with
    | lst hs ha => exact .lst (e.seq hs) (dpAll_same e ds _ ha)
  | .tuple ds, _, h => by
    cases h with
    | tup hs ha => exact .tup (sqT_same hs e) (dpAll_same e ds _ ha)
  | .dict _, _, h => by cases h
theorem dpAll_same (e : Same H H') : ∀ (ds : List PyData) (vs : List V), DpAll K H vs ds → DpAll K H' vs ds
  | [], _, h => by cases h; exact .nil
  | d :: ds, _, h => by
    cases h with
    | cons h1 h2 => exact .cons (dp_same e d _ h1) (dpAll_same e ds _ h2)
end
theorem fd_same {v : V} {d : PyData} (e : Same H H') (f : FD H v d) : FD H' v d := by
  cases f with
  | flat f => exact .flat f
  | dic h k => exact .dic (e _ _ h) k
/-- a value that may be shown, by what it holds -/
structure ShowOk (K : Frag) (H : Hp) (v : V) (d : PyData) : Prop where
  is : (Dp K H v d ∧ d.canLay0 = true) ∨ FD H v d
  sh : d.showable = true
  lv : d.leavesShort 13 = true
  wt : d.weight ≤ 100
  dp : d.depth ≤ 10
theorem ShowOk.same {v : V} {d : PyData} (s : ShowOk K H v d) (e : Same H H') : ShowOk K H' v d :=
  ⟨s.is.elim (fun z => .inl ⟨dp_same e d v z.1, z.2⟩) fun z => .inr (fd_same e z), s.sh, s.lv, s.wt, s.dp⟩
theorem rep_dp {v : V} {d : PyData} (h : Dp K H v d) : ∀ n, DpAll K H (List.replicate n v) (List.replicate n d)
  | 0 => .nil
  | n + 1 => .cons h (rep_dp h n)
theorem rep_ds {v : V} {d : PyData} (h : FD H v d) : ∀ n, Paired (DS K H) (List.replicate n v) (List.replicate n d)
  | 0 => .nil
  | n + 1 => .cons (.fd h) (rep_ds h n)
theorem rep_lay {d : PyData} (h : d.canLay0 = true) : ∀ n, PyData.canLayAll0 (List.replicate n d) = true
  | 0 => by simp [PyData.canLayAll0]
  | n + 1 => by simp [List.replicate_succ, PyData.canLayAll0, h, rep_lay h n]
theorem rep_sh {d : PyData} (h : d.showable = true) : ∀ n, PyData.showableAll (List.replicate n d) = true
  | 0 => by simp [PyData.showableAll]
  | n + 1 => by simp [List.replicate_succ, PyData.showableAll, h, rep_sh h n]
theorem rep_lv {d : PyData} (h : d.leavesShort 13 = true) : ∀ n, PyData.leavesShortAll 13 (List.replicate n d) = true
  | 0 => by simp [PyData.leavesShortAll]
  | n + 1 => by simp [List.replicate_succ, PyData.leavesShortAll, h, rep_lv h n]
theorem rep_wt {d : PyData} (h : d.weight ≤ 100) : ∀ n, PyData.weightAll (List.replicate n d) ≤ 101 * n
  | 0 => by simp [PyData.weightAll]
  | n + 1 => by
    have := rep_wt h n
    simp only [List.replicate_succ, PyData.weightAll]
    omega
theorem rep_depth {d : PyData} (h : d.depth ≤ 10) : ∀ n, PyData.depthAll (List.replicate n d) ≤ 10
  | 0 => by simp [PyData.depthAll]
  | n + 1 => by
    have := rep_depth h n
    simp only [List.replicate_succ, PyData.depthAll]
    omega
/-- n times the same: what repr asks -/
theorem ShowOk.rep {v : V} {d : PyData} (s : ShowOk K H v d) {n : Nat} (hn : n ≤ 1000) : DL K H (List.replicate n v) (List.replicate n d) ∧ PyData.showableAll (List.replicate n d) = true ∧ PyData.leavesShortAll 13 (List.replicate n d) = true ∧ PyData.weightAll (List.replicate n d) ≤ 1000000 ∧ PyData.depthAll (List.replicate n d) ≤ 20 := by
  refine ⟨?_, rep_sh s.sh n, rep_lv s.lv n, ?_, ?_⟩
  · rcases s.is with ⟨z, c⟩ | z
    · exact .inl ⟨rep_dp z n, rep_lay c n⟩
    · exact .inr (rep_ds z n)
  · have := rep_wt s.wt n
    omega
  · have := rep_depth s.dp n
    omega
theorem flat_rep (v : V) (n : Nat) : (List.replicate n [v]).flatten = List.replicate n v := by
  induction n with
  | zero => rfl
  | succ n ih => rw [List.replicate_succ, List.flatten_cons, ih]; rfl
end
end L2.TT

namespace L2.TT
open PySem PySem.Spec PyProof.Rows PySem.W
/-- the value v stands for d, and its repr is d's text -/
def SK (K : Frag) (H : Hp) (v : V) (d : PyData) : Prop := ∀ (X : Cx) (pins : List (Addr × Obj)) (σ : St) (s : Shared) (u : Value), X.K = K → Inv X pins σ H s → RelV v u →
  ∃ (bs as : List Addr), Reads s.heap u d as ∧ ReadAtMost s.heap d.depth bs ∧ ReprK X.prog X.w bs s.heap d.depth u d.shown
theorem SK.dp {K : Frag} {H : Hp} {v : V} {d : PyData} (h : Dp K H v d) (c : d.canLay0 = true) (hs : d.showable = true) (hz : d.shown.length ≤ sizeLine) : SK K H v d := fun X pins σ s u e I r => by
  subst e
  obtain ⟨as, q⟩ := Dp.reads I d v u h r
  obtain ⟨bs, h1, h2⟩ := ReprK.of_reads (prog := X.prog) (w := X.w) q hs (fun z => by rw [PyData.hasDict_of_canLay d c] at z; exact absurd z Bool.false_ne_true) hz
  exact ⟨bs, as, q, h1, h2⟩
theorem SK.fd {K : Frag} {H : Hp} {v : V} {d : PyData} (h : FD H v d) (hs : d.showable = true) (hz : d.shown.length ≤ sizeLine) : SK K H v d := fun X pins σ s u e I r => by
  subst e
  obtain ⟨as, q, n⟩ := FD.reads I h r
  obtain ⟨bs, h1, h2⟩ := ReprK.of_reads (prog := X.prog) (w := X.w) q hs (fun _ => n) hz
  exact ⟨bs, as, q, h1, h2⟩
theorem readMost_le {h : Heap} {n m : Nat} {bs : List Addr} (r : ReadAtMost h n bs) (l : n ≤ m) : ReadAtMost h m bs := fun b hb => let ⟨d, as, q, z⟩ := r b hb; ⟨d, as, q, Nat.le_trans z l⟩
theorem SK.all {K : Frag} {H : Hp} {X : Cx} {pins : List (Addr × Obj)} {σ : St} {s : Shared} (e : X.K = K) (I : Inv X pins σ H s) : ∀ {vs : List V} {ds : List PyData} {us : List Value}, Paired (SK K H) vs ds → Vals vs us →
    ∃ (bs as : List Addr), ReadsAll s.heap us ds as ∧ ReadAtMost s.heap (PyData.depthAll ds) bs ∧ ReprAllK X.prog X.w bs s.heap (PyData.depthAll ds) us (PyData.shownAll ds)
  | _, _, _, .nil, .nil => ⟨[], [], ReadsAll.nil, (fun _ hb => by cases hb), ReprAllK.nil⟩
  | _, _, _, @Paired.cons _ _ _ _ d _ ds f t, .cons r t2 => by
    obtain ⟨b1, a1, h1, h2, h3⟩ := f X pins σ s _ e I r
    obtain ⟨b2, a2, q1, q2, q3⟩ := SK.all e I t t2
    have l1 : d.depth ≤ PyData.depthAll (d :: ds) := by simp only [PyData.depthAll]; omega
    have l2 : PyData.depthAll ds ≤ PyData.depthAll (d :: ds) := by simp only [PyData.depthAll]; omega
    refine ⟨b1 ++ b2, a1 ++ a2, ReadsAll.cons h1 q1, fun b hb => ?_, ?_⟩
    · rcases List.mem_append.mp hb with hb | hb
      · exact readMost_le h2 l1 b hb
      · exact readMost_le q2 l2 b hb
    · exact ReprAllK.cons ((h3.more fun b hb => List.mem_append_left _ hb).level_le l1) (q3.more_le (fun b hb => List.mem_append_right _ hb) l2)
theorem SK.tup {K : Frag} {H : Hp} {a : Addr} {xs : List V} {ds : List PyData} (hx : SqT K H a xs) (h : Paired (SK K H) xs ds) (hz : (tupleText (PyData.shownAll ds)).length ≤ sizeLine) : SK K H (.ref a) (.tuple ds) := fun X pins σ s u e I r => by
  cases r
  subst e
  obtain ⟨its, rv, ⟨o, ho, hc, n, hda⟩, hl⟩ := I.tuple hx
  obtain ⟨bs, as, h1, h2, h3⟩ := SK.all rfl I h rv
  have R := Reads.tuple ho hc hda h1
  have hd : PyData.depth (.tuple ds) = PyData.depthAll ds + 1 := by simp only [PyData.depth]
  have hna : a ∉ bs := not_mem_of_deeper R (by rw [hd]; exact Nat.lt_succ_self _) h2
  refine ⟨a :: bs, as, R, fun b hb => ?_, ?_⟩
  · rcases List.mem_cons.mp hb with rfl | hb
    · exact ⟨_, _, R, Nat.le_refl _⟩
    · exact readMost_le h2 (by rw [hd]; exact Nat.le_succ _) b hb
  · rw [hd]
    simp only [PyData.shown]
    exact ReprK.tuple ho hc hda hna h3
/-- repr(xs), each item as said -/
def rReprS (K : Frag) : List V → Hp → VK → Prop := fun xs H Q => ∃ (a : Addr) (vs : List V) (ds : List PyData), xs = [.ref a] ∧ SqL K H a vs ∧ Paired (SK K H) vs ds ∧ (listText (PyData.shownAll ds)).length ≤ sizeLine ∧ PyData.depthAll ds ≤ 20 ∧ Q (.str (PyData.shown (.list ds))) H
theorem call_reprS {X : Cx} (hg : X.A.guards = some []) (hu : X.A.units + 64 < cLine) : CallR X (.builtin "repr") (rReprS X.K) := by
  intro pins s σ H xs us Q I r h
  obtain ⟨a, vs, ds, rfl, hl, hd, hz', hp, q⟩ := h
  obtain rfl := Vals.ref1 r
  obtain ⟨its, rv, ⟨o, n, ho, hc, hdn, hda⟩, hz⟩ := I.list hl
  obtain ⟨bs, as, h4, hbs, hk⟩ := SK.all rfl I hd rv
  have hna : a ∉ bs := not_mem_of_deeper (.list ho hc hda h4) (by simp only [PyData.depth]; omega) hbs
  simp only [PyData.shown] at q
  refine call_repr_slot (by omega) ⟨o, ho, hc⟩ F.slot_list_repr.toG ?_
  cases its with
  | nil =>
    cases h4
    simp only [PyData.shownAll, listText_nil] at q
    refine call_list_repr_empty (s := s) ⟨o, ho, hc⟩ ho hda ?_
    exact ⟨_, _, rfl, .str "[]", H, I.tok _, ⟨_, rfl⟩, q⟩
  | cons x l =>
    refine call_list_reprK ho hc hda hna (by simpa using hk.length_eq) (fun i y e => hk.item i y (by simpa using e)) hg (fun b _ => Clear.nil b) (by show X.A.units + 1 + _ < cLine; omega) (fun _ _ e => e) (fun h' u tk k => ?_) hz'
    exact ⟨_, _, rfl, .str (listText (PyData.shownAll ds)), H, I.kept k, ⟨u, rfl⟩, q⟩
end L2.TT

namespace TR
open PySem PySem.Spec PyProof.Rows L2 L2.TT StX ClX LamX
/-- all but the draws and the tables stay -/
def Kp (dr : Addr) (H H' : Hp) : Prop := ∀ b o, H b = some o → b ≠ dr → (∀ ps, o ≠ .tbl ps) → H' b = some o
theorem Kp.refl (dr : Addr) (H : Hp) : Kp dr H H := fun _ _ e _ _ => e
theorem Kp.trans {dr : Addr} {H H1 H2 : Hp} (a : Kp dr H H1) (b : Kp dr H1 H2) : Kp dr H H2 := fun c o e n t => b c o (a c o e n t) n t
theorem Kp.sm {dr : Addr} {H H' : Hp} (s : Same H H') : Kp dr H H' := fun b o e _ _ => s b o e
theorem Kp.fr {dr : Addr} {H H' : Hp} (s : Fr dr H H') : Kp dr H H' := fun b o e n _ => s b o e n
theorem Kp.ex {dr : Addr} {H H' : Hp} (s : LamX.ExtN H H') : Kp dr H H' := fun b o e _ t => s b o e t
/-- an odd value: what is said of it holds from H on -/
structure OddV (K : PySem.W.Frag) (dr : Addr) (H : Hp) (v : V) (d : PyData) : Prop where
  is : ∀ H', Kp dr H H' → (Dp K H' v d ∧ d.canLay0 = true) ∨ FD H' v d
  sh : d.showable = true
  lv : d.leavesShort 60 = true
  wt : d.weight ≤ 200
  dp : d.depth ≤ 10
theorem OddV.keep {K : PySem.W.Frag} {dr : Addr} {H H' : Hp} {v : V} {d : PyData} (o : OddV K dr H v d) (k : Kp dr H H') : OddV K dr H' v d := ⟨fun H2 k2 => o.is H2 (k.trans k2), o.sh, o.lv, o.wt, o.dp⟩
theorem leaf_int {i : Int} (h : i.natAbs < 10 ^ 41) : (PyData.int i).leavesShort 60 = true := by
  simp only [PyData.leavesShort, decide_eq_true_eq]
  have e : (toString i).length ≤ 42 := int_text_length_le10 (k := 41) (by decide) h
  show (Str.ofString (toString i)).length ≤ 60
  rw [PySem.ofString_length]
  omega
theorem log_40 {i : Int} (h : i.natAbs < 10 ^ 41) : i.natAbs.log2 < 137 := by
  by_cases h0 : i.natAbs = 0
  · rw [h0]; decide
  · refine (Nat.log2_lt h0).mpr ?_
    have : (10 : Nat) ^ 41 < 2 ^ 137 := by decide
    omega
theorem OddV.int {K : PySem.W.Frag} {dr : Addr} {H : Hp} {i : Int} (h : i.natAbs < 10 ^ 41) : OddV K dr H (.int i) (.int i) := by
  have hl := log_40 h
  refine ⟨fun _ _ => .inl ⟨.int i, rfl⟩, ?_, leaf_int h, ?_, ?_⟩
  · simp only [PyData.showable, decide_eq_true_eq]
    omega
  · simp only [PyData.weight]
    split <;> omega
  · simp only [PyData.depth]
    omega
theorem inR_big {i : Int} {n : Nat} (h : (n : Int) < i ∨ i < 0) : inR (.int i) 0 (n : Int) = false := by
  show (decide ((0 : Int) ≤ i) && decide (i ≤ (n : Int))) = false
  rcases h with h | h
  · rw [show decide (i ≤ (n : Int)) = false from decide_eq_false (by omega), Bool.and_false]
  · rw [show decide ((0 : Int) ≤ i) = false from decide_eq_false (by omega), Bool.false_and]
/-- data of a size that may be shown -/
structure Fine (d : PyData) : Prop where
  lv : d.leavesShort 60 = true
  wt : d.weight ≤ 300
  dp : d.depth ≤ 12
theorem fit_of {d : PyData} (h : d.leavesShort 60 = true) (hw : d.weight ≤ 20000) : d.shown.length ≤ sizeLine := by
  have q := PyData.shown_le 60 (by decide) d h
  rw [sizeLine_eq]
  omega
theorem fine_all : ∀ {ds : List PyData}, (∀ d ∈ ds, Fine d) → PyData.leavesShortAll 60 ds = true ∧ PyData.weightAll ds ≤ 301 * ds.length ∧ PyData.depthAll ds ≤ 12
  | [], _ => ⟨by simp [PyData.leavesShortAll], by simp [PyData.weightAll], by simp [PyData.depthAll]⟩
  | d :: ds, h => by
    obtain ⟨h1, h2, h3⟩ := fine_all (ds := ds) fun x hx => h x (List.mem_cons_of_mem _ hx)
    have hd := h d (by simp)
    refine ⟨?_, ?_, ?_⟩
    · simp only [PyData.leavesShortAll, hd.lv, h1, Bool.and_self]
    · have := hd.wt
      simp only [PyData.weightAll, List.length_cons]
      omega
    · have := hd.dp
      simp only [PyData.depthAll]
      omega
theorem fit_list {ds : List PyData} (h : ∀ d ∈ ds, Fine d) (hl : ds.length ≤ 60) : (listText (PyData.shownAll ds)).length ≤ sizeLine ∧ PyData.depthAll ds ≤ 20 := by
  obtain ⟨h1, h2, h3⟩ := fine_all h
  have q := fit_of (d := .list ds) (by simpa only [PyData.leavesShort] using h1) (by simp only [PyData.weight]; omega)
  exact ⟨by simpa only [PyData.shown] using q, by omega⟩
/-- a word -/
structure Word (x : Str) : Prop where
  ok : (PyData.str x).canLay0 = true
  lv : (PyData.str x).leavesShort 60 = true
  wt : (PyData.str x).weight ≤ 20
theorem Word.sk {K : PySem.W.Frag} {H : Hp} {x : Str} (w : Word x) : SK K H (.str x) (.str x) := SK.dp (.str x) w.ok rfl (fit_of w.lv (by have := w.wt; omega))
/-- what is shown behind a word -/
structure Small (d : PyData) : Prop where
  lv : d.leavesShort 60 = true
  wt : d.weight ≤ 200
  dp : d.depth ≤ 10
theorem Small.pair {x : Str} {d : PyData} (w : Word x) (s : Small d) : Fine (.tuple [.str x, d]) := by
  have h1 := w.lv
  have h2 := w.wt
  have h3 := s.lv
  have h4 := s.wt
  have h5 := s.dp
  refine ⟨?_, ?_, ?_⟩
  · show (PyData.leavesShort 60 (.str x) && (PyData.leavesShort 60 d && true)) = true
    rw [h1, h3]
    rfl
  · show PyData.weight (.str x) + 1 + (PyData.weight d + 1 + 0) ≤ 300
    omega
  · show max (PyData.depth (.str x)) (max (PyData.depth d) 0) + 1 ≤ 12
    have : PyData.depth (.str x) = 0 := rfl
    omega
theorem pair_sk {K : PySem.W.Frag} {H : Hp} {p : Addr} {x : Str} {v : V} {d : PyData} (w : Word x) (s : Small d) (hp : H p = some (.tup [.str x, v])) (h : SK K H v d) : SK K H (.ref p) (.tuple [.str x, d]) := by
  have f := s.pair w
  refine SK.tup (SqT.of hp) (.cons w.sk (.cons h .nil)) ?_
  have q := fit_of f.lv (by have := f.wt; omega)
  simpa only [PyData.shown] using q
theorem OddV.sk {K : PySem.W.Frag} {dr : Addr} {H H' : Hp} {v : V} {d : PyData} (o : OddV K dr H v d) (e : ExtN H H') : SK K H' v d := by
  have f := fit_of o.lv (by have := o.wt; omega)
  rcases o.is H' (Kp.ex e) with ⟨h, c⟩ | h
  · exact SK.dp h c o.sh f
  · exact SK.fd h o.sh f
theorem OddV.small {K : PySem.W.Frag} {dr : Addr} {H : Hp} {v : V} {d : PyData} (o : OddV K dr H v d) : Small d := ⟨o.lv, o.wt, o.dp⟩
theorem pair_imp {α β : Type} {R R' : α → β → Prop} : ∀ {l : List α} {m : List β}, Paired R l m → (∀ a b, R a b → R' a b) → Paired R' l m
  | _, _, .nil, _ => .nil
  | _, _, .cons h t, f => .cons (f _ _ h) (pair_imp t f)
theorem pair_app {α β : Type} {R : α → β → Prop} : ∀ {l l2 : List α} {m m2 : List β}, Paired R l m → Paired R l2 m2 → Paired R (l ++ l2) (m ++ m2)
  | _, _, _, _, .nil, h => h
  | _, _, _, _, .cons h t, h2 => .cons h (pair_app t h2)
theorem pair_map {α β γ δ : Type} {R : γ → δ → Prop} {f : α → γ} {g : β → δ} : ∀ {l : List α} {m : List β}, Paired (fun a b => R (f a) (g b)) l m → Paired R (l.map f) (m.map g)
  | _, _, .nil => .nil
  | _, _, .cons h t => .cons h (pair_map t)
theorem tabs_put {T : List (Addr × Str)} {H : Hp} {tl : Addr} {xs ys : List V} (t : Tabs T H) (hl : H tl = some (.lst xs)) : Tabs T (upd H tl (.lst ys)) := fun p hp => by
  obtain ⟨ps, h1, h2, h3⟩ := t p hp
  refine ⟨ps, by rw [upd_ne (ne_of h1 hl (by intro z; cases z))]; exact h1, h2, fun pos cv hc => ?_⟩
  obtain ⟨c, e1, e2⟩ := h3 pos cv hc
  exact ⟨c, e1, by rw [upd_ne (ne_of e2 hl (by intro z; unfold CodeO at z; cases z))]; exact e2⟩
theorem extN_put {H0 H : Hp} {tl : Addr} {o : HO} (e : ExtN H0 H) (n : H0 tl = none) : ExtN H0 (upd H tl o) := fun b u h t => by
  rw [upd_ne (ne_of_none h n)]
  exact e b u h t
/-- one that is told: a word, or a word and a value -/
def TIt (K : PySem.W.Frag) (H0 H : Hp) (x : V) (D : PyData) : Prop := (∃ w : Str, x = .str w ∧ D = .str w ∧ Word w ∧ (PyData.str w).depth ≤ 12) ∨
  ∃ (p : Addr) (w : Str) (v : V) (e : PyData), x = .ref p ∧ D = .tuple [.str w, e] ∧ Word w ∧ Small e ∧ H p = some (.tup [.str w, v]) ∧ ∀ H', ExtN H0 H' → SK K H' v e
theorem TIt.sk {K : PySem.W.Frag} {H0 H : Hp} {x : V} {D : PyData} (t : TIt K H0 H x D) (e : ExtN H0 H) : SK K H x D := by
  rcases t with ⟨w, rfl, rfl, hw, _⟩ | ⟨p, w, v, d, rfl, rfl, hw, sm, hp, hs⟩
  · exact hw.sk
  · exact pair_sk hw sm hp (hs H e)
theorem TIt.fine {K : PySem.W.Frag} {H0 H : Hp} {x : V} {D : PyData} (t : TIt K H0 H x D) : Fine D := by
  rcases t with ⟨w, rfl, rfl, hw, hd⟩ | ⟨p, w, v, d, rfl, rfl, hw, sm, hp, hs⟩
  · exact ⟨hw.lv, by have := hw.wt; omega, hd⟩
  · exact sm.pair hw
theorem TIt.mv {K : PySem.W.Frag} {H0 H H' : Hp} {x : V} {D : PyData} {tl : Addr} {xs : List V} (t : TIt K H0 H x D) (hl : H tl = some (.lst xs)) (k : Kp tl H H') : TIt K H0 H' x D := by
  rcases t with h | ⟨p, w, v, d, h1, h2, hw, sm, hp, hs⟩
  · exact .inl h
  · exact .inr ⟨p, w, v, d, h1, h2, hw, sm, k _ _ hp (ne_of hp hl (by intro z; cases z)) (fun _ z => by cases z), hs⟩
theorem TIt.ext {K : PySem.W.Frag} {H0 H H' : Hp} {x : V} {D : PyData} (t : TIt K H0 H x D) (k : ExtN H H') : TIt K H0 H' x D := by
  rcases t with h | ⟨p, w, v, d, h1, h2, hw, sm, hp, hs⟩
  · exact .inl h
  · exact .inr ⟨p, w, v, d, h1, h2, hw, sm, k _ _ hp (fun _ z => by cases z), hs⟩
/-- what was told so far -/
structure Tol (K : PySem.W.Frag) (T : List (Addr × Str)) (H0 H : Hp) (tl : Addr) (xs : List V) (ds : List PyData) : Prop where
  ext : ExtN H0 H
  tabs : Tabs T H
  nw : H0 tl = none
  tl : H tl = some (.lst xs)
  it : Paired (TIt K H0 H) xs ds
theorem Tol.mv {K : PySem.W.Frag} {T : List (Addr × Str)} {H0 H H' : Hp} {tl : Addr} {xs : List V} {ds : List PyData} (t : Tol K T H0 H tl xs ds) (e : ExtN H H') (h : Tabs T H') : Tol K T H0 H' tl xs ds :=
  ⟨t.ext.trans e, h, t.nw, e _ _ t.tl (fun _ z => by cases z), pair_imp t.it fun a b q => q.ext e⟩
theorem Tol.add {K : PySem.W.Frag} {T : List (Addr × Str)} {H0 H : Hp} {tl : Addr} {xs : List V} {ds : List PyData} (t : Tol K T H0 H tl xs ds) {x : V} {D : PyData} (im : TIt K H0 H x D) : Tol K T H0 (upd H tl (.lst (xs ++ [x]))) tl (xs ++ [x]) (ds ++ [D]) := by
  have k : Kp tl H (upd H tl (.lst (xs ++ [x]))) := fun b o e n _ => by rw [upd_ne n]; exact e
  exact ⟨extN_put t.ext t.nw, tabs_put t.tabs t.tl, t.nw, upd_same, pair_app (pair_imp t.it fun a b z => z.mv t.tl k) (.cons (im.mv t.tl k) .nil)⟩
theorem Tol.start {K : PySem.W.Frag} {T : List (Addr × Str)} {H : Hp} {tl : Addr} {x : V} {D : PyData} (n : H tl = none) (h : Tabs T H) (im : TIt K H H x D) : Tol K T H (upd H tl (.lst [x])) tl [x] [D] := by
  have s := same_upd n (.lst [x])
  exact ⟨ExtN.of s, h.ext s, n, upd_same, .cons (im.ext (ExtN.of s)) .nil⟩
theorem fine_of {K : PySem.W.Frag} {H0 H : Hp} : ∀ {xs : List V} {ds : List PyData}, Paired (TIt K H0 H) xs ds → ∀ d ∈ ds, Fine d
  | _, _, .nil, d, hd => by cases hd
  | _, _, .cons h t, d, hd => by
    rcases List.mem_cons.mp hd with rfl | hd
    · exact h.fine
    · exact fine_of t d hd
theorem Tol.repr {K : PySem.W.Frag} {T : List (Addr × Str)} {H0 H : Hp} {tl : Addr} {xs : List V} {ds : List PyData} {Q : VK} (t : Tol K T H0 H tl xs ds) (hl : ds.length ≤ 60) (k : Q (.str (PyData.shown (.list ds))) H) : rReprS K [.ref tl] H Q := by
  obtain ⟨f1, f2⟩ := fit_list (fine_of t.it) hl
  exact ⟨tl, xs, ds, rfl, SqL.of t.tl, pair_imp t.it fun a b q => q.sk t.ext, f1, f2, k⟩
/-- a list of told items -/
theorem due_repr {K : PySem.W.Frag} {H0 H : Hp} {p : Addr} {xs : List V} {ds : List PyData} {Q : VK} (e : ExtN H0 H) (hp : H p = some (.lst xs)) (it : Paired (TIt K H0 H) xs ds) (hl : ds.length ≤ 60) (k : Q (.str (PyData.shown (.list ds))) H) : rReprS K [.ref p] H Q := by
  obtain ⟨f1, f2⟩ := fit_list (fine_of it) hl
  exact ⟨p, xs, ds, rfl, SqL.of hp, pair_imp it fun a b q => q.sk e, f1, f2, k⟩
end TR

namespace TR
open PySem PySem.Spec PyProof.Rows L2 L2.TT StX ClX
def spIsStd (C : Addr) (K : PySem.W.Frag) : Sp := fun vs H Q _ => ∃ (r : Addr) (tr : List E2) (v : V) (o : Option (V × V)), vs = [.ref r, v] ∧ RailAt C H r tr ∧ PV K H v o ∧ Q (.bl (isPr o ((tr.length : Int) + 1))) H
def spChkStd (C : Addr) : Sp := fun vs H Q _ => ∃ (r t : Addr) (tr : List E2) (a b : Nat), vs = [.ref r, .ref t] ∧ RailAt C H r tr ∧ H t = some (.tup [iv a, iv b]) ∧ a ≤ tr.length ∧ b ≤ tr.length ∧ a ≠ b ∧ Q .non H
def spBody (C : Addr) : Sp := fun vs H Q _ => ∃ (r t : Addr) (tr : List E2) (a b : Nat), vs = [.ref r, .ref t] ∧ RailAt C H r tr ∧ H t = some (.tup [iv a, iv b]) ∧ a ≤ tr.length ∧ b ≤ tr.length ∧ a ≠ b ∧
  ∀ (l : List Nat) (p : Addr) (H' : Hp), SW tr a b l → Same H H' → H p = none → H' p = some (.tup (l.map iv)) → Q (.ref p) H'
section
variable {P : Program} {w : World} {K : PySem.W.Frag} {mg : Str → Option Value} {base : Heap}
theorem sc_isstd : FnScope ["railway", "value"] ["railway", "value"] (defScope s_is_standing) := ⟨rfl, rfl, rfl, by decide +kernel, rfl, by decide +kernel, by decide +kernel⟩
theorem ok_isstd {f fI C p g : Addr} {fd fdI fdS : FuncData} (F : Fun K "is_standing" "is_standing" s_is_standing f fd) (U : Use P w K mg base CX0 3 "is_pair_of_stations" fI fdI ["value", "size"] (spPair K)) (Z : SizeOf P w K mg base C p g fdS) : FnOk P w K mg base CX0 4 f fd ["railway", "value"] (spIsStd C K) := by
  refine F.ok sc_isstd (fun vs H Q E h => ?_) (fun cdv A outer s H vs Q E hr h => ?_)
  · obtain ⟨r, tr, v, o, rfl, _⟩ := h
    rfl
  · obtain ⟨r, tr, v, o, rfl, R, hv, k⟩ := h
    refine ⟨_, pss_one (ps_ret (pe_use U hr rfl (pa_cons (pv 1) (pa_cons (pe_prop (pv 0) Z.cl Z.hp Z.G (hr.mono (by decide)) Z.b .nil pass0 rfl) pa_nil)))), ?_⟩
    obtain ⟨T, few, dx, tt, na, Aa, L, ps, ts, h1, h2⟩ := id R
    exact ⟨_, rfl, _, rfl, r, dx, _, rfl, h1, r, tr, rfl, R, v, _, o, rfl, hv, k⟩
theorem sc_chkstd : FnScope ["railway", "standing"] ["railway", "standing"] (defScope s_check_standing) := ⟨rfl, rfl, rfl, by decide +kernel, rfl, by decide +kernel, by decide +kernel⟩
theorem ok_chkstd {f fI C : Addr} {fd fdI : FuncData} (F : Fun K "check_standing" "check_standing" s_check_standing f fd) (U : Use P w K mg base CX0 4 "is_standing" fI fdI ["railway", "value"] (spIsStd C K)) : FnOk P w K mg base CX0 5 f fd ["railway", "standing"] (spChkStd C) := by
  refine F.ok sc_chkstd (fun vs H Q E h => ?_) (fun cdv A outer s H vs Q E hr h => ?_)
  · obtain ⟨r, t, tr, a, b, rfl, _⟩ := h
    rfl
  · obtain ⟨r, t, tr, a, b, rfl, R, ht, ha, hb, ne, k⟩ := h
    refine ⟨_, pss_one (ps_if (pt_not (pt_val (pe_use U hr rfl (pa_cons (pv 0) (pa_cons (pv 1) pa_nil))))) pss_never pss_nil), ?_⟩
    refine ⟨_, rfl, _, rfl, r, tr, _, _, rfl, R, .two ht (.inl ⟨_, rfl⟩) (.inl ⟨_, rfl⟩), _, rfl, ?_⟩
    rw [show isPr (some (iv a, iv b)) ((tr.length : Int) + 1) = true from isPr_ok (n := tr.length + 1) (by omega) (by omega) ne]
    exact iteF k
abbrev NSt : List Str := ["railway", "standing", "head", "tail"]
theorem sc_body : FnScope NSt ["railway", "standing"] (defScope s_body_of) := ⟨rfl, rfl, rfl, by decide +kernel, rfl, by decide +kernel, by decide +kernel⟩
theorem ok_body {f fI fp C : Addr} {fd fdI fdp : FuncData} (F : Fun K "body_of" "body_of" s_body_of f fd) (X : TxtR K mg C) (U : Use P w K mg base CX0 5 "check_standing" fI fdI ["railway", "standing"] (spChkStd C)) (m : Meth K C "path" fp) (G : FnOk P w K mg base CX0 5 fp fdp ["self", "one", "other"] (spPath C)) (bp : Binds K fdp ["self", "one", "other"] []) :
    FnOk P w K mg base CX0 6 f fd ["railway", "standing"] (spBody C) := by
  refine F.ok sc_body (fun vs H Q E h => ?_) (fun cdv A outer s H vs Q E hr h => ?_)
  · obtain ⟨r, t, tr, a, b, rfl, _⟩ := h
    rfl
  · obtain ⟨r, t, tr, a, b, rfl, R, ht, ha, hb, ne, k⟩ := h
    refine ⟨_, pss_cons (ps_expr (pe_use U hr rfl (pa_cons (pv 0) (pa_cons (pv 1) pa_nil))))
      (pss_cons (ps_asg (pv 1) (pg_tup rfl (pgs_cons (pg_name (i := 2) sc_body.nd rfl (.inl rfl)) (pgs_cons (pg_name (i := 3) sc_body.nd rfl (.inl rfl)) pgs_nil))))
      (pss_one (ps_ret (pe_meth (pv 0) X.cl m G hr bp .nil pass0 (pa_cons (pv 2) (pa_cons (pv 3) pa_nil)))))), ?_⟩
    obtain ⟨T, few, dx, tt, na, Aa, L, ps, ts, h1, h2⟩ := id R
    refine ⟨_, rfl, _, rfl, r, t, tr, a, b, rfl, R, ht, ha, hb, ne, ?_⟩
    refine ⟨_, rfl, t, _, rfl, SqT.of ht, rfl, ?_⟩
    refine ⟨_, _, rfl, _, _, rfl, rfl, ?_⟩
    exact ⟨_, rfl, r, dx, _, rfl, h1, flR_no (by decide +kernel) (by decide +kernel) (by decide +kernel) (by decide +kernel), _, rfl, _, rfl, r, tr, a, b, rfl, R, ha, hb, k⟩
end
end TR

namespace L2.TT
open PySem PySem.Spec PyProof.Rows HT
section
variable {prog : Program} {w : World} {A : Around} {E : Value → Shared → Prop} {s : Shared}
theorem adjust_rev (n : Nat) : Builtin.Slice.sliceAdjust none none (-1) (n : Int) = ((n : Int) - 1, -1) := by
  unfold Builtin.Slice.sliceAdjust
  have h1 : ((-1 : Int) < 0) := by decide
  simp only [h1, if_true]
theorem places_rev (n : Nat) : Builtin.Slice.slicePlaces ((n : Int) - 1) (-1) (-1) = n := by
  unfold Builtin.Slice.slicePlaces
  have h1 : ¬ ((-1 : Int) > 0) := by decide
  have e : ((n : Int) - 1 - -1 - 1) / (- -1) = (n : Int) - 1 := by
    rw [show (- -1 : Int) = 1 by decide, Int.ediv_one]
    omega
  simp only [h1, if_false, e]
  split <;> omega
theorem applied_rev {sl : Addr} {vl vu vs : Value} {n : Nat} {Q : Int × Int × Nat → Shared → Prop} (hs : s.heap.IsSliceOf sl vl vu vs) (pl : IsPart vl none) (pu : IsPart vu none) (ps : IsPart vs (some (-1)))
    (h : Q ((n : Int) - 1, -1, n) s) : wpAny (model prog w) A (Builtin.Slice.sliceApplied (.ref sl) (pure (n : Int))) Q E s := by
  obtain ⟨os, hos, hcs, hds⟩ := id hs
  unfold Builtin.Slice.sliceApplied Builtin.Slice.sliceFields
  refine wpAny_bind (wpAny_bind (wpAny_field hos hds (x := vl) rfl (wpAny_bind (wpAny_field hos hds (x := vu) rfl (wpAny_bind (wpAny_field hos hds (x := vs) rfl (wpAny_pure ?_)))))))
  refine wpAny_bind (slicePart_ ps ?_)
  show wpAny _ _ (if ((-1 : Int) == 0) = true then _ else _) _ _ s
  rw [if_neg (by decide)]
  refine wpAny_bind (slicePart_ pl (wpAny_bind (slicePart_ pu (wpAny_bind (wpAny_pure ?_)))))
  show wpAny _ _ (match Builtin.Slice.sliceAdjust none none (-1) (n : Int) with | (lo, hi) => pure (lo, (-1 : Int), Builtin.Slice.slicePlaces lo hi (-1))) _ _ s
  rw [adjust_rev n]
  show wpAny _ _ (pure ((n : Int) - 1, (-1 : Int), Builtin.Slice.slicePlaces ((n : Int) - 1) (-1) (-1))) _ _ s
  rw [places_rev]
  exact wpAny_pure h
theorem fm_congr {α β : Type} {f g : α → Option β} : ∀ {l : List α}, (∀ x ∈ l, f x = g x) → l.filterMap f = l.filterMap g
  | [], _ => rfl
  | a :: l, h => by
    have ih := fm_congr (l := l) fun x hx => h x (List.mem_cons_of_mem _ hx)
    have ha := h a (by simp)
    cases e : g a with
    | none => rw [List.filterMap_cons_none (ha.trans e), List.filterMap_cons_none e, ih]
    | some b => rw [List.filterMap_cons_some (ha.trans e), List.filterMap_cons_some e, ih]
theorem pick_rev (xs : Array Value) : ((List.range xs.size).filterMap fun (m : Nat) => xs[(((xs.size : Nat) : Int) - 1 + (m : Int) * -1).toNat]?).toArray = xs.toList.reverse.toArray := by
  have e : (List.range xs.size).filterMap (fun (m : Nat) => xs[(((xs.size : Nat) : Int) - 1 + (m : Int) * -1).toNat]?) = ((List.range xs.size).map fun k => xs.size - 1 - k).filterMap (xs[·]?) := by
    rw [List.filterMap_map]
    apply fm_congr
    intro m hm
    have := List.mem_range.mp hm
    have e2 : (((xs.size : Nat) : Int) - 1 + (m : Int) * -1).toNat = xs.size - 1 - m := by omega
    rw [e2]
    rfl
  rw [e, PySem.W.krv_range, List.filterMap_reverse, PySem.W.krv_all]
theorem getItem_tuple_rev {t sl : Addr} {items : Array Value} {vl vu vs : Value} {Q : Value → Shared → Prop} (ht : IsTup s.heap t items) (hs : s.heap.IsSliceOf sl vl vu vs) (pl : IsPart vl none) (pu : IsPart vu none) (ps : IsPart vs (some (-1)))
    (h : Q (.ref s.heap.objs.size) { s with heap := s.heap.push { cls := .type "tuple", data := .seq items.toList.reverse.toArray } })
    (hsz : items.size ≤ sizeLine) : wpAny (model prog w) A (getItem (.ref t) (.ref sl)) Q E s := by
  have htake : sizeOk (.seq items.toList.reverse.toArray) := by
    show items.toList.reverse.toArray.size ≤ sizeLine
    rw [List.size_toArray, List.length_reverse, Array.length_toList]
    exact hsz
  obtain ⟨os, hos, hcs, hds⟩ := id hs
  have hTs : s.TypeIs (.ref sl) "slice" := ⟨os, hos, hcs⟩
  unfold getItem
  try with_reducible refine wpAny_holding ?_
  first | refine wpAny_bind (wpAny_pure ?_) | skip
  refine wpAny_bind (wpAny_sequenceKey ht.typeIs (by decide) ?_)
  refine wpAny_bind (wpAny_callSpecial?_slot (name := Str.ofString "__getitem__") ht.typeIs PyProof.Rows.slot_tuple_getitem
    (wpAny_call_entry PyProof.Rows.slot_tuple_getitem ht.typeIs entry_tuple_getitem ?_ (args_tuple_getitem _ _)))
  show wpAny _ _ (Builtin.Tuple.tupleItemsOf (.ref t) >>= _) _ _ s
  refine wpAny_bind (tupleItemsOf_ ht ?_)
  refine wpAny_bind (wpAny_typeOf hTs ?_)
  rw [if_pos (by decide)]
  refine wpAny_bind (applied_rev hs pl pu ps ?_)
  have hno : ¬ ((((items.size : Nat) : Int) - 1 == 0 && (-1 : Int) == 1 && items.size == items.size) = true) := by
    intro q
    rw [Bool.and_eq_true, Bool.and_eq_true] at q
    exact absurd q.1.2 (by decide)
  show wpAny _ _ (if (((items.size : Nat) : Int) - 1 == 0 && (-1 : Int) == 1 && items.size == items.size) = true then _ else _) _ _ s
  rw [if_neg hno, pick_rev]
  first
    | exact wpAny_bind (m := Builtin.Tuple.tupleExact _) (wpAny_newObj_type (wpAny_pure ⟨_, rfl, wpAny_pure h⟩) htake)
    | exact wpAny_bind (m := Builtin.Tuple.tupleExact _) (wpAny_newObj_type (wpAny_bind (wpAny_pure (wpAny_pure ⟨_, rfl, wpAny_pure h⟩))) htake)
    | exact wpAny_bind (wpAny_bind (m := Builtin.Tuple.tupleExact _) (wpAny_newObj_type (wpAny_pure (wpAny_pure ⟨_, rfl, wpAny_pure h⟩)) htake))
    | exact wpAny_bind (wpAny_bind (m := Builtin.Tuple.tupleExact _) (wpAny_newObj_type (wpAny_pure ⟨_, rfl, wpAny_pure h⟩) htake))
end
section
variable {X : Cx}
/-- t[::-1] -/
def tRevT (K : PySem.W.Frag) (te : TE) : TE := fun σ H Q => te σ H fun x H1 => ∃ a xs, x = .ref a ∧ SqT K H1 a xs ∧ ∀ p, H1 p = none → Q (.ref p) (upd H1 p (.tup xs.reverse))
theorem pe_revT {e : Expr} {te : TE} {k : Nat} {p1 p2 p3 pos : Pos} (he : PE X e te) : PE X (.Subscript e (.Slice none none (some (.UnaryOp .USub (.Constant (.int 1) k p1) p2)) p3) pos) (tRevT X.K te) := by
  refine ⟨fun pins s σ H Q I h => ?_⟩
  refine Subscript_ (thn (he.run pins s σ H _ I h) fun v s1 ⟨x, H1, I1, r1, q1⟩ => ?_)
  obtain ⟨a, xs, ex, hx, q⟩ := q1
  subst ex
  cases r1
  have hst : PO X (some (.UnaryOp .USub (.Constant (.int 1) k p1) p2)) (tPart (tUn (rU fun i => .int (-i)) (tC (.int 1)))) := po_some (pe_un un_neg pe_int)
  refine wpAny_Slice (thn (po_none.run pins s1 σ H1 (fun o H2 => o = none ∧ H2 = H1) I1 ⟨rfl, rfl⟩) fun vl s2 ⟨l, H2, I2, pl, el, e2⟩ => ?_)
  subst el e2
  refine thn (po_none.run pins s2 σ H2 (fun o H3 => o = none ∧ H3 = H2) I2 ⟨rfl, rfl⟩) fun vu s3 ⟨u, H3, I3, pu, eu, e3⟩ => ?_
  subst eu e3
  refine thn (hst.run pins s3 σ H3 (fun o H4 => o = some (-1) ∧ H4 = H3) I3 ⟨1, rfl, -1, rfl, rfl, rfl⟩) fun vs s4 ⟨o, H4, I4, ps, eo, e4⟩ => ?_
  subst eo e4
  have I5 : Inv X pins σ H4 { s4 with heap := s4.heap.push { cls := .type "slice", data := .fields #[vl, vu, vs] } } := I4.kept (t' := s4.toks) fun b ob q => Heap.get?_push_of_some _ q
  obtain ⟨its, r, ht, hz⟩ := I5.tuple hx
  have hlen := r.length
  show wpAny (model X.prog X.w) X.A (subscriptTail e (.Slice none none (some (.UnaryOp .USub (.Constant (.int 1) k p1) p2)) p3) (.ref a) (.ref s4.heap.objs.size)) (EP X pins σ Q) X.xe { s4 with heap := s4.heap.push { cls := .type "slice", data := .fields #[vl, vu, vs] } }
  refine tail_any (ops := [.ref a, .ref s4.heap.objs.size]) ht.typeIs PyProof.Rows.slot_tuple_getitem.lookup ?_ (by with_unfolding_all rfl)
  refine getItem_tuple_rev ht (Heap.IsSliceOf.new _ vl vu vs) pl pu ps ?_ (by rw [List.size_toArray]; omega)
  refine ⟨.ref _, _, I5.laid (t' := s4.toks) (o := .tup xs.reverse) (fun b ob q => Heap.get?_push_of_some _ q) (Nat.le_refl _) ?_, rfl, q _ (I5.hok.fresh (Nat.le_refl _))⟩
  exact ⟨by rw [List.length_reverse]; exact hz, _, r.reverse, IsTup.new _ _⟩
end
end L2.TT

namespace TR
open PySem PySem.Spec PyProof.Rows L2 L2.TT StX ClX
abbrev di (n : Nat) : PyData := .int (n : Int)
theorem dpAll_ints {K : PySem.W.Frag} {H : Hp} : ∀ (l : List Nat), DpAll K H (l.map iv) (l.map di)
  | [] => .nil
  | _ :: l => .cons (.int _) (dpAll_ints l)
theorem canLay_ints : ∀ (l : List Nat), PyData.canLayAll0 (l.map di) = true
  | [] => rfl
  | a :: l => by
    show (PyData.canLay0 (di a) && PyData.canLayAll0 (l.map di)) = true
    rw [canLay_ints l]
    rfl
theorem depth_ints : ∀ (l : List Nat), PyData.depthAll (l.map di) = 0
  | [] => rfl
  | a :: l => by
    show max (PyData.depth (di a)) (PyData.depthAll (l.map di)) = 0
    rw [depth_ints l]
    rfl
theorem shaped_ints (l : List Nat) : SeqAt.shaped (.list (l.map di)) = true := by
  unfold SeqAt.shaped
  rw [Bool.and_eq_true]
  refine ⟨canLay_ints l, decide_eq_true ?_⟩
  show PyData.depthAll (l.map di) + 1 ≤ 64
  rw [depth_ints]
  decide
theorem rg_iv (n : Nat) : rgV 0 (n : Int) = (List.range n).map iv := by
  unfold rgV
  have e : ((n : Int) - 0).toNat = n := by omega
  rw [e]
  refine List.map_congr_left fun i _ => ?_
  show V.int (0 + (i : Int)) = V.int (i : Int)
  rw [Int.zero_add]
theorem RailAt.fr {C dr : Addr} {H H' : Hp} {r : Addr} {tr : List E2} {kvs : List (Key × V)} (R : RailAt C H r tr) (k : Fr dr H H') (hd : H dr = some (.dK kvs)) : RailAt C H' r tr := by
  obtain ⟨T, few, dx, tt, na, A, L, ps, ts, h1, h2, h3, h4, h5, h6, h7, h8⟩ := R
  refine ⟨T, few, dx, tt, na, A, L, ps, ts, k _ _ h1 (ne_of h1 hd (by intro z; cases z)), k _ _ h2 (ne_of h2 hd (by intro z; cases z)), h3.fr k hd, k _ _ h4 (ne_of h4 hd (by intro z; cases z)), h5, fun v t h => k _ _ (h6 v t h) (ne_of (h6 v t h) hd (by intro z; cases z)), k _ _ h7 (ne_of h7 hd (by intro z; cases z)), k _ _ h8 (ne_of h8 hd (by intro z; cases z))⟩
theorem SW.unnorm {tr tr2 : List E2} (n : Norm tr tr2) {a b : Nat} {l : List Nat} (s : SW tr a b l) : SW tr2 a b l := by
  refine ⟨?_, s.nd, s.hd, s.lt⟩
  have : ∀ {l : List Nat}, Wk tr l → Wk tr2 l := by
    intro l
    induction l with
    | nil => exact fun _ => trivial
    | cons a r ih =>
      cases r with
      | nil => exact fun _ => trivial
      | cons b r => exact fun h => ⟨n.adj.mpr h.1, ih h.2⟩
  exact this s.wk
def swp {α : Type} : List α → List α
  | [a, b] => [b, a]
  | l => l
theorem swp_vals {zs : List V} {ws : List Value} (hl : zs.length = 2) (r : Vals zs ws) : Vals (swp zs) (swp ws) := by
  match zs, ws, hl, r with
  | [_, _], [_, _], _, .cons r1 (.cons r2 .nil) => exact .cons r2 (.cons r1 .nil)
theorem SW.rev {tr : List E2} {a b : Nat} {l : List Nat} (s : SW tr a b l) : SW tr b a l.reverse :=
  ⟨s.wk.rev, (List.reverse_perm l).nodup_iff.mpr s.nd, by rw [List.head?_reverse]; exact s.lt, by rw [List.getLast?_reverse]; exact s.hd⟩
theorem eqvAll_ints : ∀ (l : List Nat), PyData.eqvAll (l.map di) (l.map di) = true
  | [] => rfl
  | a :: l => by
    show (PyData.eqv (di a) (di a) && PyData.eqvAll (l.map di) (l.map di)) = true
    rw [eqvAll_ints l, Bool.and_true]
    show ((a : Int) == (a : Int)) = true
    simp
theorem shaped_tup (l : List Nat) : SeqAt.shaped (.tuple (l.map di)) = true := by
  unfold SeqAt.shaped
  rw [Bool.and_eq_true]
  refine ⟨canLay_ints l, decide_eq_true ?_⟩
  show PyData.depthAll (l.map di) + 1 ≤ 64
  rw [depth_ints]
  decide
theorem sw_le {tr : List E2} (T : TreeL tr) {a b : Nat} {l : List Nat} (s : SW tr a b l) (ha : a ≤ tr.length) : ∀ z ∈ l, z ≤ tr.length := by
  have key : ∀ {l : List Nat} {a : Nat}, Wk tr (a :: l) → a ≤ tr.length → ∀ z ∈ a :: l, z ≤ tr.length := by
    intro l
    induction l with
    | nil =>
      intro a _ h z hz
      rw [List.mem_singleton] at hz
      omega
    | cons c r ih =>
      intro a w h z hz
      rcases List.mem_cons.mp hz with rfl | hz
      · exact h
      · refine ih w.2 ?_ z hz
        exact (T.adj_le w.1).2
  cases l with
  | nil => cases s.hd
  | cons c r =>
    have e : c = a := Option.some.inj s.hd
    subst e
    exact key s.wk ha
theorem int_show {i : Int} (h1 : -1000 ≤ i) (h2 : i ≤ 1000) : (PyData.int i).showable = true ∧ (PyData.int i).leavesShort 13 = true ∧ (PyData.int i).weight ≤ 10 ∧ (PyData.int i).depth = 0 := by
  have hn : i.natAbs ≤ 1000 := by omega
  have hl : i.natAbs.log2 < 10 := by
    by_cases h0 : i.natAbs = 0
    · rw [h0]; decide
    · exact (Nat.log2_lt h0).mpr (by omega)
  refine ⟨?_, ?_, ?_, ?_⟩
  · simp only [PyData.showable, decide_eq_true_eq]
    omega
  · simp only [PyData.leavesShort, decide_eq_true_eq]
    exact PyData.shown_int_le (by omega)
  · simp only [PyData.weight]
    split <;> omega
  · simp only [PyData.depth]
structure Shw (l : List Nat) : Prop where
  sh : PyData.showableAll (l.map di) = true
  lv : PyData.leavesShortAll 13 (l.map di) = true
  wt : PyData.weightAll (l.map di) ≤ 11 * l.length
  dp : PyData.depthAll (l.map di) = 0
theorem shw_of : ∀ {l : List Nat}, (∀ z ∈ l, z ≤ 999) → Shw l
  | [], _ => ⟨rfl, rfl, Nat.le_refl _, rfl⟩
  | a :: l, h => by
    have ih := shw_of (l := l) fun z hz => h z (List.mem_cons_of_mem _ hz)
    have ha := h a (by simp)
    obtain ⟨i1, i2, i3, i4⟩ := int_show (i := (a : Int)) (by omega) (by omega)
    refine ⟨?_, ?_, ?_, ?_⟩
    · show (PyData.showable (di a) && PyData.showableAll (l.map di)) = true
      rw [ih.sh, i1]
      rfl
    · show (PyData.leavesShort 13 (di a) && PyData.leavesShortAll 13 (l.map di)) = true
      rw [ih.lv, i2]
      rfl
    · show PyData.weight (di a) + 1 + PyData.weightAll (l.map di) ≤ 11 * (l.length + 1)
      have := ih.wt
      have i3' : PyData.weight (di a) ≤ 10 := i3
      omega
    · show max (PyData.depth (di a)) (PyData.depthAll (l.map di)) = 0
      rw [ih.dp, i4]
      rfl
theorem pickAll {P : V → Prop} {xs : List V} {r : Int} (h0 : 0 ≤ r) (h1 : r < xs.length) (h : ∀ x ∈ xs, P x) : ∃ v, atI xs r = some v ∧ P v := by
  obtain ⟨n, rfl⟩ := Int.eq_ofNat_of_zero_le h0
  have hl : n < xs.length := by omega
  exact ⟨xs[n], atI_nat (List.getElem?_eq_getElem hl), h _ (List.getElem_mem hl)⟩
section
variable {tr : List E2}
theorem sw_climb (T : TreeL tr) {a b : Nat} : ∀ (n x y : Nat) (F B : List Nat), dep tr x + dep tr y = n → Clb tr a b x y F B → ∃ l, SW tr a b l ∧ l.length ≤ F.length + B.length + n + 1 := by
  intro n
  induction n using Nat.strongRecOn with
  | ind n ih =>
    intro x y F B e c
    by_cases h : x = y
    · subst h
      refine ⟨_, c.done, ?_⟩
      simp
      omega
    · by_cases h2 : dep tr y < dep tr x
      · obtain ⟨h3, h4, c2⟩ := c.up1 T h h2
        have d := dep_succ T h3
        obtain ⟨l, s, hl⟩ := ih (dep tr (par tr x) + dep tr y) (by omega) _ _ _ _ rfl c2
        refine ⟨l, s, ?_⟩
        rw [List.length_append] at hl
        have : [x].length = 1 := rfl
        omega
      · obtain ⟨h3, h4, c2⟩ := c.up2 T h h2
        have d := dep_succ T h3
        obtain ⟨l, s, hl⟩ := ih (dep tr x + dep tr (par tr y)) (by omega) _ _ _ _ rfl c2
        refine ⟨l, s, ?_⟩
        rw [List.length_append] at hl
        have : [y].length = 1 := rfl
        omega
theorem sw_ex (T : TreeL tr) {a b : Nat} (ha : a ≤ tr.length) (hb : b ≤ tr.length) : ∃ l, SW tr a b l ∧ l.length ≤ dep tr a + dep tr b + 1 := by
  obtain ⟨l, s, h⟩ := sw_climb T _ a b [] [] rfl (Clb.start ha hb)
  refine ⟨l, s, ?_⟩
  simp at h
  omega
theorem wk_pre : ∀ {l r : List Nat}, Wk tr (l ++ r) → Wk tr l
  | [], _, _ => trivial
  | [_], _, _ => trivial
  | a :: b :: l, r, h => ⟨h.1, wk_pre (l := b :: l) (r := r) h.2⟩
theorem wk_adj : ∀ {l : List Nat} {x g : Nat}, Wk tr (l ++ [x] ++ [g]) → Adj tr x g
  | [], _, _, h => h.1
  | [a], x, g, h => wk_adj (l := []) h.2
  | a :: b :: l, x, g, h => wk_adj (l := b :: l) h.2
theorem SW.cut {s g : Nat} {l : List Nat} (w : SW tr s g (l ++ [g])) (h : l ≠ []) : ∃ x, SW tr s x l ∧ Adj tr x g ∧ g ∉ l := by
  obtain ⟨p, x, rfl⟩ : ∃ p x, l = p ++ [x] := ⟨l.dropLast, l.getLast h, (List.dropLast_concat_getLast h).symm⟩
  refine ⟨x, ⟨wk_pre w.wk, ?_, ?_, by simp⟩, wk_adj w.wk, fun m => ?_⟩
  · have := w.nd
    exact (List.nodup_append.mp this).1
  · have := w.hd
    rw [List.head?_append] at this
    cases e : (p ++ [x]).head? with
    | none => simp at e
    | some z =>
      rw [e] at this
      exact this
  · exact (List.nodup_append.mp w.nd).2.2 g m g (by simp) rfl
noncomputable def pl (tr : List E2) (s g : Nat) : List Nat := open Classical in if h : ∃ l, SW tr s g l then h.choose else []
theorem pl_eq (T : TreeL tr) {s g : Nat} {l : List Nat} (w : SW tr s g l) : pl tr s g = l := by
  unfold pl
  rw [dif_pos ⟨l, w⟩]
  exact SW.uniq T (Exists.choose_spec (⟨l, w⟩ : ∃ l, SW tr s g l)) w
theorem SW.pre {a b v : Nat} {p r : List Nat} (s : SW tr a b (p ++ v :: r)) : SW tr a v (p ++ [v]) := by
  have e : p ++ v :: r = (p ++ [v]) ++ r := by simp
  refine ⟨?_, ?_, ?_, by simp⟩
  · have h := s.wk
    rw [e] at h
    exact wk_pre h
  · have h := s.nd
    rw [e] at h
    exact (List.nodup_append.mp h).1
  · have h := s.hd
    cases p with
    | nil => exact h
    | cons c p => exact h
/-- the distance of a station -/
noncomputable def dst (tr : List E2) (s v : Nat) : Nat := (pl tr s v).length - 1
theorem dst_eq (T : TreeL tr) {s v : Nat} {l : List Nat} (w : SW tr s v l) : dst tr s v + 1 = l.length := by
  unfold dst
  rw [pl_eq T w]
  have : l ≠ [] := by
    rintro rfl
    cases w.hd
  have := List.length_pos_iff.mpr this
  omega
theorem dst_self (T : TreeL tr) (s : Nat) : dst tr s s = 0 := by
  have := dst_eq T (SW.one (tr := tr) s)
  simp at this
  exact this
theorem dst_zero (T : TreeL tr) {s v : Nat} (hs : s ≤ tr.length) (hv : v ≤ tr.length) (h : dst tr s v = 0) : v = s := by
  obtain ⟨l, w, _⟩ := sw_ex T hs hv
  have e := dst_eq T w
  rw [h] at e
  obtain ⟨x, rfl⟩ := List.length_eq_one_iff.mp e.symm
  have e1 : x = s := Option.some.inj w.hd
  have e2 : x = v := Option.some.inj w.lt
  exact e2.symm.trans e1
theorem dst_le (T : TreeL tr) {s v : Nat} (hs : s ≤ tr.length) (hv : v ≤ tr.length) : dst tr s v ≤ tr.length := by
  obtain ⟨l, w, _⟩ := sw_ex T hs hv
  have e := dst_eq T w
  have := nd_len w.nd (sw_le T w hs)
  omega
theorem dst_adj (T : TreeL tr) {s u v : Nat} (hs : s ≤ tr.length) (hu : u ≤ tr.length) (h : Adj tr u v) : dst tr s v = dst tr s u + 1 ∨ dst tr s u = dst tr s v + 1 := by
  obtain ⟨l, w, _⟩ := sw_ex T hs hu
  have e := dst_eq T w
  by_cases c : v ∈ l
  · obtain ⟨p, r, rfl⟩ := List.append_of_mem c
    have wv := w.pre
    have hr : r ≠ [] := by
      rintro rfl
      have h2 := w.lt
      rw [List.getLast?_append] at h2
      have : v = u := by simpa using h2
      subst this
      rcases h with h | h
      · exact T.ne _ h rfl
      · exact T.ne _ h rfl
    have hu2 : u ∉ p ++ [v] := by
      intro hm
      have h3 : p ++ v :: r = (p ++ [v]) ++ r := by simp
      have nd := w.nd
      rw [h3] at nd
      have hl : r.getLast? = some u := by
        have := w.lt
        rw [h3, List.getLast?_append] at this
        cases e : r.getLast? with
        | none => exact absurd (List.getLast?_eq_none_iff.mp e) hr
        | some z => rw [e] at this; exact this
      exact (List.nodup_append.mp nd).2.2 u hm u (List.mem_of_getLast? hl) rfl
    have w2 := wv.snoc h.sym hu2
    have e2 := dst_eq T w2
    have e3 := dst_eq T wv
    rw [List.length_append] at e2
    right
    have : [u].length = 1 := rfl
    omega
  · have w2 := w.snoc h c
    have e2 := dst_eq T w2
    rw [List.length_append] at e2
    left
    have : [v].length = 1 := rfl
    omega
theorem dst_prev (T : TreeL tr) {s v : Nat} (hs : s ≤ tr.length) (hv : v ≤ tr.length) (ne : v ≠ s) : ∃ u, u ≤ tr.length ∧ Adj tr u v ∧ dst tr s u + 1 = dst tr s v := by
  obtain ⟨l, w, _⟩ := sw_ex T hs hv
  obtain ⟨l', rfl⟩ : ∃ l', l = l' ++ [v] := List.getLast?_eq_some_iff.mp w.lt
  have hl : l' ≠ [] := by
    rintro rfl
    exact ne (Option.some.inj w.hd)
  obtain ⟨x, w', adj, ng⟩ := w.cut hl
  have e1 := dst_eq T w
  have e2 := dst_eq T w'
  rw [List.length_append] at e1
  refine ⟨x, sw_le T w' hs x w'.mem, adj, ?_⟩
  have : [v].length = 1 := rfl
  omega
/-- the law's own list under way: round k, i tracks seen -/
structure Far (tr : List E2) (s k i : Nat) (g : Nat → Option Nat) : Prop where
  low : ∀ v, v ≤ tr.length → dst tr s v ≤ k → g v = some (dst tr s v)
  val : ∀ v x, v ≤ tr.length → g v = some x → x = dst tr s v ∧ x ≤ k + 1
  up : ∀ (j : Nat) (e : E2), j < i → tr[j]? = some e → (dst tr s e.1 = k → dst tr s e.2 = k + 1 → g e.2 = some (k + 1)) ∧ (dst tr s e.2 = k → dst tr s e.1 = k + 1 → g e.1 = some (k + 1))
theorem Far.start (T : TreeL tr) {s : Nat} (hs : s ≤ tr.length) : Far tr s 0 0 (fun v => if v = s then some 0 else none) := by
  refine ⟨fun v hv h => ?_, fun v x hv h => ?_, fun j e h => absurd h (Nat.not_lt_zero _)⟩
  · have := dst_zero T hs hv (by omega)
    subst this
    rw [if_pos rfl, dst_self T]
  · by_cases c : v = s
    · subst c
      rw [if_pos rfl] at h
      cases h
      exact ⟨(dst_self T _).symm, by omega⟩
    · rw [if_neg c] at h
      cases h
theorem Far.round (T : TreeL tr) {s k : Nat} {g : Nat → Option Nat} (hs : s ≤ tr.length) (f : Far tr s k tr.length g) : Far tr s (k + 1) 0 g := by
  refine ⟨fun v hv h => ?_, fun v x hv h => ?_, fun j e h => absurd h (Nat.not_lt_zero _)⟩
  · by_cases c : dst tr s v ≤ k
    · exact f.low v hv c
    · have hd : dst tr s v = k + 1 := by omega
      obtain ⟨u, hu, adj, e⟩ := dst_prev T hs hv (fun z => by rw [z, dst_self T] at hd; omega)
      have hdu : dst tr s u = k := by omega
      rcases adj with h | h
      · obtain ⟨j, hj, ej⟩ := List.mem_iff_getElem.mp h
        have := (f.up j _ hj (List.getElem?_eq_some_iff.mpr ⟨hj, ej⟩)).1 hdu hd
        rw [hd]
        exact this
      · obtain ⟨j, hj, ej⟩ := List.mem_iff_getElem.mp h
        have := (f.up j _ hj (List.getElem?_eq_some_iff.mpr ⟨hj, ej⟩)).2 hdu hd
        rw [hd]
        exact this
  · obtain ⟨h1, h2⟩ := f.val v x hv h
    exact ⟨h1, by omega⟩
/-- a track that sets the one end v from the other end u -/
theorem Far.set (T : TreeL tr) {s k i u v : Nat} {g : Nat → Option Nat} (hs : s ≤ tr.length) (f : Far tr s k i g) {e : E2} (he : tr[i]? = some e) (hu : u ≤ tr.length) (hv : v ≤ tr.length) (h : (e.1 = u ∧ e.2 = v) ∨ (e.1 = v ∧ e.2 = u)) (h1 : g u = some k) (h2 : g v = none) :
    Far tr s k (i + 1) (fun w => if w = v then some (k + 1) else g w) := by
  have hm := List.mem_of_getElem? he
  have du : dst tr s u = k := ((f.val u k hu h1).1).symm
  have adj : Adj tr u v := by
    rcases h with ⟨a, b⟩ | ⟨a, b⟩
    · exact .inl (by rw [← a, ← b]; exact hm)
    · exact .inr (by rw [← a, ← b]; exact hm)
  have dv : dst tr s v = k + 1 := by
    rcases dst_adj T hs hu adj with q | q
    · omega
    · have := f.low v hv (by omega)
      rw [h2] at this
      cases this
  refine ⟨fun w hw hd => ?_, fun w x hw hx => ?_, fun j e' hj he' => ?_⟩
  · by_cases c : w = v
    · subst c
      omega
    · show (if w = v then some (k + 1) else g w) = _
      rw [if_neg c]
      exact f.low w hw hd
  · have hx : (if w = v then some (k + 1) else g w) = some x := hx
    by_cases c : w = v
    · subst c
      rw [if_pos rfl] at hx
      cases hx
      exact ⟨dv.symm, Nat.le_refl _⟩
    · rw [if_neg c] at hx
      exact f.val w x hw hx
  · by_cases c : j = i
    · subst c
      rw [he] at he'
      cases he'
      rcases h with ⟨a, b⟩ | ⟨a, b⟩
      · refine ⟨fun _ _ => by show (if e.2 = v then some (k + 1) else g e.2) = _; rw [if_pos b], fun q1 q2 => ?_⟩
        rw [b, dv] at q1
        omega
      · refine ⟨fun q1 q2 => ?_, fun _ _ => by show (if e.1 = v then some (k + 1) else g e.1) = _; rw [if_pos a]⟩
        rw [a, dv] at q1
        omega
    · obtain ⟨q1, q2⟩ := f.up j e' (by omega) he'
      refine ⟨fun z1 z2 => ?_, fun z1 z2 => ?_⟩
      · show (if e'.2 = v then some (k + 1) else g e'.2) = _
        split
        · rfl
        · exact q1 z1 z2
      · show (if e'.1 = v then some (k + 1) else g e'.1) = _
        split
        · rfl
        · exact q2 z1 z2
/-- a track that sets nothing -/
theorem Far.keep (T : TreeL tr) {s k i : Nat} {g : Nat → Option Nat} (hs : s ≤ tr.length) (f : Far tr s k i g) {e : E2} (he : tr[i]? = some e) (h1 : ¬ (g e.1 = some k ∧ g e.2 = none)) (h2 : ¬ (g e.2 = some k ∧ g e.1 = none)) : Far tr s k (i + 1) g := by
  have hm := List.mem_of_getElem? he
  obtain ⟨b1, b2⟩ := T.lt1 hm
  refine ⟨f.low, f.val, fun j e' hj he' => ?_⟩
  by_cases c : j = i
  · subst c
    rw [he] at he'
    cases he'
    refine ⟨fun q1 q2 => ?_, fun q1 q2 => ?_⟩
    · have := f.low e.1 (by omega) (by omega)
      rw [q1] at this
      cases hg : g e.2 with
      | none => exact absurd ⟨this, hg⟩ h1
      | some x =>
        have := (f.val e.2 x (by omega) hg).1
        rw [this, q2]
    · have := f.low e.2 (by omega) (by omega)
      rw [q1] at this
      cases hg : g e.1 with
      | none => exact absurd ⟨this, hg⟩ h2
      | some x =>
        have := (f.val e.1 x (by omega) hg).1
        rw [this, q2]
  · exact f.up j e' (by omega) he'
theorem Far.done (T : TreeL tr) {s : Nat} {g : Nat → Option Nat} (hs : s ≤ tr.length) (f : Far tr s tr.length 0 g) {v : Nat} (hv : v ≤ tr.length) : g v = some (dst tr s v) := f.low v hv (dst_le T hs hv)
end
end TR

namespace L2.TT
open PySem PySem.Spec PyProof.Rows

/-! ### the exception classes of the program that keep one field -/
theorem PE.imp {X : Cx} {e : Expr} {t t' : TE} (h : PE X e t) (i : ∀ σ H Q, t' σ H Q → t σ H Q) : PE X e t' := ⟨fun pins s σ H Q I q => h.run pins s σ H Q I (i σ H Q q)⟩
section
variable {P : Program} {w : World} {K : PySem.W.Frag} {mg : Str → Option Value} {base : Heap} {C fI : Addr} {fd : FuncData} {f g : Str} {B newId initId qual : String} {bmB : List Value} {st : Stmt} {dvs : List V}
/-- an __init__ that stores its one argument -/
theorem ok_init1 {q : Str} (F : FunD K "__init__" q (defArgs st) (defBody st) (defScope st) dvs [] fI fd) (Y : XB B newId initId bmB) (T : XC K C bmB newId) (nF : PySem.W.findIn K (.ref C) f = some none)
    (hb : ∃ p1 p2 p3 p4, defBody st = [.Assign [.Attribute (.Name "self" p1) f p2] (.Name f p3) p4]) (sc : FnScope ["self", f] ["self", f] (defScope st)) (v0 : Vis (defScope st) "self") (v1 : Vis (defScope st) f)
    (h1 : (f == ("__debug__" : Str)) = false) (h2 : (f == ("__classdict__" : Str)) = false) : FnOk P w K mg base CX0 1 fI fd ["self", f] (spI1 C f) := by
  obtain ⟨p1, p2, p3, p4, hb⟩ := hb
  refine F.ok sc (fun vs H Q E h => ?_) (fun cdv A outer s H vs Q E hr h => ?_)
  · obtain ⟨a, y, rfl, _⟩ := h
    rfl
  · obtain ⟨a, y, rfl, ha, k⟩ := h
    rw [hb]
    refine ⟨_, pss_one (ps_xst (pe_var (i := 0) rfl v0) (pe_var (i := 1) rfl v1 h1 h2)), ?_⟩
    refine ⟨_, rfl, _, rfl, a, C, B, newId, initId, bmB, rfl, Y, T, nF, .inl ⟨ha, fun dx n ne => ?_⟩⟩
    exact k dx n ne
/-- .. its two arguments -/
theorem ok_init2 {q : Str} (F : FunD K "__init__" q (defArgs st) (defBody st) (defScope st) dvs [] fI fd) (Y : XB B newId initId bmB) (T : XC K C bmB newId) (nF : PySem.W.findIn K (.ref C) f = some none) (nG : PySem.W.findIn K (.ref C) g = some none)
    (hb : ∃ p1 p2 p3 p4 p5 p6 p7 p8, defBody st = [.Assign [.Attribute (.Name "self" p1) f p2] (.Name f p3) p4, .Assign [.Attribute (.Name "self" p5) g p6] (.Name g p7) p8]) (sc : FnScope ["self", f, g] ["self", f, g] (defScope st)) (v0 : Vis (defScope st) "self") (v1 : Vis (defScope st) f) (v2 : Vis (defScope st) g)
    (h1 : (f == ("__debug__" : Str)) = false) (h2 : (f == ("__classdict__" : Str)) = false) (h3 : (g == ("__debug__" : Str)) = false) (h4 : (g == ("__classdict__" : Str)) = false) : FnOk P w K mg base CX0 1 fI fd ["self", f, g] (spI2 C f g) := by
  obtain ⟨p1, p2, p3, p4, p5, p6, p7, p8, hb⟩ := hb
  refine F.ok sc (fun vs H Q E h => ?_) (fun cdv A outer s H vs Q E hr h => ?_)
  · obtain ⟨a, y, z, rfl, _⟩ := h
    rfl
  · obtain ⟨a, y, z, rfl, ha, k⟩ := h
    rw [hb]
    refine ⟨_, pss_cons (ps_xst (pe_var (i := 0) rfl v0) (pe_var (i := 1) rfl v1 h1 h2)) (pss_one (ps_xst (pe_var (i := 0) rfl v0) (pe_var (i := 2) rfl v2 h3 h4))), ?_⟩
    refine ⟨_, rfl, _, rfl, a, C, B, newId, initId, bmB, rfl, Y, T, nF, .inl ⟨ha, fun dx n ne => ?_⟩⟩
    refine ⟨_, rfl, _, rfl, a, C, B, newId, initId, bmB, rfl, Y, T, nG, .inr ⟨dx, [(f, y)], upd_same, by rw [upd_ne ne, upd_same], (by show 1 ≤ 900; decide), ?_⟩⟩
    have e : upd (upd (upd H dx (exd dx [(f, y)])) a (exo a C (some dx))) dx (exd dx [(g, z), (f, y)]) = upd (upd H dx (exd dx [(g, z), (f, y)])) a (exo a C (some dx)) := by
      funext b
      by_cases h1 : b = dx
      · rw [h1, upd_same, upd_ne ne, upd_same]
      · rw [upd_ne h1]
        by_cases h2 : b = a
        · rw [h2, upd_same, upd_same]
        · rw [upd_ne h2, upd_ne h1, upd_ne h2, upd_ne h1]
    show Q .non _
    rw [e]
    exact k dx n ne
end

/-- such a class, as the program has it -/
structure XCl (P : Program) (w : World) (K : PySem.W.Frag) (mg : Str → Option Value) (base : Heap) (x : Str) (C : Addr) (f : Str) : Prop where
  ex : ∃ (B newId initId : String) (bmB : List Value) (fI : Addr) (fd : FuncData), XB B newId initId bmB ∧ XC K C bmB newId ∧ PySem.W.findIn K (.ref C) "__init__" = some (some (.ref fI)) ∧ PySem.W.typeIn K (.ref fI) = some (.type "function") ∧
    FnOk P w K mg base CX0 1 fI fd ["self", f] (spI1 C f) ∧ (∀ (s : Shared) (a u : Value), K.In s.heap → BindsTo s fd ⟨[a, u], []⟩ [("self", a), (f, u)]) ∧ (∀ (s : Shared) (a u : Value), K.In s.heap → BindsTo s fd ⟨[a], [(f, u)]⟩ [("self", a), (f, u)])
  nF : PySem.W.findIn K (.ref C) f = some none
  mgC : mg x = some (.ref C)
/-- .. with None as the field's default -/
structure XCl0 (P : Program) (w : World) (K : PySem.W.Frag) (mg : Str → Option Value) (base : Heap) (x : Str) (C : Addr) (f : Str) : Prop where
  ex : ∃ (B newId initId : String) (bmB : List Value) (fI : Addr) (fd : FuncData), XB B newId initId bmB ∧ XC K C bmB newId ∧ PySem.W.findIn K (.ref C) "__init__" = some (some (.ref fI)) ∧ PySem.W.typeIn K (.ref fI) = some (.type "function") ∧
    FnOk P w K mg base CX0 1 fI fd ["self", f] (spI1 C f) ∧ (∀ (s : Shared) (a : Value), K.In s.heap → BindsTo s fd ⟨[a], []⟩ [("self", a), (f, .none)])
  mgC : mg x = some (.ref C)
/-- .. with two fields -/
structure XCl2 (P : Program) (w : World) (K : PySem.W.Frag) (mg : Str → Option Value) (base : Heap) (x : Str) (C : Addr) (f g : Str) : Prop where
  ex : ∃ (B newId initId : String) (bmB : List Value) (fI : Addr) (fd : FuncData), XB B newId initId bmB ∧ XC K C bmB newId ∧ PySem.W.findIn K (.ref C) "__init__" = some (some (.ref fI)) ∧ PySem.W.typeIn K (.ref fI) = some (.type "function") ∧
    FnOk P w K mg base CX0 1 fI fd ["self", f, g] (spI2 C f g) ∧ (∀ (s : Shared) (a u v : Value), BindsTo s fd ⟨[a, u, v], []⟩ [("self", a), (f, u), (g, v)]) ∧ (∀ (s : Shared) (a u v : Value), BindsTo s fd ⟨[a], [(g, v), (f, u)]⟩ [("self", a), (f, u), (g, v)]) ∧
    (∀ (s : Shared) (a u v : Value), BindsTo s fd ⟨[a], [(f, u), (g, v)]⟩ [("self", a), (f, u), (g, v)])
  nF : PySem.W.findIn K (.ref C) f = some none
  nG : PySem.W.findIn K (.ref C) g = some none
  mgC : mg x = some (.ref C)

/-- a new exception with the field y -/
def tMk1 (C : Addr) (f : Str) (te : TE) : TE := fun σ H Q => te σ H fun y H1 => ∀ a H2, H1 a = none → Same H1 H2 → ExcAt H2 a C [(f, y)] → Q (.ref a) H2
def tMk0 (C : Addr) (f : Str) : TE := fun _ H Q => ∀ a H2, H a = none → Same H H2 → ExcAt H2 a C [(f, .non)] → Q (.ref a) H2
def tMk2 (C : Addr) (f g : Str) (te tg : TE) : TE := fun σ H Q => te σ H fun y H1 => tg σ H1 fun z H2 => ∀ a H3, H2 a = none → Same H2 H3 → ExcAt H3 a C [(g, z), (f, y)] → Q (.ref a) H3
/-- the same, the second field's value first -/
def tMk2r (C : Addr) (f g : Str) (te tg : TE) : TE := fun σ H Q => tg σ H fun z H1 => te σ H1 fun y H2 => ∀ a H3, H2 a = none → Same H2 H3 → ExcAt H3 a C [(g, z), (f, y)] → Q (.ref a) H3
theorem made_at {H : Hp} {a C d : Addr} {fs : List (Str × V)} (na : H a = none) (nd : H d = none) (ne : d ≠ a) : Same H (upd (upd H d (exd d fs)) a (exo a C (some d))) ∧ ExcAt (upd (upd H d (exd d fs)) a (exo a C (some d))) a C fs :=
  ⟨fun b o e => by rw [upd_ne (ne_of_none e na), upd_ne (ne_of_none e nd)]; exact e, d, upd_same, by rw [upd_ne ne, upd_same]⟩
theorem upd_over {H : Hp} {a d : Addr} {o u v : HO} (ne : d ≠ a) : upd (upd (upd H a o) d u) a v = upd (upd H d u) a v := by
  funext b
  by_cases h : b = a
  · rw [h, upd_same, upd_same]
  · rw [upd_ne h, upd_ne h]
    by_cases h2 : b = d
    · rw [h2, upd_same, upd_same]
    · rw [upd_ne h2, upd_ne h2, upd_ne h]
theorem none_of_upd {H : Hp} {a d : Addr} {o : HO} (h : upd H a o d = none) : H d = none ∧ d ≠ a := by
  by_cases e : d = a
  · rw [e, upd_same] at h
    cases h
  · rw [upd_ne e] at h
    exact ⟨h, e⟩
/-- what is asked of one argument, of two -/
def one (φ : V → Hp → Prop) : List V → Hp → Prop
  | [y], H => φ y H
  | _, _ => False
def two (φ : V → V → Hp → Prop) : List V → Hp → Prop
  | [y, z], H => φ y z H
  | _, _ => False
theorem one_of {φ : V → Hp → Prop} {H : Hp} : ∀ {vs : List V}, one φ vs H → ∃ y, vs = [y] ∧ φ y H
  | [y], h => ⟨y, rfl, h⟩
  | [], h => h.elim
  | _ :: _ :: _, h => h.elim
theorem two_of {φ : V → V → Hp → Prop} {H : Hp} : ∀ {vs : List V}, two φ vs H → ∃ y z, vs = [y, z] ∧ φ y z H
  | [y, z], h => ⟨y, z, rfl, h⟩
  | [], h => h.elim
  | [_], h => h.elim
  | _ :: _ :: _ :: _, h => h.elim
theorem vals_one {y : V} {us : List Value} (r : Vals [y] us) : ∃ u, us = [u] ∧ RelV y u := by
  cases r with
  | cons r t =>
    cases t
    exact ⟨_, rfl, r⟩
theorem vals_two {y z : V} {us : List Value} (r : Vals [y, z] us) : ∃ u v, us = [u, v] ∧ RelV y u ∧ RelV z v := by
  cases r with
  | cons r t =>
    obtain ⟨v, rfl, r2⟩ := vals_one t
    exact ⟨_, v, rfl, r, r2⟩
theorem fit1 {u : Value} : [u].length ≤ sizeLine := by
  rw [sizeLine_eq]
  exact (by decide : 1 ≤ 16777216)
theorem fit2 {u v : Value} : [u, v].length ≤ sizeLine := by
  rw [sizeLine_eq]
  exact (by decide : 2 ≤ 16777216)
section
variable {X : Cx} {C : Addr} {f g x : Str} {p pos k1 k2 : Pos} {e e2 : Expr} {te tg : TE}
/-- C(e) -/
theorem pe_mk1 (Z : XCl X.prog X.w X.K X.mg X.base x C f) (hr : Room 2 X.A) (hg : Gl X x) (he : PE X e te)
    (hdb : (x == ("__debug__" : Str)) = false := by decide) (hs : starEach [e] X.env = (false, eval e X.env) :: starEach [] X.env := by rfl) (hpl : (backTo pos (starEach [] X.env)).any (·.1) = false := by rfl)
    (hxe : Passes CX0 X E0 := by exact pass0) : PE X (.Call (.Name x p) [e] [] pos) (tMk1 C f te) := by
  obtain ⟨B, newId, initId, bmB, fI, fd, Y, T, iC, tI, F, pb, kb⟩ := Z.ex
  refine ⟨fun pins s σ H Q I h => ?_⟩
  refine wpAny_Call_Name_kw (ld_glob I hg Z.mgC ?_ hdb)
  refine PySem.W.callWith_K (h₀ := X.base) I.ok.mod.kin T.kp (thn ((pa_cons he pa_nil hs).run pos pins s σ H (one fun y H1 => ∀ a H2, H1 a = none → Same H1 H2 → ExcAt H2 a C [(f, y)] → Q (.ref a) H2) I h) fun us s1 ⟨vs, H1, I1, r1, q1⟩ => ⟨I1.kIn, ?_⟩) hs hpl
  obtain ⟨y, rfl, q1⟩ := one_of q1
  obtain ⟨u, rfl, ru⟩ := vals_one r1
  · skip
    refine run_xmk (ks := []) (ws := []) (us := [u]) (its := [u]) (zs := [y]) Y T iC tI F hr hxe I1 fit1 (fun s a Z => pb s (.ref a) u Z) r1 fun a na => ⟨a, y, rfl, upd_same, fun d nd ne => ⟨rfl, ?_⟩⟩
    rw [upd_over ne]
    obtain ⟨nd', _⟩ := none_of_upd nd
    obtain ⟨h1, h2⟩ := made_at (C := C) (fs := [(f, y)]) na nd' ne
    exact q1 a _ na h1 h2
/-- C(f = e) -/
theorem pe_mk1k (Z : XCl X.prog X.w X.K X.mg X.base x C f) (hr : Room 2 X.A) (hg : Gl X x) (he : PE X e te)
    (hdb : (x == ("__debug__" : Str)) = false := by decide)
    (hall : (backToKw pos (keywordEach [⟨some f, e, k1⟩] X.env)).all (·.1.isSome) = true := by rfl) (hks : (backToKw pos (keywordEach [⟨some f, e, k1⟩] X.env)).filterMap (·.1) = [f] := by rfl)
    (hpl : ((backTo pos (starEach [] X.env)).any (·.1) || (backToKw pos (keywordEach [⟨some f, e, k1⟩] X.env)).any (·.1.isNone)) = false := by rfl)
    (hxe : Passes CX0 X E0 := by exact pass0) : PE X (.Call (.Name x p) [] [⟨some f, e, k1⟩] pos) (tMk1 C f te) := by
  obtain ⟨B, newId, initId, bmB, fI, fd, Y, T, iC, tI, F, pb, kb⟩ := Z.ex
  refine ⟨fun pins s σ H Q I h => ?_⟩
  refine wpAny_Call_Name_kw (ld_glob I hg Z.mgC ?_ hdb)
  refine PySem.W.callWith_KW0 (h₀ := X.base) I.ok.mod.kin T.kp hall ?_ hpl
  refine thn ((pk_cons (nm := some f) (kpos := k1) he pk_nil).run pos pins s σ H (one fun y H1 => ∀ a H2, H1 a = none → Same H1 H2 → ExcAt H2 a C [(f, y)] → Q (.ref a) H2) I h) fun us s1 ⟨vs, H1, I1, r1, q1⟩ => ⟨I1.kIn, ?_⟩
  rw [hks]
  obtain ⟨y, rfl, q1⟩ := one_of q1
  obtain ⟨u, rfl, ru⟩ := vals_one r1
  · skip
    refine run_xmk (ks := [f]) (ws := [u]) (us := []) (its := [u]) (zs := [y]) Y T iC tI F hr hxe I1 (Nat.zero_le _) (fun s a Z => kb s (.ref a) u Z) r1 fun a na => ⟨a, y, rfl, upd_same, fun d nd ne => ⟨rfl, ?_⟩⟩
    rw [upd_over ne]
    obtain ⟨nd', _⟩ := none_of_upd nd
    obtain ⟨h1, h2⟩ := made_at (C := C) (fs := [(f, y)]) na nd' ne
    exact q1 a _ na h1 h2
/-- C() -/
theorem pe_mk0 (Z : XCl0 X.prog X.w X.K X.mg X.base x C f) (hr : Room 2 X.A) (hg : Gl X x)
    (hdb : (x == ("__debug__" : Str)) = false := by decide) (hxe : Passes CX0 X E0 := by exact pass0) : PE X (.Call (.Name x p) [] [] pos) (tMk0 C f) := by
  obtain ⟨B, newId, initId, bmB, fI, fd, Y, T, iC, tI, F, db⟩ := Z.ex
  refine ⟨fun pins s σ H Q I h => ?_⟩
  refine wpAny_Call_Name_kw (ld_glob I hg Z.mgC ?_ hdb)
  refine PySem.W.callWith_K0 I.kIn T.kp ?_
  refine run_xmk (ks := []) (ws := []) (us := []) (its := [.none]) (zs := [.non]) Y T iC tI F hr hxe I (Nat.zero_le _) (fun s a Z => db s (.ref a) Z) (.cons rfl .nil) fun a na => ⟨a, .non, rfl, upd_same, fun d nd ne => ⟨rfl, ?_⟩⟩
  rw [upd_over ne]
  obtain ⟨nd', _⟩ := none_of_upd nd
  obtain ⟨h1, h2⟩ := made_at (C := C) (fs := [(f, V.non)]) na nd' ne
  exact h a _ na h1 h2
/-- C(e, e2) -/
theorem pe_mk2 (Z : XCl2 X.prog X.w X.K X.mg X.base x C f g) (hr : Room 2 X.A) (hg : Gl X x) (he : PE X e te) (he2 : PE X e2 tg)
    (hdb : (x == ("__debug__" : Str)) = false := by decide) (hs : starEach [e, e2] X.env = (false, eval e X.env) :: starEach [e2] X.env := by rfl) (hs2 : starEach [e2] X.env = (false, eval e2 X.env) :: starEach [] X.env := by rfl)
    (hpl : (backTo pos (starEach [e2] X.env)).any (·.1) = false := by rfl)
    (hxe : Passes CX0 X E0 := by exact pass0) : PE X (.Call (.Name x p) [e, e2] [] pos) (tMk2 C f g te tg) := by
  obtain ⟨B, newId, initId, bmB, fI, fd, Y, T, iC, tI, F, pb, kb, kb2⟩ := Z.ex
  refine ⟨fun pins s σ H Q I h => ?_⟩
  refine wpAny_Call_Name_kw (ld_glob I hg Z.mgC ?_ hdb)
  refine PySem.W.callWith_K (h₀ := X.base) I.ok.mod.kin T.kp (thn ((pa_cons he (pa_cons he2 pa_nil hs2) hs).run pos pins s σ H (two fun y z H1 => ∀ a H2, H1 a = none → Same H1 H2 → ExcAt H2 a C [(g, z), (f, y)] → Q (.ref a) H2) I h) fun us s1 ⟨vs, H1, I1, r1, q1⟩ => ⟨I1.kIn, ?_⟩) hs hpl
  obtain ⟨y, z, rfl, q1⟩ := two_of q1
  obtain ⟨u, v, rfl, ru, rv⟩ := vals_two r1
  · skip
    refine run_xmk (ks := []) (ws := []) (us := [u, v]) (its := [u, v]) (zs := [y, z]) Y T iC tI F hr hxe I1 fit2 (fun s a _ => pb s (.ref a) u v) r1 fun a na => ⟨a, y, z, rfl, upd_same, fun d nd ne => ⟨rfl, ?_⟩⟩
    rw [upd_over ne]
    obtain ⟨nd', _⟩ := none_of_upd nd
    obtain ⟨h1, h2⟩ := made_at (C := C) (fs := [(g, z), (f, y)]) na nd' ne
    exact q1 a _ na h1 h2
/-- C(g = e2, f = e) -/
theorem pe_mk2r (Z : XCl2 X.prog X.w X.K X.mg X.base x C f g) (hr : Room 2 X.A) (hg : Gl X x) (he : PE X e te) (he2 : PE X e2 tg)
    (hdb : (x == ("__debug__" : Str)) = false := by decide)
    (hall : (backToKw pos (keywordEach [⟨some g, e2, k1⟩, ⟨some f, e, k2⟩] X.env)).all (·.1.isSome) = true := by rfl) (hks : (backToKw pos (keywordEach [⟨some g, e2, k1⟩, ⟨some f, e, k2⟩] X.env)).filterMap (·.1) = [g, f] := by rfl)
    (hpl : ((backTo pos (starEach [] X.env)).any (·.1) || (backToKw pos (keywordEach [⟨some g, e2, k1⟩, ⟨some f, e, k2⟩] X.env)).any (·.1.isNone)) = false := by rfl)
    (hxe : Passes CX0 X E0 := by exact pass0) : PE X (.Call (.Name x p) [] [⟨some g, e2, k1⟩, ⟨some f, e, k2⟩] pos) (tMk2r C f g te tg) := by
  obtain ⟨B, newId, initId, bmB, fI, fd, Y, T, iC, tI, F, pb, kb, kb2⟩ := Z.ex
  refine ⟨fun pins s σ H Q I h => ?_⟩
  refine wpAny_Call_Name_kw (ld_glob I hg Z.mgC ?_ hdb)
  refine PySem.W.callWith_KW0 (h₀ := X.base) I.ok.mod.kin T.kp hall ?_ hpl
  refine thn ((pk_cons (nm := some g) (kpos := k1) he2 (pk_cons (nm := some f) (kpos := k2) he pk_nil)).run pos pins s σ H (two fun z y H1 => ∀ a H2, H1 a = none → Same H1 H2 → ExcAt H2 a C [(g, z), (f, y)] → Q (.ref a) H2) I h) fun us s1 ⟨vs, H1, I1, r1, q1⟩ => ⟨I1.kIn, ?_⟩
  rw [hks]
  obtain ⟨z, y, rfl, q1⟩ := two_of q1
  obtain ⟨v, u, rfl, rz, ry⟩ := vals_two r1
  · skip
    refine run_xmk (ks := [g, f]) (ws := [v, u]) (us := []) (its := [u, v]) (zs := [y, z]) Y T iC tI F hr hxe I1 (Nat.zero_le _) (fun s a _ => kb s (.ref a) u v) (.cons ry (.cons rz .nil)) fun a na => ⟨a, y, z, rfl, upd_same, fun d nd ne => ⟨rfl, ?_⟩⟩
    rw [upd_over ne]
    obtain ⟨nd', _⟩ := none_of_upd nd
    obtain ⟨h1, h2⟩ := made_at (C := C) (fs := [(g, z), (f, y)]) na nd' ne
    exact q1 a _ na h1 h2
/-- C(f = e, g = e2) -/
theorem pe_mk2k (Z : XCl2 X.prog X.w X.K X.mg X.base x C f g) (hr : Room 2 X.A) (hg : Gl X x) (he : PE X e te) (he2 : PE X e2 tg)
    (hdb : (x == ("__debug__" : Str)) = false := by decide)
    (hall : (backToKw pos (keywordEach [⟨some f, e, k1⟩, ⟨some g, e2, k2⟩] X.env)).all (·.1.isSome) = true := by rfl) (hks : (backToKw pos (keywordEach [⟨some f, e, k1⟩, ⟨some g, e2, k2⟩] X.env)).filterMap (·.1) = [f, g] := by rfl)
    (hpl : ((backTo pos (starEach [] X.env)).any (·.1) || (backToKw pos (keywordEach [⟨some f, e, k1⟩, ⟨some g, e2, k2⟩] X.env)).any (·.1.isNone)) = false := by rfl)
    (hxe : Passes CX0 X E0 := by exact pass0) : PE X (.Call (.Name x p) [] [⟨some f, e, k1⟩, ⟨some g, e2, k2⟩] pos) (tMk2 C f g te tg) := by
  obtain ⟨B, newId, initId, bmB, fI, fd, Y, T, iC, tI, F, pb, kb, kb2⟩ := Z.ex
  refine ⟨fun pins s σ H Q I h => ?_⟩
  refine wpAny_Call_Name_kw (ld_glob I hg Z.mgC ?_ hdb)
  refine PySem.W.callWith_KW0 (h₀ := X.base) I.ok.mod.kin T.kp hall ?_ hpl
  refine thn ((pk_cons (nm := some f) (kpos := k1) he (pk_cons (nm := some g) (kpos := k2) he2 pk_nil)).run pos pins s σ H (two fun y z H1 => ∀ a H2, H1 a = none → Same H1 H2 → ExcAt H2 a C [(g, z), (f, y)] → Q (.ref a) H2) I h) fun us s1 ⟨vs, H1, I1, r1, q1⟩ => ⟨I1.kIn, ?_⟩
  rw [hks]
  obtain ⟨y, z, rfl, q1⟩ := two_of q1
  obtain ⟨u, v, rfl, ru, rv⟩ := vals_two r1
  · skip
    refine run_xmk (ks := [f, g]) (ws := [u, v]) (us := []) (its := [u, v]) (zs := [y, z]) Y T iC tI F hr hxe I1 (Nat.zero_le _) (fun s a _ => kb2 s (.ref a) u v) r1 fun a na => ⟨a, y, z, rfl, upd_same, fun d nd ne => ⟨rfl, ?_⟩⟩
    rw [upd_over ne]
    obtain ⟨nd', _⟩ := none_of_upd nd
    obtain ⟨h1, h2⟩ := made_at (C := C) (fs := [(g, z), (f, y)]) na nd' ne
    exact q1 a _ na h1 h2
end
end L2.TT

namespace L2.TT
open PySem PySem.Spec PyProof.Rows PySem.W
/-- an own exception class over ValueError, RuntimeError or LookupError, to be raised -/
structure OexG (K : Frag) (C : Addr) : Prop where
  xc : ∃ (B newId initId : String) (bmB : List Value), XB B newId initId bmB ∧ XC K C bmB newId
  ty : typeIn K (.ref C) = some (.type "type")
section
variable {X : Cx} {p pos : Pos} {e : Expr} {es : List Expr} {ta : TA}
theorem pmk_oxg {CX : CXT} {x : Str} {C fI : Addr} {k : Nat} {fd : FuncData} {ps : List Str} {sp : Sp} {ds : List Value} {dvs : List V} (T : OexG X.K C) (iC : findIn X.K (.ref C) "__init__" = some (some (.ref fI))) (tI : typeIn X.K (.ref fI) = some (.type "function"))
    (F1 : FnOk X.prog X.w X.K X.mg X.base CX k fI fd ps sp) (hr : Room (k + 1) X.A) (hb : Binds X.K fd ps ds) (hd : Vals dvs ds) (hx : Passes CX X (fun _ _ _ => False)) (hg : Gl X x) (hm : X.mg x = some (.ref C)) (ha : PA X (e :: es) ta)
    (hdb : (x == ("__debug__" : Str)) = false := by decide) (he : starEach (e :: es) X.env = (false, eval e X.env) :: starEach es X.env := by rfl) (hpl : (backTo pos (starEach es X.env)).any (·.1) = false := by rfl) :
    PMk X (.Call (.Name x p) (e :: es) [] pos) (tMkO C sp dvs ta) := by
  intro pins s σ H Q I h
  obtain ⟨⟨B, newId, initId, bmB, Y, T0⟩, ty⟩ := T
  refine wpAny_Call_Name_kw (ld_glob I hg hm ?_ hdb)
  refine callWith_K (h₀ := X.base) I.ok.mod.kin T0.kp (thn (ha.run pos pins s σ H _ I h) fun us s1 ⟨vs, H1, I1, r1, hz, q1⟩ => ⟨I1.kIn, ?_⟩) he hpl
  obtain ⟨nm, N, qn, bs, bm, hdct, sn, sub, ab, col, dd, k0, k1, k2, k3, k5, hC, hT⟩ := excInit_of I1.kIn T0.ini
  show wpAny _ _ (call (.ref C) us) _ _ _
  obtain ⟨hp, g, dr, tk, os⟩ := s1
  have hsz : hp.objs.size ≤ hp.objs.size + 1 := Nat.le_succ _
  have hn : H1 (hp.objs.size + 1) = none := I1.hok.fresh hsz
  have hq := q1 (hp.objs.size + 1) hn
  have kk : ∀ b o, hp.get? b = some o → ((hp.push (kdv_tup us)).push (HandSPX.excO C hp.objs.size)).get? b = some o := fun b o e => Heap.get?_push_of_some _ (Heap.get?_push_of_some _ e)
  have hget : ((hp.push (kdv_tup us)).push (HandSPX.excO C hp.objs.size)).get? (hp.objs.size + 1) = some (HandSPX.excO C hp.objs.size) := by heap_get
  have I2 : Inv X pins σ (upd H1 (hp.objs.size + 1) (exo (hp.objs.size + 1) C none)) ⟨(hp.push (kdv_tup us)).push (HandSPX.excO C hp.objs.size), g, dr, tk, os⟩ :=
    I1.laid (t' := tk) (a := hp.objs.size + 1) (o := exo (hp.objs.size + 1) C none) (h' := (hp.push (kdv_tup us)).push (HandSPX.excO C hp.objs.size)) kk hsz (exo_ok hget)
  have r2 : Vals (V.ref (hp.objs.size + 1) :: (vs ++ dvs)) (Value.ref (hp.objs.size + 1) :: (us ++ ds)) := .cons rfl (r1.append hd)
  have hl : (Value.ref (hp.objs.size + 1) :: us ++ ds).length = ps.length := by
    have e := r2.length
    rw [F1.len _ _ _ _ hq] at e
    exact e.symm
  refine wpAny_call (call_exc Y.ex hT hC (looks_findIn I1.kIn iC) (fun self => bind_fn I1.kIn self tI) (small_of r1 hz)
    (codeAny_mono (F1.run _ X.stack _ _ ⟨Value.ref (hp.objs.size + 1) :: us, []⟩ (Value.ref (hp.objs.size + 1) :: (us ++ ds)) _ _ (fun _ _ _ => False) (hr.make C us []) (I2.env0.make C us []) (hb _ (Value.ref (hp.objs.size + 1) :: us) I2.kIn hl) r2 hq) fun r s' hq' => ?_))
  cases r with
  | error er => exact hx pins σ _ _ er s' I2 hq'
  | ok fl =>
    cases fl with
    | ret u =>
      obtain ⟨v, H2, os2, bare2, un2, hok2, rv, ev, d, fs, ea, ed, hd1, q2⟩ := hq'
      subst ev
      obtain ⟨h2, g2, d2, t2, os'⟩ := s'
      exact ⟨rv, mk_end (raises_own T0.sub ty) I1 hsz kk un2 hok2 os2 bare2 ea ed hd1 q2⟩
    | next => exact False.elim hq'
    | brk => exact False.elim hq'
    | cont => exact False.elim hq'
end
end L2.TT

namespace TR
open PySem PySem.Spec PyProof.Rows L2 L2.TT StX ClX
/-- an exception class of the program that keeps one field, to be raised -/
structure RzC (P : Program) (w : World) (K : PySem.W.Frag) (mg : Str → Option Value) (base : Heap) (x : Str) (C : Addr) (f : Str) : Prop where
  ox : OexG K C
  mgC : mg x = some (.ref C)
  ex : ∃ (fI : Addr) (fd : FuncData), PySem.W.findIn K (.ref C) "__init__" = some (some (.ref fI)) ∧ PySem.W.typeIn K (.ref fI) = some (.type "function") ∧ FnOk P w K mg base CX0 1 fI fd ["self", f] (spI1 C f) ∧ Binds K fd ["self", f] []
theorem rz_end {C : Addr} {f : Str} {y : V} {H : Hp} {Q : XK} (h : ∀ d, H d = none → Q (.ref C) (some d) (upd H d (.xd [(f, y)]))) :
    [y].length ≤ 1000 ∧ ∀ a, H a = none → spI1 C f (.ref a :: ([y] ++ [])) (upd H a (exo a C none))
      (fun v H2 => v = .non ∧ ∃ (d : Addr) (fs : List (Str × V)), H2 a = some (exo a C (some d)) ∧ H2 d = some (exd d fs) ∧ H d = none ∧ Q (.ref C) (some d) (upd (del H2 a) d (.xd fs))) (fun _ _ _ => False) := by
  refine ⟨by show 1 ≤ 1000; decide, fun a na => ⟨a, y, rfl, upd_same, fun d nd ne => ⟨rfl, d, [(f, y)], upd_same, by rw [upd_ne ne, upd_same], by rw [upd_ne ne] at nd; exact nd, ?_⟩⟩⟩
  have hd : H d = none := by
    rw [upd_ne ne] at nd
    exact nd
  have e : upd (del (upd (upd (upd H a (exo a C none)) d (exd d [(f, y)])) a (exo a C (some d))) a) d (.xd [(f, y)]) = upd H d (.xd [(f, y)]) := by
    funext b
    by_cases h1 : b = d
    · rw [h1, upd_same, upd_same]
    · rw [upd_ne h1, upd_ne h1]
      by_cases h2 : b = a
      · rw [h2, del_same, na]
      · rw [del_ne h2, upd_ne h2, upd_ne h1, upd_ne h2]
  rw [e]
  exact h d hd
section
variable {X : Cx} {CX : CXT} {k : Nat} {f C : Addr} {fd : FuncData} {ps : List Str} {sp : Sp} {E : L2.St → XK} {m : Str} {apos pos' : Pos} {o e : Expr} {es : List Expr} {ta : TE} {t : TA}
/-- o.m(e, ..), the wish about exceptions by the slots -/
def tMethS (C : Addr) (m : Str) (sp : Sp) (E : L2.St → XK) (ta : TE) (t : TA) : TE := fun σ H Q => ta σ H fun x H1 => ∃ a dx fs, x = .ref a ∧ H1 a = some (.ins C dx fs) ∧ fs.lookup m = none ∧ t σ H1 fun vs H2 => sp (x :: vs) H2 Q (E σ)
theorem pe_methS {pl : Sem Bool} (he : PE X o ta) (c : Cls X.K C) (hm : Meth X.K C m f) (F : FnOk X.prog X.w X.K X.mg X.base CX k f fd ps sp) (hr : Room k X.A) (hb : Binds X.K fd ps []) (hx : ∀ σ, PassesAt CX X σ (E σ)) (ha : PA X (e :: es) t)
    (hst : starEach (e :: es) X.env = (false, eval e X.env) :: starEach es X.env := by rfl) (hpl : (backTo pos' (starEach es X.env)).any (·.1) = false := by rfl)
    (ht : eval (.Call (.Attribute o m apos) (e :: es) [] pos') X.env = (do
      let ov ← eval o X.env
      standAt apos.atName
      let (f, first) ← holding [ov] (getMethod ov m pl)
      callWith pos' f first (backTo pos' (starEach (e :: es) X.env)) (backToKw pos' (keywordEach [] X.env))) := by rfl) :
    PE X (.Call (.Attribute o m apos) (e :: es) [] pos') (tMethS C m sp E ta t) := by
  refine ⟨fun pins s σ H Q I h => ?_⟩
  refine PySem.W.methodCall_KW (pl := pl) (thn (he.run pins s σ H _ I h) fun u s1 ⟨x, H1, I1, rx, a, dx, fs, ex, ea, l, q⟩ => ?_) ht
  subst ex
  obtain rfl : u = Value.ref a := rx
  refine getmeth_ok I1 ea c hm l ?_
  refine PySem.W.callWith_K (first := [.ref a]) (h₀ := X.base) I.ok.mod.kin hm.kp (thn (ha.run pos' pins s1 σ H1 _ I1 q) fun us s2 ⟨vs, H2, I2, r, q2⟩ => ⟨I2.kIn, ?_⟩) hst hpl
  exact run_fnS (us := .ref a :: us) (vs := .ref a :: vs) F hr hb (hx σ) I2 (.cons rfl r) q2
end
def spChkX (C CI : Addr) (K : PySem.W.Frag) : Sp := fun vs H _ E => ∃ (r : Addr) (tr : List E2) (v : V), vs = [.ref r, v] ∧ RailAt C H r tr ∧ IV K H v ∧ inR v 0 tr.length = false ∧ ∀ d, H d = none → E (.ref CI) (some d) (upd H d (.xd [("value", v)]))
def spPathX (C CI : Addr) (K : PySem.W.Frag) : Sp := fun vs H _ E => ∃ (r : Addr) (tr : List E2) (u v : V), vs = [.ref r, u, v] ∧ RailAt C H r tr ∧
  ((IV K H u ∧ inR u 0 tr.length = false ∧ ∀ d, H d = none → E (.ref CI) (some d) (upd H d (.xd [("value", u)]))) ∨
    ∃ a : Nat, u = iv a ∧ a ≤ tr.length ∧ IV K H v ∧ inR v 0 tr.length = false ∧ ∀ d, H d = none → E (.ref CI) (some d) (upd H d (.xd [("value", v)])))
section
variable {P : Program} {w : World} {K : PySem.W.Frag} {mg : Str → Option Value} {base : Heap}
theorem ok_chkX {f fI C CI : Addr} {fd fdI : FuncData} (F : Fun K "check_station" "check_station" s_check_station f fd) (U : Use P w K mg base CX0 3 "is_station" fI fdI ["railway", "value"] (spIsSt C K)) (Z : RzC P w K mg base "InvalidStation" CI "value") :
    FnOk P w K mg base (L2.CX P w) 4 f fd ["railway", "station"] (spChkX C CI K) := by
  refine L2.Fun.okX F sc_chk (fun vs H Q E h => ?_) (fun cdv A outer s H vs Q E hr h => ?_)
  · obtain ⟨r, tr, v, rfl, _⟩ := h
    rfl
  · obtain ⟨r, tr, v, rfl, R, hv, hn, k⟩ := h
    obtain ⟨fI, fdI, i1, i2, F1, b1⟩ := Z.ex
    refine ⟨_, pss_one (ps_if (pt_not (pt_val (pe_use U hr rfl (pa_cons (pv 0) (pa_cons (pv 1) pa_nil))))) (pss_one (ps_raise rfl (takes_of rfl rfl rfl rfl) (pmk_oxg Z.ox i1 i2 F1 (hr.mono (by decide)) b1 .nil pass0 rfl Z.mgC (pa_cons (pv 1) pa_nil)))) pss_nil), ?_⟩
    refine ⟨_, rfl, _, rfl, r, tr, _, rfl, R, hv, _, rfl, ?_⟩
    rw [hn]
    refine iteT ?_
    exact ⟨_, rfl, rz_end k⟩
theorem sc_nbr0 : FnScope ["self", "station"] ["self", "station"] (defScope s_Railway_neighbours) := ⟨rfl, rfl, rfl, by decide +kernel, rfl, by decide +kernel, by decide +kernel⟩
/-- check_station, as a def that may raise -/
structure UseX (P : Program) (w : World) (K : PySem.W.Frag) (mg : Str → Option Value) (base : Heap) (k : Nat) (x : Str) (f : Addr) (fd : FuncData) (ps : List Str) (sp : Sp) : Prop where
  G : FnOk P w K mg base (L2.CX P w) k f fd ps sp
  m : mg x = some (.ref f)
  kp : PySem.W.keepIn K (.ref f) = true
  b : Binds K fd ps []
theorem ok_nbrX {f fc C CI : Addr} {fd fdc : FuncData} (F : Fun K "neighbours" "Railway.neighbours" s_Railway_neighbours f fd) (U : UseX P w K mg base 4 "check_station" fc fdc ["railway", "station"] (spChkX C CI K)) : FnOk P w K mg base (L2.CX P w) 5 f fd ["self", "station"] (spChkX C CI K) := by
  refine L2.Fun.okX F sc_nbr0 (fun vs H Q E h => ?_) (fun cdv A outer s H vs Q E hr h => ?_)
  · obtain ⟨r, tr, v, rfl, _⟩ := h
    rfl
  · obtain ⟨r, tr, v, rfl, R, hv, hn, k⟩ := h
    refine ⟨_, pss_cons (ps_expr (pe_call U.G hr rfl U.m U.kp U.b .nil (passes_call (takes_of rfl rfl rfl rfl) (fun _ _ _ _ h => h)) (pa_cons (pv 0) (pa_cons (pv 1) pa_nil)))) L2.pss_never, ?_⟩
    exact ⟨_, rfl, _, rfl, r, tr, v, rfl, R, hv, hn, k⟩
theorem ok_pathX {f fc C CI : Addr} {fd fdc : FuncData} (F : Fun K "path" "Railway.path" s_Railway_path f fd) (U : UseX P w K mg base 4 "check_station" fc fdc ["railway", "station"] (spChkX C CI K)) (U0 : Use P w K mg base CX0 4 "check_station" fc fdc ["railway", "station"] (spChkSt C)) :
    FnOk P w K mg base (L2.CX P w) 5 f fd ["self", "one", "other"] (spPathX C CI K) := by
  refine L2.Fun.okX F sc_path (fun vs H Q E h => ?_) (fun cdv A outer s H vs Q E hr h => ?_)
  · obtain ⟨r, tr, u, v, rfl, _⟩ := h
    rfl
  · obtain ⟨r, tr, u, v, rfl, R, h | ⟨a, rfl, ha, hv, hn, k⟩⟩ := h
    · obtain ⟨hv, hn, k⟩ := h
      refine ⟨_, pss_cons (ps_expr (pe_call U.G hr rfl U.m U.kp U.b .nil (passes_call (takes_of rfl rfl rfl rfl) (fun _ _ _ _ h => h)) (pa_cons (pv 0) (pa_cons (pv 1) pa_nil)))) L2.pss_never, ?_⟩
      exact ⟨_, rfl, _, rfl, r, tr, u, rfl, R, hv, hn, k⟩
    · refine ⟨_, pss_cons (ps_expr (pe_use U0 hr rfl (pa_cons (pv 0) (pa_cons (pv 1) pa_nil)))) (pss_cons (ps_expr (pe_call U.G hr rfl U.m U.kp U.b .nil (passes_call (takes_of rfl rfl rfl rfl) (fun _ _ _ _ h => h)) (pa_cons (pv 0) (pa_cons (pv 2) pa_nil)))) L2.pss_never), ?_⟩
      refine ⟨_, rfl, _, rfl, r, tr, a, rfl, R, ha, ?_⟩
      exact ⟨_, rfl, _, rfl, r, tr, v, rfl, R, hv, hn, k⟩
theorem sc_dist : FnScope ["self", "one", "other"] ["self", "one", "other"] (defScope s_Railway_distance) := ⟨rfl, rfl, rfl, by decide +kernel, rfl, by decide +kernel, by decide +kernel⟩
def spDist (C : Addr) : Sp := fun vs H Q _ => ∃ (r : Addr) (tr : List E2) (a b : Nat), vs = [.ref r, iv a, iv b] ∧ RailAt C H r tr ∧ a ≤ tr.length ∧ b ≤ tr.length ∧
  ∀ (l : List Nat) (H' : Hp), SW tr a b l → Same H H' → Q (.int ((l.length : Int) - 1)) H'
theorem ok_dist {f fp C : Addr} {fd fdp : FuncData} (F : Fun K "distance" "Railway.distance" s_Railway_distance f fd) (N : Nm mg) (X : TxtR K mg C) (m : Meth K C "path" fp) (G : FnOk P w K mg base CX0 5 fp fdp ["self", "one", "other"] (spPath C)) (bp : Binds K fdp ["self", "one", "other"] []) :
    FnOk P w K mg base CX0 6 f fd ["self", "one", "other"] (spDist C) := by
  refine F.ok sc_dist (fun vs H Q E h => ?_) (fun cdv A outer s H vs Q E hr h => ?_)
  · obtain ⟨r, tr, a, b, rfl, _⟩ := h
    rfl
  · obtain ⟨r, tr, a, b, rfl, R, ha, hb, k⟩ := h
    refine ⟨_, pss_one (ps_ret (pe_op op_sub (pe_callB call_len_seq (by rfl) N.len PySem.boot_len (pa_cons (pe_meth (pv 0) X.cl m G hr bp .nil pass0 (pa_cons (pv 1) (pa_cons (pv 2) pa_nil))) pa_nil)) pe_int)), ?_⟩
    obtain ⟨T, few, dx, tt, na, Aa, L, ps, ts, h1, h2⟩ := id R
    refine ⟨_, rfl, r, dx, _, rfl, h1, flR_no (by decide +kernel) (by decide +kernel) (by decide +kernel) (by decide +kernel), _, rfl, _, rfl, r, tr, a, b, rfl, R, ha, hb, fun l p H' sw s1 np hp => ?_⟩
    refine ⟨p, _, rfl, .inr (SqT.of hp), _, _, rfl, rfl, ?_⟩
    have q := k l H' sw s1
    rw [List.length_map]
    exact q
theorem ok_distX {f fp C CI : Addr} {fd fdp : FuncData} (F : Fun K "distance" "Railway.distance" s_Railway_distance f fd) (N : Nm mg) (X : TxtR K mg C) (m : Meth K C "path" fp) (G : FnOk P w K mg base (L2.CX P w) 5 fp fdp ["self", "one", "other"] (spPathX C CI K)) (bp : Binds K fdp ["self", "one", "other"] []) :
    FnOk P w K mg base (L2.CX P w) 6 f fd ["self", "one", "other"] (spPathX C CI K) := by
  refine L2.Fun.okX F sc_dist (fun vs H Q E h => ?_) (fun cdv A outer s H vs Q E hr h => ?_)
  · obtain ⟨r, tr, u, v, rfl, _⟩ := h
    rfl
  · obtain ⟨r, tr, u, v, rfl, R, h⟩ := h
    refine ⟨_, pss_one (ps_ret (pe_op op_sub (pe_callB call_len_seq (by rfl) N.len PySem.boot_len (pa_cons (pe_meth (pv 0) X.cl m G hr bp .nil (passes_call (takes_of rfl rfl rfl rfl) (fun _ _ _ _ h => h)) (pa_cons (pv 1) (pa_cons (pv 2) pa_nil))) pa_nil)) pe_int)), ?_⟩
    obtain ⟨T, few, dx, tt, na, Aa, L, ps, ts, h1, h2⟩ := id R
    exact ⟨_, rfl, r, dx, _, rfl, h1, flR_no (by decide +kernel) (by decide +kernel) (by decide +kernel) (by decide +kernel), _, rfl, _, rfl, r, tr, u, v, rfl, R, h⟩
end
end TR

namespace L2.TT
open PySem PySem.Spec PyProof.Rows PySem.W
/-- repr(t), t a tuple -/
def rReprT (K : Frag) : List V → Hp → VK → Prop := fun xs H Q => ∃ (a : Addr) (vs : List V) (ds : List PyData), xs = [.ref a] ∧ SqT K H a vs ∧ DL K H vs ds ∧ PyData.showableAll ds = true ∧ PyData.leavesShortAll 13 ds = true ∧ PyData.weightAll ds ≤ 1000000 ∧ PyData.depthAll ds ≤ 20 ∧
  Q (.str (PyData.shown (.tuple ds))) H
theorem call_reprT {X : Cx} (hg : X.A.guards = some []) (hu : X.A.units + 64 < cLine) : CallR X (.builtin "repr") (rReprT X.K) := by
  intro pins s σ H xs us Q I r h
  obtain ⟨a, vs, ds, rfl, hl, hd, hs, hb, hw, hp, q⟩ := h
  obtain rfl := Vals.ref1 r
  obtain ⟨its, rv, ⟨o, ho, hc, n, hda⟩, hz⟩ := I.tuple hl
  obtain ⟨as, h4, hsm⟩ := hd.reads I rv
  have fit : (PyData.shown (.tuple ds)).length ≤ sizeLine := PyData.shown_fits (B := 13) (by decide) (by decide) (by simpa only [PyData.leavesShort] using hb) (by
    simp only [PyData.weight]
    omega)
  have hz' : (tupleText (PyData.shownAll ds)).length ≤ sizeLine := by simpa only [PyData.shown] using fit
  obtain ⟨bs, hbs, hk⟩ := ReprAllK.of_readsAll (prog := X.prog) (w := X.w) h4 hs hsm (fun t ht => Nat.le_trans (tupleText_mem_le ht) hz')
  have hna : a ∉ bs := not_mem_of_deeper (.tuple ho hc hda h4) (by simp only [PyData.depth]; omega) hbs
  simp only [PyData.shown] at q
  refine call_repr_slot (by omega) ⟨o, ho, hc⟩ F.slot_tuple_repr ?_
  refine call_tuple_reprK ho hc hda hna (by simpa using hk) hg (fun b _ => Clear.nil b) (by show X.A.units + 1 + _ < cLine; omega) (fun _ _ e => e) (fun h' u tk k => ?_) hz'
  exact ⟨_, _, rfl, .str (tupleText (PyData.shownAll ds)), H, I.kept k, ⟨u, rfl⟩, q⟩
/-- repr(xs), xs a short list with longer leaves -/
def rRepr60 (K : Frag) : List V → Hp → VK → Prop := fun xs H Q => ∃ (a : Addr) (vs : List V) (ds : List PyData), xs = [.ref a] ∧ SqL K H a vs ∧ DL K H vs ds ∧ PyData.showableAll ds = true ∧ PyData.leavesShortAll 60 ds = true ∧ PyData.weightAll ds ≤ 1000 ∧ PyData.depthAll ds ≤ 20 ∧
  Q (.str (PyData.shown (.list ds))) H
theorem call_repr60 {X : Cx} (hg : X.A.guards = some []) (hu : X.A.units + 64 < cLine) : CallR X (.builtin "repr") (rRepr60 X.K) := by
  intro pins s σ H xs us Q I r h
  obtain ⟨a, vs, ds, rfl, hl, hd, hs, hb, hw, hp, q⟩ := h
  obtain rfl := Vals.ref1 r
  obtain ⟨its, rv, ⟨o, n, ho, hc, hdn, hda⟩, hz⟩ := I.list hl
  obtain ⟨as, h4, hsm⟩ := hd.reads I rv
  have fit : (PyData.shown (.list ds)).length ≤ sizeLine := by
    have h := PyData.shown_le 60 (by decide) (.list ds) (by simpa only [PyData.leavesShort] using hb)
    have hw2 : (PyData.list ds).weight ≤ 1010 := by
      simp only [PyData.weight]
      omega
    rw [sizeLine_eq]
    omega
  have hz' : (listText (PyData.shownAll ds)).length ≤ sizeLine := by simpa only [PyData.shown] using fit
  obtain ⟨bs, hbs, hk⟩ := ReprAllK.of_readsAll (prog := X.prog) (w := X.w) h4 hs hsm (fun t ht => Nat.le_trans (listText_mem_le ht) hz')
  have hna : a ∉ bs := not_mem_of_deeper (.list ho hc hda h4) (by simp only [PyData.depth]; omega) hbs
  simp only [PyData.shown] at q
  refine call_repr_slot (by omega) ⟨o, ho, hc⟩ F.slot_list_repr.toG ?_
  cases its with
  | nil =>
    cases h4
    simp only [PyData.shownAll, listText_nil] at q
    refine call_list_repr_empty (s := s) ⟨o, ho, hc⟩ ho hda ?_
    exact ⟨_, _, rfl, .str "[]", H, I.tok _, ⟨_, rfl⟩, q⟩
  | cons x l =>
    refine call_list_reprK ho hc hda hna (by simpa using hk.length_eq) (fun i y e => hk.item i y (by simpa using e)) hg (fun b _ => Clear.nil b) (by show X.A.units + 1 + _ < cLine; omega) (fun _ _ e => e) (fun h' u tk k => ?_) hz'
    exact ⟨_, _, rfl, .str (listText (PyData.shownAll ds)), H, I.kept k, ⟨u, rfl⟩, q⟩
/-- len(set(t)), t a tuple of different ints -/
def tLenSetT (K : Frag) (ta : TE) : TE := fun σ H Q => ta σ H fun x H1 => ∃ (l : Addr) (ns : List Int), x = .ref l ∧ SqT K H1 l (ns.map V.int) ∧ ns.Nodup ∧ ns.length ≤ 4000 ∧ Q (.int (ns.length : Nat)) H1
theorem pe_lenSetT {X : Cx} {a : Expr} {ta : TE} {p p2 q pos : Pos} (hg : Gl X "len") (hm : X.mg "len" = none) (hg2 : Gl X "set") (hm2 : X.mg "set" = none) (ha : PE X a ta) (hc : X.calm = true := by rfl)
    (na : starEach [a] X.env = (false, eval a X.env) :: starEach [] X.env := by rfl) : PE X (.Call (.Name "len" p) [.Call (.Name "set" p2) [a] [] q] [] pos) (tLenSetT X.K ta) := by
  refine ⟨fun pins s σ H Q I h => ?_⟩
  refine Call_ (ld_blt I hg hm boot_len ?_)
  refine PyProof.Rows.callWith_builtin1 (PyProof.Rows.args_cons ?_ rfl) rfl rfl
  refine Call_ (ld_blt I hg2 hm2 boot_set ?_)
  refine PyProof.Rows.callWith_type1 (PyProof.Rows.args_cons (thn (ha.run pins s σ H _ I h) fun v s1 ⟨x, H1, I1, r1, q1⟩ => PyProof.Rows.args_nil ?_) na) na rfl
  obtain ⟨l, ns, rfl, hq, hnd, hl, q1⟩ := q1
  cases r1
  obtain ⟨its, r, pt, hz⟩ := I1.tuple hq
  refine call_set_tupI ns (I1.ok.hd hc) (show s1.heap.IsTuple l its.toArray from pt) (by simpa using RZ.intsAre_vals r) (by unfold scanBound; omega) fun h' tk c R1 hcn hk => ?_
  refine PyProof.Rows.args_nil ?_
  obtain ⟨o, es, ep, t, ho, hex, hd, g, nd, hm3, hb, hf, hn, hr, hl2⟩ := R1
  have I2 : Inv X pins σ H1 { s1 with heap := h', toks := tk } := I1.kept fun b o e => hk b o e
  have he : es.size = ns.length := by
    have hp : (es.toList.map keyOf).Perm ns := (List.perm_ext_iff_of_nodup nd hnd).mpr fun j => by rw [← hm3 j, decide_eq_true_eq]
    have := hp.length_eq
    rw [List.length_map, Array.length_toList] at this
    exact this
  exact call_len_set ho hex hd hf (by rw [he] <;> omega) ⟨.int ns.length, H1, I2.tok _, ⟨_, by rw [he]⟩, q1⟩
section
variable {X : Cx} {CX : CXT} {k : Nat} {f C : Addr} {fd : FuncData} {ps ks : List Str} {sp : Sp} {E : XK} {m : Str} {apos pos : Pos} {o : Expr} {kws : List Keyword} {ta : TE} {tk : TA}
/-- o.m(k = v, ..), all by name -/
def tMethKW (C : Addr) (m : Str) (mm : Nat) (sp : Sp) (gV : List V → List V) (E : XK) (ta : TE) (tk : TA) : TE := fun σ H Q => ta σ H fun x H1 => ∃ a dx fs, x = .ref a ∧ H1 a = some (.ins C dx fs) ∧ fs.lookup m = none ∧ tk σ H1 fun zs H2 => zs.length = mm ∧ sp (x :: gV zs) H2 Q E
theorem pe_methKW0 {pl : Sem Bool} {gg : List Value → List Value} {hV : List V → List V} (he : PE X o ta) (c : Cls X.K C) (hm : Meth X.K C m f) (F : FnOk X.prog X.w X.K X.mg X.base CX k f fd ps sp) (hr : Room k X.A)
    (hb : ∀ (s : Shared) (a : Value) (ws : List Value), X.K.In s.heap → ws.length = ks.length → BindsTo s fd ⟨[a], ks.zip ws⟩ (ps.zip (a :: gg ws))) (hrel : ∀ {zs : List V} {ws : List Value}, zs.length = ks.length → Vals zs ws → Vals (hV zs) (gg ws))
    (hx : Passes CX X E) (hkw : PK X kws tk)
    (hall : (backToKw pos (keywordEach kws X.env)).all (·.1.isSome) = true := by rfl) (hks : (backToKw pos (keywordEach kws X.env)).filterMap (·.1) = ks := by rfl)
    (hpl : ((backTo pos (starEach [] X.env)).any (·.1) || (backToKw pos (keywordEach kws X.env)).any (·.1.isNone)) = false := by rfl)
    (ht : eval (.Call (.Attribute o m apos) [] kws pos) X.env = (do
      let ov ← eval o X.env
      standAt apos.atName
      let (f, first) ← holding [ov] (getMethod ov m pl)
      callWith pos f first (backTo pos (starEach [] X.env)) (backToKw pos (keywordEach kws X.env))) := by rfl) :
    PE X (.Call (.Attribute o m apos) [] kws pos) (tMethKW C m ks.length sp hV E ta tk) := by
  refine ⟨fun pins s σ H Q I h => ?_⟩
  refine PySem.W.methodCall_KW (pl := pl) (thn (he.run pins s σ H _ I h) fun u s1 ⟨x, H1, I1, rx, a, dx, fs, ex, ea, l, q⟩ => ?_) ht
  subst ex
  obtain rfl : u = Value.ref a := rx
  refine getmeth_ok I1 ea c hm l ?_
  refine PySem.W.callWith_KW0 (first := [.ref a]) (h₀ := X.base) I.ok.mod.kin hm.kp hall ?_ hpl
  refine thn (hkw.run pos pins s1 σ H1 _ I1 q) fun ws s2 ⟨zs, H2, I2, rz, l2, q2⟩ => ⟨I2.kIn, ?_⟩
  rw [hks]
  have lw : ws.length = ks.length := rz.length.symm.trans l2
  refine wpAny_call (codeAny_mono (F.run X.A X.stack s2 H2 ⟨[.ref a], ks.zip ws⟩ (.ref a :: gg ws) (.ref a :: hV zs) Q E hr I2.env0 (hb s2 _ ws I2.kIn lw) (.cons rfl (hrel l2 rz)) q2) fun r s' hq => ?_)
  cases r with
  | error er => exact hx pins σ H2 s2 er s' I2 hq
  | ok fl =>
    cases fl with
    | ret u => exact I2.after hq
    | next => exact False.elim hq
    | brk => exact False.elim hq
    | cont => exact False.elim hq
end
theorem Fun.kbM {K : PySem.W.Frag} {x qual : Str} {st : Stmt} {f : Addr} {fd : FuncData} {ps ks : List Str} {gg : List Value → List Value} (F : Fun K x qual st f fd)
    (h : ∀ (kV doc pm : Value) (an : Option Addr) (cdv ct : Value) (a : Value) (ws : List Value), ws.length = ks.length → bindArgs (PySem.W.fnOf x qual (defArgs st) (defBody st) (defScope st) .none kV doc pm an cdv ct) ⟨[a], ks.zip ws⟩ = pure (ps.zip (a :: gg ws))) :
    ∀ (s : Shared) (a : Value) (ws : List Value), K.In s.heap → ws.length = ks.length → BindsTo s fd ⟨[a], ks.zip ws⟩ (ps.zip (a :: gg ws)) := by
  obtain ⟨oc, od, kV, doc, pm, an, cdv, ct, osl, rfl, lk, hcd⟩ := F.ex
  exact fun s a ws _ hl => .of_eq (h kV doc pm an cdv ct a ws hl)
end L2.TT

namespace TR
open PySem PySem.Spec PyProof.Rows L2 L2.TT StX ClX
theorem pg_tupK {X : Cx} {K : PySem.W.Frag} {es : List Expr} {k n : Nat} {pos : Pos} {t : TGs} (hK : X.K = K) (hc : X.calm = true) (ht : PGs X es t) (hn : (assignEach es X.env).length = n) (hst : (assignEach es X.env).findIdx? (·.1) = none := by rfl) : PG X (.Tuple es k pos) (gTup K n t) := by
  subst hK
  exact pg_tup hc ht hn hst
theorem pi_tupK {X : Cx} {K : PySem.W.Frag} {tg l : Expr} {tl : TE} (hK : X.K = K) (hl : PE X l tl) : PI X tg l (iTup K tl) := by
  subst hK
  exact pi_tup hl
def spNbr (C : Addr) : Sp := fun vs H Q _ => ∃ (r : Addr) (tr : List E2) (v : Nat), vs = [.ref r, iv v] ∧ RailAt C H r tr ∧ v ≤ tr.length ∧ ∀ t, H t = some (.tup ((nb tr v).map iv)) → Q (.ref t) H
section
variable {P : Program} {w : World} {K : PySem.W.Frag} {mg : Str → Option Value} {base : Heap}
theorem sc_nbr : FnScope ["self", "station"] ["self", "station"] (defScope s_Railway_neighbours) := ⟨rfl, rfl, rfl, by decide +kernel, rfl, by decide +kernel, by decide +kernel⟩
theorem ok_nbr {f fc C : Addr} {fd fdc : FuncData} (F : Fun K "neighbours" "Railway.neighbours" s_Railway_neighbours f fd) (X : TxtR K mg C) (U : Use P w K mg base CX0 4 "check_station" fc fdc ["railway", "station"] (spChkSt C)) : FnOk P w K mg base CX0 5 f fd ["self", "station"] (spNbr C) := by
  refine F.ok sc_nbr (fun vs H Q E h => ?_) (fun cdv A outer s H vs Q E hr h => ?_)
  · obtain ⟨r, tr, v, rfl, _⟩ := h
    rfl
  · obtain ⟨r, tr, v, rfl, R, hv, k⟩ := h
    refine ⟨_, pss_cons (ps_expr (pe_use U hr rfl (pa_cons (pv 0) (pa_cons (pv 1) pa_nil)))) (pss_one (ps_ret (pe_ix ix_list (pe_fld (pv 0) rfl) (pv 1) (fun _ _ => rfl)))), ?_⟩
    obtain ⟨T, few, dx, tt, na, Aa, L, ps, ts, h1, h2, h3, h4, h5, h6, h7, h8⟩ := id R
    obtain ⟨t, ht⟩ : ∃ t, ts[v]? = some t := ⟨_, List.getElem?_eq_getElem (by omega)⟩
    exact ⟨_, rfl, _, rfl, r, tr, v, rfl, R, hv, _, rfl, r, C, dx, _, _, rfl, h1, X.cl, X.nN, flR_n, _, rfl, na, _, _, _, rfl, rfl, SqL.of h4, atN (map_get ht), k t (h6 v t ht)⟩
end
end TR

namespace TR
open PySem PySem.Spec PyProof.Rows L2 L2.TT StX ClX
/-- the list [t, t], t a tuple of such ints, may be shown -/
theorem shw_two {l m : List Nat} (h : Shw l) (h2 : Shw m) (hl : l.length ≤ 1000) (hm : m.length ≤ 1000) : PyData.canLayAll0 [.tuple (l.map di), .tuple (m.map di)] = true ∧ PyData.showableAll [.tuple (l.map di), .tuple (m.map di)] = true ∧ PyData.leavesShortAll 13 [.tuple (l.map di), .tuple (m.map di)] = true ∧
    PyData.weightAll [.tuple (l.map di), .tuple (m.map di)] ≤ 1000000 ∧ PyData.depthAll [.tuple (l.map di), .tuple (m.map di)] ≤ 20 := by
  refine ⟨?_, ?_, ?_, ?_, ?_⟩
  · show (PyData.canLayAll0 (l.map di) && (PyData.canLayAll0 (m.map di) && true)) = true
    rw [canLay_ints, canLay_ints]
    rfl
  · show (PyData.showableAll (l.map di) && (PyData.showableAll (m.map di) && true)) = true
    rw [h.sh, h2.sh]
    rfl
  · show (PyData.leavesShortAll 13 (l.map di) && (PyData.leavesShortAll 13 (m.map di) && true)) = true
    rw [h.lv, h2.lv]
    rfl
  · show PyData.weightAll (l.map di) + 1 + (PyData.weightAll (m.map di) + 1 + 0) ≤ 1000000
    have := h.wt
    have := h2.wt
    omega
  · show max (PyData.depthAll (l.map di) + 1) (max (PyData.depthAll (m.map di) + 1) 0) ≤ 20
    rw [h.dp, h2.dp]
    decide
theorem shw_ints {i j : Int} (h1 : -1000 ≤ i) (h2 : i ≤ 1000) (h3 : -1000 ≤ j) (h4 : j ≤ 1000) : PyData.canLayAll0 [.int i, .int j] = true ∧ PyData.showableAll [.int i, .int j] = true ∧ PyData.leavesShortAll 13 [.int i, .int j] = true ∧ PyData.weightAll [.int i, .int j] ≤ 1000000 ∧ PyData.depthAll [.int i, .int j] ≤ 20 := by
  obtain ⟨a1, a2, a3, a4⟩ := int_show h1 h2
  obtain ⟨b1, b2, b3, b4⟩ := int_show h3 h4
  refine ⟨rfl, ?_, ?_, ?_, ?_⟩
  · show (PyData.showable (.int i) && (PyData.showable (.int j) && true)) = true
    rw [a1, b1]
    rfl
  · show (PyData.leavesShort 13 (.int i) && (PyData.leavesShort 13 (.int j) && true)) = true
    rw [a2, b2]
    rfl
  · show PyData.weight (.int i) + 1 + (PyData.weight (.int j) + 1 + 0) ≤ 1000000
    omega
  · show max (PyData.depth (.int i)) (max (PyData.depth (.int j)) 0) ≤ 20
    rw [a4, b4]
    decide
section
variable {P : Program} {w : World} {K : PySem.W.Frag} {mg : Str → Option Value} {base : Heap}
/-- a def that is called by name too -/
structure UseK (P : Program) (w : World) (K : PySem.W.Frag) (mg : Str → Option Value) (base : Heap) (k : Nat) (x : Str) (f : Addr) (fd : FuncData) (ps ks : List Str) (gg : List Value → List Value) (sp : Sp) : Prop extends Use P w K mg base CX0 k x f fd ps sp where
  kb : ∀ (s : Shared) (ws : List Value), K.In s.heap → ws.length = ks.length → BindsTo s fd ⟨[], ks.zip ws⟩ (ps.zip (gg ws))
end
theorem passF {X : Cx} : Passes (CX X.prog X.w) X (fun _ _ _ => False) := fun _ _ _ _ _ _ _ c => by
  obtain ⟨_, _, _, _, _, _, _, _, _, _, _, _, h⟩ := c
  exact h.elim
def rLenK (K : PySem.W.Frag) : List V → Hp → VK → Prop := fun xs H Q => ∃ p ys, xs = [V.ref p] ∧ (SqL K H p ys ∨ SqT K H p ys) ∧ Q (V.int (ys.length : Int)) H
theorem cl_K {X : Cx} {K : PySem.W.Frag} (h : X.K = K) : CallR X (.builtin "len") (rLenK K) := by
  subst h
  exact call_len_seq
def dpr (e : E2) : PyData := .tuple ([e.1, e.2].map di)
theorem dpAll_prs {K : PySem.W.Frag} {H : Hp} : ∀ {ps : List Addr} {l : List E2}, Prs H ps l → DpAll K H (ps.map V.ref) (l.map dpr)
  | [], [], _ => .nil
  | [], _ :: _, h => by cases h.1
  | _ :: _, [], h => by cases h.1
  | p :: ps, e :: l, h => by
    have h0 := h.2 0 p e rfl rfl
    exact .cons (.tup (SqT.of h0) (dpAll_ints [e.1, e.2])) (dpAll_prs ⟨Nat.succ.inj h.1, fun i q d a b => h.2 (i + 1) q d a b⟩)
structure ShwP (l : List E2) : Prop where
  cl : PyData.canLayAll0 (l.map dpr) = true
  sh : PyData.showableAll (l.map dpr) = true
  lv : PyData.leavesShortAll 13 (l.map dpr) = true
  wt : PyData.weightAll (l.map dpr) ≤ 40 * l.length
  dp : PyData.depthAll (l.map dpr) ≤ 1
theorem shwP_of : ∀ {l : List E2}, (∀ e ∈ l, e.1 ≤ 999 ∧ e.2 ≤ 999) → ShwP l
  | [], _ => ⟨rfl, rfl, rfl, Nat.le_refl _, Nat.zero_le _⟩
  | e :: l, h => by
    have ih := shwP_of (l := l) fun z hz => h z (List.mem_cons_of_mem _ hz)
    obtain ⟨h1, h2⟩ := h e (by simp)
    have s := shw_of (l := [e.1, e.2]) fun z hz => by
      simp only [List.mem_cons, List.not_mem_nil, or_false] at hz
      omega
    refine ⟨?_, ?_, ?_, ?_, ?_⟩
    · show (PyData.canLayAll0 ([e.1, e.2].map di) && PyData.canLayAll0 (l.map dpr)) = true
      rw [canLay_ints, ih.cl]
      rfl
    · show (PyData.showableAll ([e.1, e.2].map di) && PyData.showableAll (l.map dpr)) = true
      rw [s.sh, ih.sh]
      rfl
    · show (PyData.leavesShortAll 13 ([e.1, e.2].map di) && PyData.leavesShortAll 13 (l.map dpr)) = true
      rw [s.lv, ih.lv]
      rfl
    · show PyData.weightAll ([e.1, e.2].map di) + 1 + PyData.weightAll (l.map dpr) ≤ 40 * (l.length + 1)
      have := ih.wt
      have := s.wt
      have : [e.1, e.2].length = 2 := rfl
      omega
    · show max (PyData.depthAll ([e.1, e.2].map di) + 1) (PyData.depthAll (l.map dpr)) ≤ 1
      rw [s.dp]
      have := ih.dp
      omega
def rv3 {α : Type} : List α → List α
  | [a, b, c] => [c, b, a]
  | l => l
theorem rv3_vals {zs : List V} {ws : List Value} (hl : zs.length = 3) (r : Vals zs ws) : Vals (rv3 zs) (rv3 ws) := by
  cases r with
  | nil => cases hl
  | cons r1 r =>
    cases r with
    | nil => cases hl
    | cons r2 r =>
      cases r with
      | nil => cases hl
      | cons r3 r =>
        cases r with
        | nil => exact .cons r3 (.cons r2 (.cons r1 .nil))
        | cons r4 r => exact absurd hl (by simp)
theorem SW.take {tr : List E2} {a b x m : Nat} {l : List Nat} (s : SW tr a b l) (h : l[m]? = some x) : SW tr a x (l.take (m + 1)) := by
  have hm := (List.getElem?_eq_some_iff.mp h).1
  refine ⟨wk_pre (r := l.drop (m + 1)) (by rw [List.take_append_drop]; exact s.wk), s.nd.sublist (List.take_sublist _ _), ?_, ?_⟩
  · rw [List.head?_take, if_neg (by omega)]
    exact s.hd
  · rw [List.take_add_one, h]
    simp
theorem SW.drop {tr : List E2} {a b x k : Nat} {l : List Nat} (s : SW tr a b l) (h : l[k]? = some x) : SW tr x b (l.drop k) := by
  have hk := (List.getElem?_eq_some_iff.mp h)
  have e : l.drop k = x :: l.drop (k + 1) := by rw [List.drop_eq_getElem_cons hk.1, hk.2]
  rw [e]
  refine SW.part (l := l.take k) (a := a) ?_
  rw [← e, List.take_append_drop]
  exact s
theorem sw_two {tr : List E2} {a b : Nat} {l : List Nat} (s : SW tr a b l) (h : a ≠ b) : 2 ≤ l.length := by
  match l, s with
  | [], s => cases s.hd
  | [x], s =>
    have e1 : x = a := Option.some.inj s.hd
    have e2 : x = b := Option.some.inj s.lt
    exact absurd (e1.symm.trans e2) h
  | _ :: _ :: _, _ => simp
theorem sw_at0 {tr : List E2} {a b : Nat} {l : List Nat} (s : SW tr a b l) : l[0]? = some a := by
  rw [← List.head?_eq_getElem?]
  exact s.hd
theorem sw_atl {tr : List E2} {a b : Nat} {l : List Nat} (s : SW tr a b l) : l[l.length - 1]? = some b := by
  rw [← List.getLast?_eq_getElem?]
  exact s.lt
theorem sw_ne {tr : List E2} {a b x y i j : Nat} {l : List Nat} (s : SW tr a b l) (h1 : l[i]? = some x) (h2 : l[j]? = some y) (h : i ≠ j) : x ≠ y := by
  rintro rfl
  exact h ((idxOf_get s.nd h1).symm.trans (idxOf_get s.nd h2))
theorem eqvAll_refl_ints (l : List Nat) : PyData.eqv (.tuple (l.map di)) (.tuple (l.map di)) = true := eqvAll_ints l
theorem prs4 {H : Hp} {a b c d : Addr} {e f g h : E2} (h1 : H a = some (.tup [iv e.1, iv e.2])) (h2 : H b = some (.tup [iv f.1, iv f.2])) (h3 : H c = some (.tup [iv g.1, iv g.2])) (h4 : H d = some (.tup [iv h.1, iv h.2])) : Prs H [a, b, c, d] [e, f, g, h] := by
  refine ⟨rfl, fun i p q z1 z2 => ?_⟩
  match i, z1, z2 with
  | 0, z1, z2 => cases z1; cases z2; exact h1
  | 1, z1, z2 => cases z1; cases z2; exact h2
  | 2, z1, z2 => cases z1; cases z2; exact h3
  | 3, z1, z2 => cases z1; cases z2; exact h4
/-- what the value is told of stands locked from here on -/
def tFrz (te : TE) : TE := fun σ H Q => te σ H fun x H1 => ∃ d u, x = .ref d ∧ H1 d = some u ∧ Mut (some u) ∧ ∀ od, Q x (upd H1 d (.frz od u))
theorem pe_frz {X : Cx} {e : Expr} {te : TE} (he : PE X e te) : PE X e (tFrz te) :=
  ⟨fun pins s σ H Q I h => thn (he.run pins s σ H _ I h) fun v s1 ⟨x, H1, I1, r, d, u, ex, hd, mu, q⟩ => by
    obtain ⟨od, I2⟩ := I1.lock hd mu
    exact ⟨x, _, I2, r, q od⟩⟩
theorem valV_mem : ∀ {kvs : List (Key × V)} {k : Key} {v : V}, valV kvs k = some v → ∃ (i : Nat) (k' : Key), kvs[i]? = some (k', v)
  | [], _, _, h => by cases h
  | (k', v') :: kvs, k, v, h => by
    by_cases c : k' = k
    · rw [valV_pos c] at h
      cases h
      exact ⟨0, k', rfl⟩
    · rw [valV_neg c] at h
      obtain ⟨i, k2, e⟩ := valV_mem h
      exact ⟨i + 1, k2, e⟩
theorem isPr_l {x y : V} {n : Int} (h : inR x 0 (n - 1) = false) : isPr (some (x, y)) n = false := by
  show (inR x 0 (n - 1) && inR y 0 (n - 1) && decide (asInt x ≠ asInt y)) = false
  rw [h]
  rfl
theorem isPr_r {x y : V} {n : Int} (h : inR y 0 (n - 1) = false) : isPr (some (x, y)) n = false := by
  show (inR x 0 (n - 1) && inR y 0 (n - 1) && decide (asInt x ≠ asInt y)) = false
  rw [h, Bool.and_false]
  rfl
end TR

namespace TR
/-- a move: whether the head makes it, the station that it goes to -/
abbrev Mv := Bool × Nat
def hd0 (l : List Nat) : Nat := l.headD 0
def lt0 (l : List Nat) : Nat := l.getLastD 0
def endM (l : List Nat) (e : Bool) : Nat := if e then hd0 l else lt0 l
def aft (l : List Nat) (m : Mv) : List Nat := if m.1 then m.2 :: l.dropLast else l.tail ++ [m.2]
def fre (tr : List E2) (l : List Nat) (e : Bool) : List Nat := (nb tr (endM l e)).filter fun w => decide (w ∉ l)
def poss (tr : List E2) (l : List Nat) : List Mv := (fre tr l true).map (fun w => (true, w)) ++ (fre tr l false).map (fun w => (false, w))
def oppM (l : List Nat) (e : Bool) : Mv := if e then (false, lt0 l) else (true, hd0 l)
/-- a move is possible -/
def canM (tr : List E2) (l : List Nat) (m : Mv) : Bool := decide (m.2 ∈ fre tr l m.1)
/-- the body of a standing -/
structure Bd (tr : List E2) (l : List Nat) : Prop where
  sw : SW tr (hd0 l) (lt0 l) l
  two : 2 ≤ l.length
  le : ∀ x ∈ l, x ≤ tr.length
section
variable {tr : List E2}
theorem hd0_of {l : List Nat} {a : Nat} (h : l.head? = some a) : hd0 l = a := by
  cases l with
  | nil => cases h
  | cons x r => exact Option.some.inj h
theorem lt0_of {l : List Nat} {a : Nat} (h : l.getLast? = some a) : lt0 l = a := by
  unfold lt0
  rw [List.getLastD_eq_getLast?, h]
  rfl
theorem sw_bd (T : TreeL tr) {a b : Nat} {l : List Nat} (s : SW tr a b l) (ha : a ≤ tr.length) (ne : a ≠ b) : Bd tr l ∧ hd0 l = a ∧ lt0 l = b := by
  have e1 := hd0_of s.hd
  have e2 := lt0_of s.lt
  refine ⟨⟨by rw [e1, e2]; exact s, sw_two s ne, sw_le T s ha⟩, e1, e2⟩
theorem Bd.hne {l : List Nat} (b : Bd tr l) : l ≠ [] := fun z => by
  have := b.two
  rw [z] at this
  exact absurd this (by decide)
theorem Bd.ne {l : List Nat} (b : Bd tr l) : hd0 l ≠ lt0 l := by
  have h0 := sw_at0 b.sw
  have h1 := sw_atl b.sw
  have := b.two
  exact sw_ne b.sw h0 h1 (by omega)
theorem Bd.hle {l : List Nat} (b : Bd tr l) : hd0 l ≤ tr.length := b.le _ (List.mem_of_getElem? (sw_at0 b.sw))
theorem Bd.lle {l : List Nat} (b : Bd tr l) : lt0 l ≤ tr.length := b.le _ b.sw.mem
theorem hd0_rev {l : List Nat} : hd0 l.reverse = lt0 l := by
  unfold hd0 lt0
  rw [List.headD_eq_head?_getD, List.head?_reverse, List.getLastD_eq_getLast?]
theorem lt0_rev {l : List Nat} : lt0 l.reverse = hd0 l := by
  have := hd0_rev (l := l.reverse)
  rw [List.reverse_reverse] at this
  exact this.symm
theorem Bd.rev {l : List Nat} (b : Bd tr l) : Bd tr l.reverse :=
  ⟨by rw [hd0_rev, lt0_rev]; exact b.sw.rev, by rw [List.length_reverse]; exact b.two, fun x hx => b.le x (List.mem_reverse.mp hx)⟩
theorem Bd.eq (T : TreeL tr) {l m : List Nat} (b : Bd tr l) (c : Bd tr m) (h1 : hd0 l = hd0 m) (h2 : lt0 l = lt0 m) : l = m := by
  have s := c.sw
  rw [← h1, ← h2] at s
  exact SW.uniq T b.sw s
theorem mem_fre (T : TreeL tr) {l : List Nat} {e : Bool} {w : Nat} : w ∈ fre tr l e ↔ Adj tr (endM l e) w ∧ w ∉ l := by
  unfold fre
  rw [List.mem_filter, mem_nb T.ne, decide_eq_true_iff]
theorem mem_poss {l : List Nat} {m : Mv} : m ∈ poss tr l ↔ m.2 ∈ fre tr l m.1 := by
  obtain ⟨e, w⟩ := m
  unfold poss
  rw [List.mem_append, List.mem_map, List.mem_map]
  constructor
  · rintro (⟨x, hx, h⟩ | ⟨x, hx, h⟩)
    · cases h; exact hx
    · cases h; exact hx
  · intro h
    cases e with
    | true => exact .inl ⟨w, h, rfl⟩
    | false => exact .inr ⟨w, h, rfl⟩
/-- a body is a list with both ends -/
theorem bd_cons {l : List Nat} (h : 2 ≤ l.length) : ∃ a r, l = a :: r ∧ r ≠ [] := by
  match l, h with
  | a :: b :: r, _ => exact ⟨a, b :: r, rfl, by simp⟩
theorem bd_snoc {l : List Nat} (h : 2 ≤ l.length) : ∃ r b, l = r ++ [b] ∧ r ≠ [] := by
  have hne : l ≠ [] := fun z => by rw [z] at h; exact absurd h (by decide)
  refine ⟨l.dropLast, l.getLast hne, (List.dropLast_concat_getLast hne).symm, fun z => ?_⟩
  have := congrArg List.length z
  rw [List.length_dropLast, List.length_nil] at this
  omega
theorem lt0_snoc {r : List Nat} {b : Nat} : lt0 (r ++ [b]) = b := lt0_of (by simp)
theorem wk_init {r : List Nat} {b : Nat} (h : Wk tr (r ++ [b])) : Wk tr r := by
  have h2 := h.rev
  rw [List.reverse_append] at h2
  have h3 := (Wk.tail (l := r.reverse) h2).rev
  rw [List.reverse_reverse] at h3
  exact h3
theorem Bd.aft_head (T : TreeL tr) {l : List Nat} (b : Bd tr l) {w : Nat} (h : w ∈ fre tr l true) : Bd tr (w :: l.dropLast) ∧ hd0 (w :: l.dropLast) = w ∧ (w :: l.dropLast).length = l.length := by
  obtain ⟨ha, hn⟩ := (mem_fre T).mp h
  obtain ⟨r, z, e, hr⟩ := bd_snoc b.two
  have hd : (w :: l.dropLast).length = l.length := by
    rw [List.length_cons, List.length_dropLast]
    have := b.two
    omega
  subst e
  rw [List.dropLast_concat] at hd ⊢
  have ha : Adj tr (hd0 (r ++ [z])) w := ha
  obtain ⟨x, r', rfl⟩ := List.exists_cons_of_ne_nil hr
  have hx : hd0 (x :: r' ++ [z]) = x := rfl
  rw [hx] at ha
  have wk := wk_init b.sw.wk
  have nd := (List.nodup_append.mp b.sw.nd).1
  have hl : ((w :: x :: r').getLast?) = some (lt0 (w :: x :: r')) := by
    unfold lt0
    rw [List.getLastD_eq_getLast?]
    cases hh : (w :: x :: r').getLast? with
    | none => simp at hh
    | some z => rfl
  refine ⟨⟨⟨⟨ha.sym, wk⟩, List.nodup_cons.mpr ⟨fun m => hn (List.mem_append_left _ m), nd⟩, rfl, hl⟩, by rw [hd]; exact b.two, fun y hy => ?_⟩, rfl, hd⟩
  rcases List.mem_cons.mp hy with rfl | hy
  · exact (T.adj_le ha).2
  · exact b.le y (List.mem_append_left _ hy)
theorem Bd.aft_tail (T : TreeL tr) {l : List Nat} (b : Bd tr l) {w : Nat} (h : w ∈ fre tr l false) : Bd tr (l.tail ++ [w]) ∧ lt0 (l.tail ++ [w]) = w ∧ (l.tail ++ [w]).length = l.length := by
  obtain ⟨ha, hn⟩ := (mem_fre T).mp h
  have h2 : w ∈ fre tr l.reverse true := by
    refine (mem_fre T).mpr ⟨?_, fun m => hn (List.mem_reverse.mp m)⟩
    show Adj tr (hd0 l.reverse) w
    rw [hd0_rev]
    exact ha
  obtain ⟨c, _, hl⟩ := b.rev.aft_head T h2
  have e : (w :: l.reverse.dropLast).reverse = l.tail ++ [w] := by
    rw [List.reverse_cons]
    congr 1
    rw [← List.tail_reverse, List.reverse_reverse]
  refine ⟨e ▸ c.rev, lt0_snoc, ?_⟩
  rw [← e, List.length_reverse, hl, List.length_reverse]
theorem Bd.aft (T : TreeL tr) {l : List Nat} (b : Bd tr l) {m : Mv} (h : canM tr l m = true) : Bd tr (aft l m) ∧ (aft l m).length = l.length := by
  obtain ⟨e, w⟩ := m
  have h := of_decide_eq_true h
  cases e with
  | true => exact ⟨(b.aft_head T h).1, (b.aft_head T h).2.2⟩
  | false => exact ⟨(b.aft_tail T h).1, (b.aft_tail T h).2.2⟩
theorem Bd.aft_ends {l : List Nat} (b : Bd tr l) {m : Mv} : endM (TR.aft l m) m.1 = m.2 := by
  obtain ⟨e, w⟩ := m
  cases e with
  | true => rfl
  | false => exact lt0_snoc
/-- the opposite move is possible behind a move and takes it back -/
theorem Bd.back (T : TreeL tr) {l : List Nat} (b : Bd tr l) {m : Mv} (h : canM tr l m = true) : canM tr (TR.aft l m) (oppM l m.1) = true ∧ TR.aft (TR.aft l m) (oppM l m.1) = l := by
  have key : ∀ {l : List Nat} (b : Bd tr l) {w : Nat}, w ∈ fre tr l true → lt0 l ∈ fre tr (w :: l.dropLast) false ∧ l.dropLast ++ [lt0 l] = l := by
    intro l b w h
    obtain ⟨c, _, _⟩ := b.aft_head T h
    obtain ⟨ha, hn⟩ := (mem_fre T).mp h
    obtain ⟨r, z, e, hr⟩ := bd_snoc b.two
    subst e
    rw [List.dropLast_concat] at c ⊢
    rw [lt0_snoc]
    refine ⟨(mem_fre T).mpr ⟨?_, fun m => ?_⟩, rfl⟩
    · obtain ⟨r', y, rfl⟩ : ∃ r' y, r = r' ++ [y] := ⟨r.dropLast, r.getLast hr, (List.dropLast_concat_getLast hr).symm⟩
      show Adj tr (lt0 (w :: (r' ++ [y]))) z
      have e2 : lt0 (w :: (r' ++ [y])) = y := lt0_of (by rw [← List.cons_append, List.getLast?_append]; rfl)
      rw [e2]
      have wk := b.sw.wk.rev
      rw [List.reverse_append, List.reverse_append] at wk
      exact wk.1.sym
    · rcases List.mem_cons.mp m with rfl | m
      · exact hn (by simp)
      · have nd := List.nodup_append.mp b.sw.nd
        exact nd.2.2 z m z (by simp) rfl
  obtain ⟨e, w⟩ := m
  have h := of_decide_eq_true h
  cases e with
  | true =>
    obtain ⟨k1, k2⟩ := key b h
    exact ⟨decide_eq_true k1, k2⟩
  | false =>
    obtain ⟨ha, hn⟩ := (mem_fre T).mp h
    have h2 : w ∈ fre tr l.reverse true := by
      refine (mem_fre T).mpr ⟨?_, fun m => hn (List.mem_reverse.mp m)⟩
      show Adj tr (hd0 l.reverse) w
      rw [hd0_rev]
      exact ha
    obtain ⟨k1, k2⟩ := key b.rev h2
    have e1 : (w :: l.reverse.dropLast).reverse = l.tail ++ [w] := by
      rw [List.reverse_cons]
      congr 1
      rw [← List.tail_reverse, List.reverse_reverse]
    refine ⟨decide_eq_true ?_, ?_⟩
    · show hd0 l ∈ fre tr (l.tail ++ [w]) true
      obtain ⟨k3, k4⟩ := (mem_fre T).mp k1
      rw [lt0_rev] at k3 k4
      refine (mem_fre T).mpr ⟨?_, fun m => k4 ?_⟩
      · show Adj tr (hd0 (l.tail ++ [w])) (hd0 l)
        rw [← e1, hd0_rev]
        exact k3
      · rw [← e1] at m
        exact List.mem_reverse.mp m
    · show hd0 l :: (l.tail ++ [w]).dropLast = l
      rw [List.dropLast_concat]
      obtain ⟨a, r, rfl, _⟩ := bd_cons b.two
      rfl
/-- a neighbour of an end is on the body just where it is the next one -/
theorem Bd.next_head (T : TreeL tr) {l : List Nat} (b : Bd tr l) {w x : Nat} (hx : l[1]? = some x) (h : Adj tr (hd0 l) w) : (w ∉ l) ↔ w ≠ x := by
  constructor
  · rintro hn rfl
    exact hn (List.mem_of_getElem? hx)
  · intro hne m
    obtain ⟨p, r, e⟩ := List.append_of_mem m
    have s1 := b.sw
    rw [e] at s1
    have s2 := s1.pre
    have hw : hd0 l ≠ w := fun z => by
      rw [z] at h
      rcases h with h | h
      · exact T.ne _ h rfl
      · exact T.ne _ h rfl
    have s3 : SW tr (hd0 l) w [hd0 l, w] := ⟨⟨h, trivial⟩, by simp; exact hw, rfl, rfl⟩
    rw [e] at s3
    have e2 := SW.uniq T s2 s3
    have e3 : p ++ [w] = [hd0 (p ++ w :: r)] ++ [w] := e2
    have e4 := List.append_cancel_right e3
    have : l[1]? = some w := by
      rw [e]
      generalize hd0 (p ++ w :: r) = q at e4
      rw [e4]
      rfl
    rw [this] at hx
    exact hne (Option.some.inj hx)
theorem fre_head (T : TreeL tr) {l : List Nat} (b : Bd tr l) {x : Nat} (hx : l[1]? = some x) : fre tr l true = (nb tr (hd0 l)).filter fun w => decide (w ≠ x) := by
  unfold fre
  refine List.filter_congr fun w hw => ?_
  have := b.next_head T hx ((mem_nb T.ne).mp hw)
  exact decide_eq_decide.mpr this
theorem fre_tail (T : TreeL tr) {l : List Nat} (b : Bd tr l) {x : Nat} (hx : l[l.length - 2]? = some x) : fre tr l false = (nb tr (lt0 l)).filter fun w => decide (w ≠ x) := by
  have hx2 : l.reverse[1]? = some x := by
    rw [List.getElem?_reverse (by have := b.two; omega)]
    exact hx
  have q := fre_head T b.rev hx2
  rw [hd0_rev] at q
  rw [← q]
  unfold fre endM
  simp only [if_true, Bool.false_eq_true, if_false, hd0_rev, List.mem_reverse]
/-- the moves made one after the other: the bodies, or the index of the first one that is not possible -/
def runM (tr : List E2) : List Nat → List Mv → List (List Nat)
  | l, [] => [l]
  | l, m :: ms => l :: runM tr (aft l m) ms
/-- all moves are possible -/
def okM (tr : List E2) : List Nat → List Mv → Bool
  | _, [] => true
  | l, m :: ms => canM tr l m && okM tr (aft l m) ms
def endB : List Nat → List Mv → List Nat
  | l, [] => l
  | l, m :: ms => endB (aft l m) ms
theorem endB_app : ∀ (ms ns : List Mv) (l : List Nat), endB l (ms ++ ns) = endB (endB l ms) ns
  | [], _, _ => rfl
  | m :: ms, ns, l => endB_app ms ns (aft l m)
theorem okM_app : ∀ (ms ns : List Mv) (l : List Nat), okM tr l (ms ++ ns) = (okM tr l ms && okM tr (endB l ms) ns)
  | [], _, _ => by rw [okM]; rfl
  | m :: ms, ns, l => by
    show (canM tr l m && okM tr (aft l m) (ms ++ ns)) = (canM tr l m && okM tr (aft l m) ms && okM tr (endB (aft l m) ms) ns)
    rw [okM_app ms ns (aft l m), Bool.and_assoc]
theorem bodyAt_take (l : List Nat) (ms : List Mv) (i : Nat) (hi : i ≤ ms.length) : (runM tr l ms)[i]? = some (endB l (ms.take i)) := by
  induction ms generalizing l i with
  | nil =>
    have : i = 0 := by simpa using hi
    subst this
    rfl
  | cons m ms ih =>
    cases i with
    | zero => rfl
    | succ i => exact ih (aft l m) i (by simpa using hi)
theorem runM_len : ∀ (l : List Nat) (ms : List Mv), (runM tr l ms).length = ms.length + 1
  | _, [] => rfl
  | l, m :: ms => by
    show (runM tr (aft l m) ms).length + 1 = _
    rw [runM_len]
    rfl
theorem runM_snoc : ∀ (l : List Nat) (ms : List Mv) (m : Mv), runM tr l (ms ++ [m]) = runM tr l ms ++ [aft (endB l ms) m]
  | _, [], _ => rfl
  | l, n :: ms, m => by
    show l :: runM tr (aft l n) (ms ++ [m]) = _
    rw [runM_snoc]
    rfl
theorem Bd.run (T : TreeL tr) : ∀ (ms : List Mv) {l : List Nat}, Bd tr l → okM tr l ms = true → Bd tr (endB l ms) ∧ (endB l ms).length = l.length
  | [], _, b, _ => ⟨b, rfl⟩
  | m :: ms, l, b, h => by
    have h : (canM tr l m && okM tr (TR.aft l m) ms) = true := h
    rw [Bool.and_eq_true] at h
    obtain ⟨c, e⟩ := b.aft T h.1
    obtain ⟨d, e2⟩ := Bd.run T ms c h.2
    exact ⟨d, e2.trans e⟩
/-- the opposite moves, in the order of the moves -/
def oppL : List Nat → List Mv → List Mv
  | _, [] => []
  | l, m :: ms => oppM l m.1 :: oppL (aft l m) ms
theorem oppL_snoc : ∀ (l : List Nat) (ms : List Mv) (m : Mv), oppL l (ms ++ [m]) = oppL l ms ++ [oppM (endB l ms) m.1]
  | _, [], _ => rfl
  | l, n :: ms, m => by
    show oppM l n.1 :: oppL (aft l n) (ms ++ [m]) = _
    rw [oppL_snoc]
    rfl
theorem oppL_len : ∀ (l : List Nat) (ms : List Mv), (oppL l ms).length = ms.length
  | _, [] => rfl
  | l, m :: ms => by
    show (oppL (aft l m) ms).length + 1 = _
    rw [oppL_len]
    rfl
/-- the opposite moves, the last one first, lead back -/
theorem Bd.takes_back (T : TreeL tr) : ∀ (ms : List Mv) {l : List Nat}, Bd tr l → okM tr l ms = true → okM tr (endB l ms) (oppL l ms).reverse = true ∧ endB (endB l ms) (oppL l ms).reverse = l
  | [], _, _, _ => ⟨rfl, rfl⟩
  | m :: ms, l, b, h => by
    have h : (canM tr l m && okM tr (TR.aft l m) ms) = true := h
    rw [Bool.and_eq_true] at h
    obtain ⟨c, _⟩ := b.aft T h.1
    obtain ⟨k1, k2⟩ := Bd.takes_back T ms c h.2
    obtain ⟨q1, q2⟩ := b.back T h.1
    show okM tr (endB (TR.aft l m) ms) (oppM l m.1 :: oppL (TR.aft l m) ms).reverse = true ∧ endB (endB (TR.aft l m) ms) (oppM l m.1 :: oppL (TR.aft l m) ms).reverse = l
    rw [List.reverse_cons, okM_app, endB_app, k2, k1]
    refine ⟨?_, q2⟩
    show (true && (canM tr (TR.aft l m) (oppM l m.1) && true)) = true
    rw [q1]
    rfl
end
end TR

namespace L2.TT
open PySem PySem.Spec PyProof.Rows
theorem cat_tup0 {prog : Program} {w : World} {A : Around} {E : Value → Shared → Prop} {s : Shared} {t b : Addr} {ws : List Value} {Q : Value → Shared → Prop} (ht : IsTup s.heap t ([] : List Value).toArray) (hb : IsTup s.heap b ws.toArray) (h0 : Q (.ref b) s) : wpAny (model prog w) A (binaryOp .Add (.ref t) (.ref b)) Q E s := by
  obtain ⟨⟨cls, dd, data, sl⟩, ho, hc, n, hd⟩ := id ht
  obtain ⟨⟨cls2, dd2, data2, sl2⟩, ho2, hc2, n2, hd2⟩ := id hb
  simp only at hc hd hc2 hd2
  subst hc hd hc2 hd2
  exact concat_meets ⟨_, ho, rfl⟩ ⟨_, ho2, rfl⟩ noFill_tuple_add seq_tuple_add PySem.F.slot_tuple_add PySem.F.entry_tuple_add (PySem.F.args_tuple_add_2 _ _)
    (tuple_addW0 t b ([] : List Value).toArray ws.toArray n n2 dd dd2 sl sl2 (by simp)) ⟨ho, ho2, h0⟩
/-- t + u, each may be empty -/
def rCatTA (K : PySem.W.Frag) : R2 := fun x y H Q => ∃ a b xs ys, x = .ref a ∧ y = .ref b ∧ SqT K H a xs ∧ SqT K H b ys ∧ xs.length + ys.length ≤ sizeLine ∧
  (xs = [] → Q (.ref b) H) ∧ (xs ≠ [] → ys = [] → Q (.ref a) H) ∧ (xs ≠ [] → ys ≠ [] → ∀ p, H p = none → Q (.ref p) (upd H p (.tup (xs ++ ys))))
theorem op_catTA {X : Cx} : OpR X (binaryOp .Add) (rCatTA X.K) := by
  intro pins s σ H x y v u Q I rx ry h
  obtain ⟨a, b, xs, ys, rfl, rfl, ha, hb, hz, q0, q1, q2⟩ := h
  by_cases hx : xs = []
  · cases rx
    cases ry
    obtain ⟨its, r1, p1, _⟩ := I.tuple ha
    obtain ⟨its2, r2, p2, _⟩ := I.tuple hb
    have e : its = [] := r1.nil_iff.mpr hx
    subst e
    exact cat_tup0 p1 p2 ⟨.ref b, H, I, rfl, q0 hx⟩
  · exact op_catT pins s σ H _ _ _ _ Q I rx ry ⟨a, b, xs, ys, rfl, rfl, ha, hb, hx, hz, q1 hx, q2 hx⟩
/-- t + u: in each case a tuple of both -/
theorem catTA_uni {K : PySem.W.Frag} {H : Hp} {Q : VK} {a b : Addr} {xs ys : List V} (ha : H a = some (.tup xs)) (hb : H b = some (.tup ys)) (hz : xs.length + ys.length ≤ sizeLine) (k : ∀ p H', Same H H' → H' p = some (.tup (xs ++ ys)) → Q (.ref p) H') : rCatTA K (.ref a) (.ref b) H Q := by
  refine ⟨a, b, xs, ys, rfl, rfl, SqT.of ha, SqT.of hb, hz, fun e => ?_, fun _ e => ?_, fun _ _ p np => k p _ (TR.same_upd np _) upd_same⟩
  · subst e
    exact k b H (Same.refl _) hb
  · subst e
    exact k a H (Same.refl _) (by rw [List.append_nil]; exact ha)
end L2.TT

namespace TR
open PySem PySem.Spec PyProof.Rows L2 L2.TT StX ClX
/-- the objects at ps, one for each of xs -/
structure Lay {α : Type} (R : Hp → Addr → α → Prop) (H : Hp) (ps : List Addr) (xs : List α) : Prop where
  len : ps.length = xs.length
  at_ : ∀ (i : Nat) (p : Addr) (x : α), ps[i]? = some p → xs[i]? = some x → R H p x
/-- what is laid stays so -/
def Firm {α : Type} (R : Hp → Addr → α → Prop) : Prop := ∀ H H' p x, Same H H' → R H p x → R H' p x
section
variable {α : Type} {R : Hp → Addr → α → Prop} {H H' : Hp} {ps qs : List Addr} {xs ys : List α}
theorem Lay.nil : Lay R H [] [] := ⟨rfl, fun _ _ _ h => nomatch h⟩
theorem Lay.same (f : Firm R) (h : Lay R H ps xs) (s : Same H H') : Lay R H' ps xs := ⟨h.len, fun i p x a b => f _ _ _ _ s (h.at_ i p x a b)⟩
theorem Lay.app (h : Lay R H ps xs) (k : Lay R H qs ys) : Lay R H (ps ++ qs) (xs ++ ys) := by
  refine ⟨by rw [List.length_append, List.length_append, h.len, k.len], fun i p x hp hx => ?_⟩
  by_cases c : i < ps.length
  · rw [List.getElem?_append_left c] at hp
    rw [List.getElem?_append_left (by rw [← h.len]; exact c)] at hx
    exact h.at_ i p x hp hx
  · rw [List.getElem?_append_right (by omega)] at hp
    rw [List.getElem?_append_right (by rw [← h.len]; omega), ← h.len] at hx
    exact k.at_ _ p x hp hx
theorem Lay.one {p : Addr} {x : α} (h : R H p x) : Lay R H [p] [x] := by
  refine ⟨rfl, fun i q y hq hy => ?_⟩
  cases i with
  | zero =>
    cases hq
    cases hy
    exact h
  | succ i => cases hq
theorem Lay.snoc {p : Addr} {x : α} (h : Lay R H ps xs) (k : R H p x) : Lay R H (ps ++ [p]) (xs ++ [x]) := h.app (.one k)
theorem Lay.cons {p : Addr} {x : α} (h : Lay R H ps xs) (k : R H p x) : Lay R H (p :: ps) (x :: xs) := (Lay.one k).app h
theorem Lay.get (h : Lay R H ps xs) {i : Nat} {v : V} (hv : (ps.map V.ref)[i]? = some v) : ∃ p x, v = .ref p ∧ ps[i]? = some p ∧ xs[i]? = some x ∧ R H p x := by
  obtain ⟨p, hp, rfl⟩ := map_got hv
  have lt : i < xs.length := by
    have := (List.getElem?_eq_some_iff.mp hp).1
    rw [h.len] at this
    exact this
  exact ⟨p, xs[i], rfl, hp, List.getElem?_eq_getElem lt, h.at_ i p _ hp (List.getElem?_eq_getElem lt)⟩
theorem Lay.of (h : Lay R H ps xs) {i : Nat} {x : α} (hx : xs[i]? = some x) : ∃ p, ps[i]? = some p ∧ R H p x := by
  have lt : i < ps.length := by
    have := (List.getElem?_eq_some_iff.mp hx).1
    rw [h.len]
    exact this
  exact ⟨ps[i], List.getElem?_eq_getElem lt, h.at_ i _ x (List.getElem?_eq_getElem lt) hx⟩
theorem Lay.take (h : Lay R H ps xs) (n : Nat) : Lay R H (ps.take n) (xs.take n) := by
  refine ⟨by rw [List.length_take, List.length_take, h.len], fun i p x hp hx => ?_⟩
  rw [List.getElem?_take] at hp hx
  by_cases c : i < n
  · rw [if_pos c] at hp hx
    exact h.at_ i p x hp hx
  · rw [if_neg c] at hp
    cases hp
theorem Lay.drop (h : Lay R H ps xs) (n : Nat) : Lay R H (ps.drop n) (xs.drop n) := by
  refine ⟨by rw [List.length_drop, List.length_drop, h.len], fun i p x hp hx => ?_⟩
  rw [List.getElem?_drop] at hp hx
  exact h.at_ _ p x hp hx
theorem Lay.rev (h : Lay R H ps xs) : Lay R H ps.reverse xs.reverse := by
  refine ⟨by rw [List.length_reverse, List.length_reverse, h.len], fun i p x hp hx => ?_⟩
  have lt : i < ps.length := by
    have := (List.getElem?_eq_some_iff.mp hp).1
    rw [List.length_reverse] at this
    exact this
  rw [List.getElem?_reverse lt] at hp
  rw [List.getElem?_reverse (by rw [← h.len]; exact lt), ← h.len] at hx
  exact h.at_ _ p x hp hx
end
theorem Lay.map {α : Type} {R R' : Hp → Addr → α → Prop} {H H' : Hp} {ps : List Addr} {xs : List α} (h : Lay R H ps xs) (k : ∀ p x, x ∈ xs → R H p x → R' H' p x) : Lay R' H' ps xs := ⟨h.len, fun i p x a b => k p x (List.mem_of_getElem? b) (h.at_ i p x a b)⟩
/-- .. also where a list is written anew -/
def Tupy {α : Type} (R : Hp → Addr → α → Prop) : Prop := ∀ H (D : Addr) (xs ys : List V) p x, H D = some (.lst xs) → R H p x → R (upd H D (.lst ys)) p x
/-- a list of new objects, while it grows -/
structure Acc {α : Type} (R : Hp → Addr → α → Prop) (H1 H' : Hp) (D : Addr) (qs : List Addr) (xs : List α) : Prop where
  own : H' D = some (.lst (qs.map V.ref))
  sm : Same H1 H'
  lay : Lay R H' qs xs
theorem Acc.start {α : Type} {R : Hp → Addr → α → Prop} {H1 : Hp} {D : Addr} (nD : H1 D = none) : Acc R H1 (upd H1 D (.lst [])) D [] [] := ⟨upd_same, same_upd nD _, .nil⟩
theorem Acc.push {α : Type} {R : Hp → Addr → α → Prop} (f : Firm R) (t : Tupy R) {H1 H' H2 : Hp} {D q : Addr} {qs : List Addr} {xs : List α} {x : α} (a : Acc R H1 H' D qs xs) (nD : H1 D = none) (s : Same H' H2) (h : R H2 q x) :
    Acc R H1 (upd H2 D (.lst (qs.map V.ref ++ [V.ref q]))) D (qs ++ [q]) (xs ++ [x]) := by
  have hD := s _ _ a.own
  refine ⟨by rw [upd_same, List.map_append]; rfl, same_old (a.sm.trans s) nD _, ?_⟩
  have l := (a.lay.same f s).snoc h
  exact ⟨l.len, fun i p y hp hy => t _ _ _ _ _ _ hD (l.at_ i p y hp hy)⟩
theorem Acc.later {α : Type} {R : Hp → Addr → α → Prop} (f : Firm R) {H1 H' H2 : Hp} {D : Addr} {qs : List Addr} {xs : List α} (a : Acc R H1 H' D qs xs) (s : Same H' H2) : Acc R H1 H2 D qs xs := ⟨s _ _ a.own, a.sm.trans s, a.lay.same f s⟩
/-- the word of an end -/
def mvw (e : Bool) : Str := if e then "head" else "tail"
def MvR (H : Hp) (p : Addr) (m : Mv) : Prop := H p = some (.tup [.str (mvw m.1), iv m.2])
def BdR (H : Hp) (p : Addr) (l : List Nat) : Prop := H p = some (.tup (l.map iv))
theorem firmM : Firm MvR := fun _ _ _ _ s h => s _ _ h
theorem firmB : Firm BdR := fun _ _ _ _ s h => s _ _ h
theorem tupyM : Tupy MvR := fun _ _ _ _ _ _ hD h => by
  unfold MvR at h ⊢
  rw [upd_ne (ne_of h hD (by intro z; cases z))]
  exact h
theorem tupyB : Tupy BdR := fun _ _ _ _ _ _ hD h => by
  unfold BdR at h ⊢
  rw [upd_ne (ne_of h hD (by intro z; cases z))]
  exact h
theorem mvw_eq (a b : Bool) : decide (mvw a = mvw b) = decide (a = b) := by cases a <;> cases b <;> decide +kernel
theorem mvw_hd (a : Bool) : decide (mvw a = ("head" : Str)) = a := by cases a <;> decide +kernel
/-- the rules of a comprehension, K given -/
theorem in_K {X : Cx} {K : PySem.W.Frag} (h : X.K = K) : OpR X (compareOp .In) (rIn K false) := by
  subst h
  exact op_in_seq
theorem nin_K {X : Cx} {K : PySem.W.Frag} (h : X.K = K) : OpR X (compareOp .NotIn) (rIn K true) := by
  subst h
  exact op_notIn_seq
theorem iv_flat (l : List Nat) : (l.map iv).all flatV = true := by
  rw [List.all_eq_true]
  intro x hx
  obtain ⟨n, _, rfl⟩ := List.mem_map.mp hx
  rfl
theorem inV_iv (w : Nat) (l : List Nat) : inV (iv w) (l.map iv) = decide (w ∈ l) := by
  unfold inV
  induction l with
  | nil => rfl
  | cons a r ih =>
    rw [List.map_cons, List.any_cons, ih]
    by_cases c : a = w
    · subst c
      rw [show eqV (iv a) (iv a) = true from by show ((a : Int) == (a : Int)) = true; exact beq_self_eq_true _]
      simp
    · rw [show eqV (iv a) (iv w) = false from by show ((a : Int) == (w : Int)) = false; exact beq_eq_false_iff_ne.mpr (by omega)]
      have : (w ∈ a :: r) ↔ w ∈ r := by
        rw [List.mem_cons]
        exact ⟨fun h => h.resolve_left (fun z => c z.symm), .inr⟩
      rw [Bool.false_or]
      exact (decide_eq_decide.mpr this).symm
end TR

namespace TR
open PySem PySem.Spec PyProof.Rows L2 L2.TT StX ClX
/-- a method of the class at C, with its promise -/
structure MU (P : Program) (w : World) (K : PySem.W.Frag) (mg : Str → Option Value) (base : Heap) (C : Addr) (k : Nat) (x : Str) (f : Addr) (fd : FuncData) (ps : List Str) (sp : Sp) : Prop where
  m : Meth K C x f
  G : FnOk P w K mg base CX0 k f fd ps sp
  b : Binds K fd ps []
end TR

namespace TR
open PySem PySem.Spec PyProof.Rows L2 L2.TT StX ClX
def spAft : Sp := fun vs H Q _ => ∃ (p : Addr) (l : List Nat) (m : Mv), vs = [.ref p, .str (mvw m.1), iv m.2] ∧ BdR H p l ∧ 2 ≤ l.length ∧ l.length ≤ 1000 ∧ ∀ q H', Same H H' → H q = none → BdR H' q (aft l m) → Q (.ref q) H'
def StR (H : Hp) (p : Addr) (x : Mv × List Nat) : Prop := ∃ a b, H p = some (.tup [.ref a, .ref b]) ∧ MvR H a x.1 ∧ BdR H b x.2
theorem tupyS : Tupy StR := fun _ _ _ _ _ _ hD ⟨a, b, h1, h2, h3⟩ => ⟨a, b, by rw [upd_ne (ne_of h1 hD (by intro z; cases z))]; exact h1, tupyM _ _ _ _ _ _ hD h2, tupyB _ _ _ _ _ _ hD h3⟩
theorem nb_in {tr : List E2} (T : TreeL tr) {v w : Nat} (h : w ∈ nb tr v) : w ≤ tr.length := (T.adj_le ((mem_nb T.ne).mp h)).2
theorem nb_len2 {tr : List E2} (T : TreeL tr) (v : Nat) : (nb tr v).length ≤ tr.length + 1 := nd_len (nb_nd T v) fun _ h => nb_in T h
theorem fre_snoc (l : List Nat) (e : Bool) {xs : List Nat} {i w : Nat} (h : xs[i]? = some w) : (((xs.take (i + 1)).filter fun w => decide (w ∉ l)).map fun w => (e, w)) = (((xs.take i).filter fun w => decide (w ∉ l)).map fun w => (e, w)) ++ (if w ∉ l then [(e, w)] else []) := by
  rw [take_snoc h, List.filter_append, List.map_append]
  congr 1
  by_cases c : w ∉ l
  · rw [if_pos c]
    simp [c]
  · rw [if_neg c]
    simp [c]
theorem firmS : Firm StR := fun _ _ _ _ s ⟨a, b, h1, h2, h3⟩ => ⟨a, b, s _ _ h1, s _ _ h2, s _ _ h3⟩
def stpL (tr : List E2) (l : List Nat) : List (Mv × List Nat) := (poss tr l).map fun m => (m, aft l m)
def spStp (C : Addr) : Sp := fun vs H Q _ => ∃ (r p : Addr) (tr : List E2) (l : List Nat), vs = [.ref r, .ref p] ∧ RailAt C H r tr ∧ BdR H p l ∧ Bd tr l ∧ ∀ q ps H', Same H H' → H' q = some (.lst (ps.map V.ref)) → Lay StR H' ps (stpL tr l) → Q (.ref q) H'
theorem mvw_hdV (a : Bool) : decide (V.str (mvw a) = V.str "head") = a := by cases a <;> decide +kernel
theorem atHd {l : List Nat} (h : 2 ≤ l.length) : atI (l.map iv) 0 = some (iv (hd0 l)) := by
  obtain ⟨a, r, rfl, _⟩ := bd_cons h
  exact atI_pos (by decide) rfl
theorem atLt {l : List Nat} (h : 2 ≤ l.length) : atI (l.map iv) (-1) = some (iv (lt0 l)) := by
  obtain ⟨r, b, rfl, _⟩ := bd_snoc h
  rw [lt0_snoc]
  exact at_last
/-- t[:-1] and t[1:] of a body -/
theorem slB_init {K : PySem.W.Frag} {H : Hp} {Q : VK} {a : Addr} {l : List Nat} (ha : BdR H a l) (h : 2 ≤ l.length) (k : ∀ p H', Same H H' → H p = none → BdR H' p l.dropLast → Q (.ref p) H') : rSlA K (.ref a) none (some (-1)) H Q := by
  have e : HT.sIx (l.map iv).length (l.map iv).length (some (-1)) = l.length - 1 := by
    rw [List.length_map]
    show ((-1 : Int) + (l.length : Int)).toNat = l.length - 1
    omega
  refine ⟨a, _, rfl, SqT.of ha, fun ⟨_, z⟩ => ?_, fun _ p np => k p _ (same_upd np _) np ?_⟩
  · rw [e, List.length_map] at z
    omega
  · have e2 : cutV (l.map iv) none (some (-1)) = l.dropLast.map iv := by
      unfold cutV
      rw [e, HT.sIx_none, List.drop_zero, Nat.sub_zero, ← List.map_take, List.dropLast_eq_take]
    rw [e2]
    exact upd_same
theorem slB_tail {K : PySem.W.Frag} {H : Hp} {Q : VK} {a : Addr} {l : List Nat} (ha : BdR H a l) (h : 2 ≤ l.length) (k : ∀ p H', Same H H' → H p = none → BdR H' p l.tail → Q (.ref p) H') : rSlA K (.ref a) (some 1) none H Q := by
  have e : HT.sIx (l.map iv).length 0 (some 1) = 1 := by
    rw [List.length_map]
    show min 1 l.length = 1
    omega
  refine ⟨a, _, rfl, SqT.of ha, fun ⟨z, _⟩ => ?_, fun _ p np => k p _ (same_upd np _) np ?_⟩
  · rw [e] at z
    cases z
  · have e2 : cutV (l.map iv) (some 1) none = l.tail.map iv := by
      unfold cutV
      rw [e, HT.sIx_none, ← List.map_drop, List.length_map, List.take_of_length_le (by rw [List.length_map, List.length_drop]; exact Nat.le_refl _), List.drop_one]
    rw [e2]
    exact upd_same
section
variable {P : Program} {w : World} {K : PySem.W.Frag} {mg : Str → Option Value} {base : Heap}
abbrev N_sc_aft : List Str := ["body", "end", "station"]
theorem sc_aft : FnScope N_sc_aft ["body", "end", "station"] (defScope s_body_after) := ⟨rfl, rfl, rfl, by decide +kernel, rfl, by decide +kernel, by decide +kernel⟩
theorem ok_aft {f : Addr} {fd : FuncData} (F : Fun K "_body_after" "_body_after" s_body_after f fd) : FnOk P w K mg base CX0 1 f fd ["body", "end", "station"] spAft := by
  refine F.ok sc_aft (fun vs H Q E h => ?_) (fun cdv A outer s H vs Q E hr h => ?_)
  · obtain ⟨p, l, m, rfl, _⟩ := h
    rfl
  · obtain ⟨p, l, m, rfl, hp, h2, hl, k⟩ := h
    refine ⟨_, (pss_cons (ps_if (pt_cmpR op_eq (pv 1) pe_str (nomark _)) (pss_one (ps_ret (pe_op op_catA (pe_tup (pa_cons (pv 2) pa_nil)) (pe_slice sl_tupA (pv 0) po_none (po_some (pe_un un_neg pe_int)))))) pss_nil)
        (pss_one (ps_ret (pe_op op_catA (pe_slice sl_tupA (pv 0) (po_some pe_int) po_none) (pe_tup (pa_cons (pv 2) pa_nil)))))), ?_⟩
    obtain ⟨e, x⟩ := m
    have one : (1 : Nat) ≤ sizeLine := by rw [sizeLine_eq]; decide
    refine ⟨_, rfl, rfl, _, rfl, ?_⟩
    rw [mvw_hdV]
    cases e with
    | true =>
      refine iteT ?_
      refine ⟨_, rfl, one, fun u nu => ?_⟩
      have su := same_upd nu (.tup [iv x])
      refine ⟨_, rfl, ?_⟩
      unfold tNoPart
      refine ⟨_, rfl, _, rfl, slB_init (su _ _ hp) h2 fun q H2 s2 nq hq => ?_⟩
      have hu2 := s2 _ _ (upd_same (H := H) (a := u) (o := .tup [iv x]))
      refine ⟨u, q, _, _, rfl, rfl, SqT.of hu2, SqT.of hq, by rw [List.length_map, List.length_dropLast, sizeLine_eq, List.length_singleton]; omega, fun z => (by cases z), fun _ z => ?_, fun _ _ p2 np2 => ?_⟩
      · have := congrArg List.length z
        rw [List.length_map, List.length_dropLast, List.length_nil] at this
        omega
      · exact k p2 _ ((su.trans s2).trans (same_upd np2 _)) ((su.trans s2).free np2) upd_same
    | false =>
      refine iteF ?_
      refine ⟨_, rfl, ?_⟩
      refine ⟨_, rfl, ?_⟩
      unfold tNoPart
      refine slB_tail hp h2 fun q H2 s2 nq hq => ?_
      refine ⟨_, rfl, one, fun u nu => ?_⟩
      have su := same_upd nu (.tup [iv x])
      refine ⟨q, u, _, _, rfl, rfl, SqT.of (su _ _ hq), SqT.of upd_same, by rw [List.length_map, List.length_tail, sizeLine_eq, List.length_singleton]; omega, fun z => ?_, fun _ z => (by cases z), fun _ _ p2 np2 => ?_⟩
      · have := congrArg List.length z
        rw [List.length_map, List.length_tail, List.length_nil] at this
        omega
      · refine k p2 _ ((s2.trans su).trans (same_upd np2 _)) ((s2.trans su).free np2) ?_
        show _ = some (HO.tup ((l.tail ++ [x]).map iv))
        rw [upd_same, List.map_append]
        rfl
abbrev N_sc_stp : List Str := ["railway", "body", "heads", "near", "tails", "end"]
theorem sc_stp : FnScope N_sc_stp ["railway", "body"] (defScope s_steps_from) := ⟨rfl, rfl, rfl, by decide +kernel, rfl, by decide +kernel, by decide +kernel⟩
theorem ok_stp {f fA fN C : Addr} {fd fdA fdN : FuncData} (F : Fun K "steps_from" "steps_from" s_steps_from f fd) (X : TxtR K mg C) (UA : Use P w K mg base CX0 1 "_body_after" fA fdA ["body", "end", "station"] spAft) (Mn : MU P w K mg base C 5 "neighbours" fN fdN ["self", "station"] (spNbr C)) : FnOk P w K mg base CX0 6 f fd ["railway", "body"] (spStp C) := by
  refine F.ok sc_stp (fun vs H Q E h => ?_) (fun cdv A outer s H vs Q E hr h => ?_)
  · obtain ⟨r, p, tr, l, rfl, _⟩ := h
    rfl
  · obtain ⟨r, p, tr, l, rfl, R, hp, b, k⟩ := h
    have hr1 : Room 1 (A.deeper (envOfC "steps_from" (defScope s_steps_from) s.heap.objs.size f cdv)) := hr.mono (by decide)
    refine ⟨_, (pss_cons (ps_setLc (i := 2) (own := [("near", 3)]) (g := (gName 3)) (by rfl) sc_stp.nd rfl rfl (sw_true rfl rfl rfl (by decide +kernel)) (pi_tup (pe_meth (pv 0) X.cl Mn.m Mn.G hr Mn.b .nil pass0 (pa_cons (pe_ix ix_tup (pv 1) pe_int (fun _ _ => rfl)) pa_nil))) (blkOk_by (N := N_sc_stp) (sc := defScope s_steps_from) (by decide +kernel)) (fun _ _ _ _ _ => pg_name (i := 3) sc_stp.nd rfl (Or.inl rfl)) (fun _ _ _ _ _ => pts_one (pt_cmpR (nin_K (K := K) rfl) (pv 3) (pv 1) (by with_unfolding_all rfl))) (fun _ _ _ _ _ => (pe_tup (pa_cons pe_str (pa_cons (pv 3) pa_nil)))))
        (pss_cons (ps_setLc (i := 4) (own := [("near", 3)]) (g := (gName 3)) (by rfl) sc_stp.nd rfl rfl (sw_true rfl rfl rfl (by decide +kernel)) (pi_tup (pe_meth (pv 0) X.cl Mn.m Mn.G hr Mn.b .nil pass0 (pa_cons (pe_ix ix_tup (pv 1) (pe_un un_neg pe_int) (fun _ _ => rfl)) pa_nil))) (blkOk_by (N := N_sc_stp) (sc := defScope s_steps_from) (by decide +kernel)) (fun _ _ _ _ _ => pg_name (i := 3) sc_stp.nd rfl (Or.inl rfl)) (fun _ _ _ _ _ => pts_one (pt_cmpR (nin_K (K := K) rfl) (pv 3) (pv 1) (by with_unfolding_all rfl))) (fun _ _ _ _ _ => (pe_tup (pa_cons pe_str (pa_cons (pv 3) pa_nil)))))
        (pss_one (ps_ret (pe_lc (own := [("end", 5), ("near", 3)]) (g := (gTup K 2 (gCons (gName 5) (gCons (gName 3) gNil)))) (tt := tYes) rfl sc_stp.nd (pi_list (pe_op op_catL (pv 2) (pv 4))) (blkOk_by (N := N_sc_stp) (sc := defScope s_steps_from) (by decide +kernel)) (fun _ _ _ _ _ => pg_tupK (K := K) (n := 2) (t := (gCons (gName 5) (gCons (gName 3) gNil))) rfl rfl (pgs_cons (pg_name (i := 5) sc_stp.nd rfl (Or.inl rfl)) (pgs_cons (pg_name (i := 3) sc_stp.nd rfl (Or.inl rfl)) pgs_nil)) rfl) (fun _ _ _ _ _ => pts_nil) (fun _ _ _ _ _ => (pe_tup (pa_cons (pe_tup (pa_cons (pv 5) (pa_cons (pv 3) pa_nil))) (pa_cons (pe_use UA hr1 (by rfl) (pa_cons (pv 1) (pa_cons (pv 5) (pa_cons (pv 3) pa_nil)))) pa_nil))))))))), ?_⟩
    have T := R.T
    have few := R.few
    have two : (2 : Nat) ≤ sizeLine := by rw [sizeLine_eq]; decide
    obtain ⟨_, _, dx, tt, na, Aa, L, ps0, ts0, h1, _⟩ := id R
    refine ⟨_, rfl, r, dx, _, rfl, h1, flR_no (by decide +kernel) (by decide +kernel) (by decide +kernel) (by decide +kernel), _, rfl, p, _, _, _, rfl, rfl, SqT.of hp, atHd b.two, r, tr, hd0 l, rfl, R, b.hle, fun t ht => ?_⟩
    refine ⟨t, rfl, ⟨_, SqT.of ht⟩, fun D nD => ?_⟩
    refine lc_tup (K := K) (a := t) (xs := (nb tr (hd0 l)).map iv) (fun i H' => ∃ qs, Acc MvR H H' D qs ((((nb tr (hd0 l)).take i).filter fun w => decide (w ∉ l)).map fun w => (true, w))) ⟨[], .start nD⟩ (fun i H' _ ⟨_, a⟩ => SqT.of (a.sm _ _ ht)) ?_ ?_
    · rintro i v H' hv ⟨qs, a⟩
      obtain ⟨x, hx, rfl⟩ := map_got hv
      have lb : qs.length < sizeLine := by
        have q1 := a.lay.len
        rw [List.length_map] at q1
        have q2 := List.length_filter_le (fun w => decide (w ∉ l)) ((nb tr (hd0 l)).take i)
        rw [List.length_take] at q2
        have := nb_len2 T (hd0 l)
        rw [sizeLine_eq]
        omega
      have e := fre_snoc l true hx
      refine ⟨rfl, _, rfl, _, rfl, p, _, rfl, .inr (SqT.of (a.sm _ _ hp)), rfl, iv_flat l, _, rfl, ?_⟩
      rw [inV_iv]
      by_cases c : x ∉ l
      · rw [if_pos c] at e
        rw [e, show (if true = true then !decide (x ∈ l) else decide (x ∈ l)) = true from by simp [c]]
        refine iteT ?_
        exact ⟨_, rfl, two, fun q nq => ⟨_, same_upd nq _ _ _ a.own, by rw [List.length_map]; exact lb, qs ++ [q], a.push firmM tupyM nD (same_upd nq _) upd_same⟩⟩
      · rw [if_neg c, List.append_nil] at e
        rw [e, show (if true = true then !decide (x ∈ l) else decide (x ∈ l)) = false from by simp [Decidable.not_not.mp c]]
        exact iteF ⟨qs, a⟩
    rintro H1 ⟨qs1, a1⟩
    rw [show (nb tr (hd0 l)).take ((nb tr (hd0 l)).map iv).length = nb tr (hd0 l) from List.take_of_length_le (by rw [List.length_map]; exact Nat.le_refl _)] at a1
    have s1 := a1.sm
    have R1 := R.same s1
    have h11 := s1 _ _ h1
    refine ⟨_, rfl, r, dx, _, rfl, h11, flR_no (by decide +kernel) (by decide +kernel) (by decide +kernel) (by decide +kernel), _, rfl, _, rfl, p, _, _, _, rfl, rfl, SqT.of (s1 _ _ hp), atLt b.two, r, tr, lt0 l, rfl, R1, b.lle, fun t2 ht2 => ?_⟩
    refine ⟨t2, rfl, ⟨_, SqT.of ht2⟩, fun D2 nD2 => ?_⟩
    refine lc_tup (K := K) (a := t2) (xs := (nb tr (lt0 l)).map iv) (fun i H' => ∃ qs, Acc MvR H1 H' D2 qs ((((nb tr (lt0 l)).take i).filter fun w => decide (w ∉ l)).map fun w => (false, w))) ⟨[], .start nD2⟩ (fun i H' _ ⟨_, a⟩ => SqT.of (a.sm _ _ ht2)) ?_ ?_
    · rintro i v H' hv ⟨qs, a⟩
      obtain ⟨x, hx, rfl⟩ := map_got hv
      have lb : qs.length < sizeLine := by
        have q1 := a.lay.len
        rw [List.length_map] at q1
        have q2 := List.length_filter_le (fun w => decide (w ∉ l)) ((nb tr (lt0 l)).take i)
        rw [List.length_take] at q2
        have := nb_len2 T (lt0 l)
        rw [sizeLine_eq]
        omega
      have e := fre_snoc l false hx
      refine ⟨rfl, _, rfl, _, rfl, p, _, rfl, .inr (SqT.of ((s1.trans a.sm) _ _ hp)), rfl, iv_flat l, _, rfl, ?_⟩
      rw [inV_iv]
      by_cases c : x ∉ l
      · rw [if_pos c] at e
        rw [e, show (if true = true then !decide (x ∈ l) else decide (x ∈ l)) = true from by simp [c]]
        refine iteT ?_
        exact ⟨_, rfl, two, fun q nq => ⟨_, same_upd nq _ _ _ a.own, by rw [List.length_map]; exact lb, qs ++ [q], a.push firmM tupyM nD2 (same_upd nq _) upd_same⟩⟩
      · rw [if_neg c, List.append_nil] at e
        rw [e, show (if true = true then !decide (x ∈ l) else decide (x ∈ l)) = false from by simp [Decidable.not_not.mp c]]
        exact iteF ⟨qs, a⟩
    rintro H2 ⟨qs2, a2⟩
    rw [show (nb tr (lt0 l)).take ((nb tr (lt0 l)).map iv).length = nb tr (lt0 l) from List.take_of_length_le (by rw [List.length_map]; exact Nat.le_refl _)] at a2
    have a1 := a1.later firmM a2.sm
    have s2 := s1.trans a2.sm
    have LP : Lay MvR H2 (qs1 ++ qs2) (poss tr l) := a1.lay.app a2.lay
    have ll : (poss tr l).length ≤ 400 := by
      have l1 := a1.lay.len
      have l2 := a2.lay.len
      have := LP.len
      rw [List.length_append, l1, l2] at this
      rw [← this, List.length_map, List.length_map]
      have q1 := List.length_filter_le (fun w => decide (w ∉ l)) (nb tr (hd0 l))
      have q2 := List.length_filter_le (fun w => decide (w ∉ l)) (nb tr (lt0 l))
      have := nb_len2 T (hd0 l)
      have := nb_len2 T (lt0 l)
      omega
    refine ⟨_, rfl, _, rfl, D, D2, _, _, rfl, rfl, SqL.of a1.own, SqL.of a2.own, by rw [← List.length_append, ← List.map_append, List.length_map, LP.len, sizeLine_eq]; omega, fun u nu => ?_⟩
    rw [← List.map_append]
    have su := same_upd nu (.lst ((qs1 ++ qs2).map V.ref))
    have hu := upd_same (H := H2) (a := u) (o := .lst ((qs1 ++ qs2).map V.ref))
    generalize upd H2 u (.lst ((qs1 ++ qs2).map V.ref)) = H3 at su hu ⊢
    have LP := LP.same firmM su
    have s3 := s2.trans su
    refine ⟨u, rfl, ⟨_, SqL.of hu⟩, fun D3 nD3 => ?_⟩
    refine lc_list (K := K) (a := u) (xs := (qs1 ++ qs2).map V.ref) (fun i H' => ∃ qs, Acc StR H3 H' D3 qs (((poss tr l).take i).map fun m => (m, aft l m))) ⟨[], .start nD3⟩ (fun i H' _ ⟨_, a⟩ => SqL.of (a.sm _ _ hu)) ?_ ?_
    · rintro i v H' hv ⟨qs, a⟩
      obtain ⟨q, m, rfl, hq, hm, hR⟩ := LP.get hv
      have hR := firmM _ _ _ _ a.sm hR
      have lb : qs.length < sizeLine := by
        have q1 := a.lay.len
        rw [List.length_map, List.length_take] at q1
        rw [sizeLine_eq]
        omega
      have ll2 : l.length ≤ 1000 := by
        have := nd_len b.sw.nd b.le
        omega
      refine ⟨q, _, rfl, SqT.of hR, rfl, _, _, rfl, _, _, rfl, rfl, ?_⟩
      refine ⟨rfl, _, rfl, _, rfl, two, fun q1 nq1 => ⟨_, rfl, _, rfl, _, rfl, p, l, m, rfl, same_upd nq1 _ _ _ ((s3.trans a.sm) _ _ hp), b.two, ll2, fun q2 Hb sb nq2 hb => ⟨two, fun q3 nq3 => ?_⟩⟩⟩
      have sf := (same_upd nq1 (.tup [.str (mvw m.1), iv m.2])).trans (sb.trans (same_upd nq3 (.tup [.ref q1, .ref q2])))
      have e : ((poss tr l).take (i + 1)).map (fun m => (m, aft l m)) = ((poss tr l).take i).map (fun m => (m, aft l m)) ++ [(m, aft l m)] := by
        rw [take_snoc hm, List.map_append]
        rfl
      rw [e]
      refine ⟨_, sf _ _ a.own, by rw [List.length_map]; exact lb, qs ++ [q3], a.push firmS tupyS nD3 sf ⟨q1, q2, upd_same, ?_, ?_⟩⟩
      · exact (sb.trans (same_upd nq3 _)) _ _ upd_same
      · exact same_upd nq3 _ _ _ hb
    · rintro H4 ⟨qs, a⟩
      rw [List.length_map, LP.len, List.take_length] at a
      exact k D3 qs H4 (s3.trans a.sm) a.own a.lay
end
end TR


namespace TR
open PySem PySem.Spec PyProof.Rows L2 L2.TT StX ClX
theorem nE2 {l : List E2} : ∀ {l' : List E2}, PyData.eqvAll (l.map dpr) (l'.map dpr) = decide (l = l') := by
  induction l with
  | nil =>
    intro l'
    cases l' with
    | nil => rfl
    | cons e l' => rfl
  | cons e l ih =>
    intro l'
    cases l' with
    | nil => rfl
    | cons d l' =>
      show (((((e.1 : Nat) : Int) == ((d.1 : Nat) : Int)) && ((((e.2 : Nat) : Int) == ((d.2 : Nat) : Int)) && true)) && PyData.eqvAll (l.map dpr) (l'.map dpr)) = _
      rw [ih]
      by_cases h1 : e.1 = d.1
      · by_cases h2 : e.2 = d.2
        · by_cases h3 : l = l'
          · rw [h1, h2, h3]
            simp [Prod.ext_iff, h1, h2]
          · simp [h3]
        · have : ¬ ((e.2 : Nat) : Int) = ((d.2 : Nat) : Int) := by omega
          rw [show (((e.2 : Nat) : Int) == ((d.2 : Nat) : Int)) = false from beq_eq_false_iff_ne.mpr this]
          simp [Prod.ext_iff, h2]
      · have : ¬ ((e.1 : Nat) : Int) = ((d.1 : Nat) : Int) := by omega
        rw [show (((e.1 : Nat) : Int) == ((d.1 : Nat) : Int)) = false from beq_eq_false_iff_ne.mpr this]
        simp [Prod.ext_iff, h1]
theorem canLay_prs : ∀ (l : List E2), PyData.canLayAll0 (l.map dpr) = true
  | [] => rfl
  | e :: l => by
    show (PyData.canLayAll0 ([e.1, e.2].map di) && PyData.canLayAll0 (l.map dpr)) = true
    rw [canLay_prs l, canLay_ints]
    rfl
theorem depth_prs : ∀ (l : List E2), PyData.depthAll (l.map dpr) ≤ 1
  | [] => Nat.zero_le _
  | e :: l => by
    show max (PyData.depthAll ([e.1, e.2].map di) + 1) (PyData.depthAll (l.map dpr)) ≤ 1
    have := depth_prs l
    rw [depth_ints]
    omega
theorem shaped_prs (l : List E2) : SeqAt.shaped (.tuple (l.map dpr)) = true := by
  unfold SeqAt.shaped
  rw [Bool.and_eq_true]
  refine ⟨canLay_prs l, decide_eq_true ?_⟩
  show PyData.depthAll (l.map dpr) + 1 ≤ 64
  have := depth_prs l
  omega
/-- what isinstance reads of an own class -/
structure InsK (K : PySem.W.Frag) (C : Addr) : Prop where
  ca : PySem.W.findIn K (.ref C) "__class__" = some (some (.builtin "object.__class__"))
  sg : PySem.W.specialIn K (.builtin "object.__class__") "__get__" = some (some (.builtin "getset_descriptor.__get__"))
  st : PySem.W.takesIn K (.builtin "object.__class__") = some true
  ob : PySem.W.mroIn K C (.type "object") = some true
theorem kit_self1 {K : PySem.W.Frag} (C : Addr) : PySem.W.kitOne K (.ref C) (.ref C) = some true := by
  unfold PySem.W.kitOne
  simp
/-- a property of the class at C -/
structure PropU (P : Program) (w : World) (K : PySem.W.Frag) (mg : Str → Option Value) (base : Heap) (C p g : Addr) (fd : FuncData) (x : Str) (k : Nat) (sp : Sp) : Prop where
  cl : Cls K C
  hp : PropOf K C x p g
  G : FnOk P w K mg base CX0 k g fd ["self"] sp
  b : Binds K fd ["self"] []
def spTrk (C : Addr) : Sp := fun vs H Q _ => ∃ (r : Addr) (tr : List E2), vs = [.ref r] ∧ RailAt C H r tr ∧ ∀ tt ps, H tt = some (.tup (ps.map V.ref)) → Prs H ps tr → Q (.ref tt) H
def spSame (C : Addr) : Sp := fun vs H Q _ => ∃ (r r2 : Addr) (tr tr2 : List E2), vs = [.ref r, .ref r2] ∧ RailAt C H r tr ∧ RailAt C H r2 tr2 ∧ Q (.bl (decide (tr = tr2))) H
def spLine (C : Addr) : Sp := fun vs H Q _ => ∃ (n : Nat), vs = [.ref C, iv (n + 1)] ∧ n ≤ 99 ∧ ∀ (r : Addr) (H' : Hp), H r = none → Same H H' → RailAt C H' r ((List.range n).map fun i => (i, i + 1)) → Q (.ref r) H'
def spStar (C : Addr) : Sp := fun vs H Q _ => ∃ (n : Nat), vs = [.ref C, iv (n + 1)] ∧ n ≤ 99 ∧ ∀ (r : Addr) (H' : Hp), H r = none → Same H H' → RailAt C H' r ((List.range n).map fun i => (0, i + 1)) → Q (.ref r) H'
def spCnt : Sp := fun vs H Q _ => ∃ (n : Nat), vs = [iv (n + 1)] ∧ n ≤ 99 ∧ Q .non H
theorem tree_line (n : Nat) : TreeL ((List.range n).map fun i => (i, i + 1)) := by
  refine tree_drawn (fun e he => ?_) ?_
  · obtain ⟨i, _, rfl⟩ := List.mem_map.mp he
    show i ≠ i + 1
    omega
  · rw [List.map_map, List.length_map, List.length_range, List.range'_eq_map_range]
    refine List.Perm.of_eq (List.map_congr_left fun i _ => ?_)
    show max i (i + 1) = 1 + i
    omega
theorem tree_star (n : Nat) : TreeL ((List.range n).map fun i => (0, i + 1)) := by
  refine tree_drawn (fun e he => ?_) ?_
  · obtain ⟨i, _, rfl⟩ := List.mem_map.mp he
    show 0 ≠ i + 1
    omega
  · rw [List.map_map, List.length_map, List.length_range, List.range'_eq_map_range]
    refine List.Perm.of_eq (List.map_congr_left fun i _ => ?_)
    show max 0 (i + 1) = 1 + i
    omega
theorem nrmS_of {l : List E2} (h : l.Pairwise (fun a b => lexle a b = true)) (h2 : ∀ e ∈ l, e.1 < e.2) : nrmS l = l := by
  have e : l.map nrm = l := by
    have : l.map nrm = l.map id := List.map_congr_left fun e he => nrm_lt (h2 e he)
    rw [this, List.map_id]
  unfold nrmS
  rw [e]
  exact (srt2_of (List.Perm.refl _) h).symm
theorem nrmS_line (n : Nat) : nrmS ((List.range n).map fun i => (i, i + 1)) = (List.range n).map fun i => (i, i + 1) := by
  refine nrmS_of ?_ (fun e he => ?_)
  · rw [List.pairwise_map]
    refine List.pairwise_lt_range.imp fun {a b} h => ?_
    rw [lexle_iff]
    exact .inl h
  · obtain ⟨i, _, rfl⟩ := List.mem_map.mp he
    exact Nat.lt_succ_self i
theorem nrmS_star (n : Nat) : nrmS ((List.range n).map fun i => (0, i + 1)) = (List.range n).map fun i => (0, i + 1) := by
  refine nrmS_of ?_ (fun e he => ?_)
  · rw [List.pairwise_map]
    refine List.pairwise_lt_range.imp fun {a b} h => ?_
    rw [lexle_iff]
    exact .inr ⟨rfl, by show a + 1 ≤ b + 1; omega⟩
  · obtain ⟨i, _, rfl⟩ := List.mem_map.mp he
    exact Nat.succ_pos i
end TR

namespace TR
open PySem PySem.Spec PyProof.Rows L2 L2.TT StX ClX
theorem iv_of {z : Int} {n : Nat} (h : z = (n : Int)) : V.int z = iv n := by rw [h]
/-- for i in range(n): the item is iv i -/
theorem for_rg {n : Nat} {g : TG} {tb : TS} {D : Ends} {σ : L2.St} {H : Hp} (Pv : Nat → L2.St → Hp → Prop) (h0 : Pv 0 σ H)
    (hs : ∀ i σ H, i < n → Pv i σ H → g (iv i) σ H fun σ2 H2 => tb { D with nx := Pv (i + 1), ct := Pv (i + 1), bk := D.nx } σ2 H2) (hd : ∀ σ H, Pv n σ H → D.nx σ H) :
    ∃ W : Nat → Nat → L2.St → Hp → Prop, (∃ m, W 0 m σ H) ∧ ∀ i m σ H, W i m σ H →
      ((Itr 0 n).stop i H ∧ D.nx σ H) ∨ ((Itr 0 n).go i H ∧ ∃ N : L2.St → Hp → Prop, (∀ σ' H', N σ' H' → ∃ m', m' < m ∧ W (i + 1) m' σ' H') ∧ ∀ x H', (Itr 0 n).yld i H x H' → g x σ H' fun σ2 H2 => tb { D with nx := N, ct := N, bk := D.nx } σ2 H2) :=
  for_range (lo := 0) (n := n) Pv h0 (fun i σ H hi p => by rw [Int.zero_add]; exact hs i σ H hi p) hd
theorem lc_rg {n : Nat} {g : TG} {tt : TT} {te : TE} {vs : List Nat} {σ : L2.St} {H1 : Hp} {D : Addr} {Qd : Hp → Prop} (Pv : Nat → Hp → Prop) (h0 : Pv 0 (upd H1 D (.lst [])))
    (hs : ∀ i H, i < n → Pv i H → g (iv i) (wipe σ vs) H fun σ2 H2 => wipe σ2 vs = wipe σ vs ∧ tt σ2 H2 fun b H3 =>
      if b = true then te σ2 H3 fun y H4 => ∃ acc, H4 D = some (.lst acc) ∧ acc.length < sizeLine ∧ Pv (i + 1) (upd H4 D (.lst (acc ++ [y]))) else Pv (i + 1) H3) (hd : ∀ H, Pv n H → Qd H) :
    ∃ W : Nat → Nat → Hp → Prop, (∃ m, W 0 m (upd H1 D (.lst []))) ∧ ∀ i m H, W i m H →
      ((Itr 0 n).stop i H ∧ Qd H) ∨ ((Itr 0 n).go i H ∧ ∃ Nx : Hp → Prop, (∀ H', Nx H' → ∃ m', m' < m ∧ W (i + 1) m' H') ∧ ∀ x H', (Itr 0 n).yld i H x H' → g x (wipe σ vs) H' fun σ2 H2 => wipe σ2 vs = wipe σ vs ∧ tt σ2 H2 fun b H3 =>
        if b = true then te σ2 H3 fun y H4 => ∃ acc, H4 D = some (.lst acc) ∧ acc.length < sizeLine ∧ Nx (upd H4 D (.lst (acc ++ [y]))) else Nx H3) :=
  lc_range (lo := 0) (n := n) Pv h0 (fun i H hi p => by rw [Int.zero_add]; exact hs i H hi p) hd
/-- a list of pairs, sorted -/
theorem sorted_prs {H : Hp} {qs : List Addr} {l : List E2} (h : Prs H qs l) (nd : qs.Nodup) {ys : List V} (hs : SrtO.Srtd (ltP (kfOf qs l)) ys) (hp : ys.Perm (qs.map V.ref)) : ∃ ps, ys = ps.map V.ref ∧ Prs H ps (srt2 l) ∧ ps.Nodup := by
  obtain ⟨ps, rfl, hpm⟩ := refs_perm hp
  have e : ps.map (edOf qs l) = srt2 l := by
    refine srt2_of ?_ ?_
    · have := hpm.map (edOf qs l)
      rw [ed_map h nd] at this
      exact this
    · have h0 : (ps.map V.ref).Pairwise (fun x y => ltP (kfOf qs l) y x = false) := hs
      rw [List.pairwise_map] at h0 ⊢
      refine h0.imp fun {a b} h => ?_
      have h2 := SrtO.lexB_no.mp h
      rw [lexle_iff]
      simp only [kfOf] at h2
      omega
  refine ⟨ps, rfl, ?_, hpm.nodup_iff.mpr nd⟩
  rw [← e]
  refine ⟨(List.length_map _).symm, fun i x y hx hy => ?_⟩
  obtain ⟨x', hx', rfl⟩ := map_got hy
  rw [hx] at hx'
  cases hx'
  exact ed_heap h nd (hpm.mem_iff.mp (List.mem_of_getElem? hx))
theorem kf_items {H : Hp} {qs : List Addr} {l : List E2} (h : Prs H qs l) (nd : qs.Nodup) : ∀ x ∈ qs.map V.ref, ∃ t, x = V.ref t ∧ H t = some (.tup [.int (kfOf qs l x).1, .int (kfOf qs l x).2]) := fun x hx => by
  obtain ⟨q, hq, rfl⟩ := List.mem_map.mp hx
  exact ⟨q, rfl, ed_heap h nd hq⟩
theorem nodup_new {H : Hp} {ps : List Addr} {l : List E2} (h : Prs H ps l) {q : Addr} (nq : H q = none) : q ∉ ps := fun hm => by
  obtain ⟨j, hj⟩ := List.mem_iff_getElem?.mp hm
  have hl := (List.getElem?_eq_some_iff.mp hj).1
  rw [h.1] at hl
  have := h.2 j q _ hj (List.getElem?_eq_getElem hl)
  rw [nq] at this
  cases this
theorem Prs.put {H : Hp} {ps : List Addr} {l : List E2} (h : Prs H ps l) {D : Addr} {xs ys : List V} (hD : H D = some (.lst xs)) : Prs (upd H D (.lst ys)) ps l :=
  ⟨h.1, fun i p e hp he => by
    rw [upd_ne (ne_of (h.2 i p e hp he) hD (by intro z; cases z))]
    exact h.2 i p e hp he⟩
theorem ne_str {a b : Str} (h : a = b) : (!decide (V.str a = V.str b)) = false := by
  rw [h]
  simp
theorem ne_int {a b : Int} (h : a = b) : (!decide (V.int a = V.int b)) = false := by
  rw [h]
  simp
theorem nd_snocA {l : List Addr} {x : Addr} (h : l.Nodup) (hx : x ∉ l) : (l ++ [x]).Nodup := by
  rw [List.nodup_append]
  refine ⟨h, by simp, fun u hu v hv => ?_⟩
  rw [List.mem_singleton] at hv
  rintro rfl
  exact hx (hv ▸ hu)
end TR

namespace L2.TT
open PySem PySem.Spec PyProof.Rows
theorem it_K {X : Cx} {K : PySem.W.Frag} (h : X.K = K) : IxR X (rIxT K) := by
  subst h
  exact ix_tup
end L2.TT
namespace TR
open PySem PySem.Spec PyProof.Rows L2 L2.TT StX ClX
theorem tyOf_same {K : PySem.W.Frag} {H H' : Hp} {v : V} {t : Value} (h : TyOf K H v t) (s : Same H H') : TyOf K H' v t := by
  cases h with
  | non => exact .non
  | bl x => exact .bl x
  | int x => exact .int x
  | str x => exact .str x
  | flt x => exact .flt x
  | lst e => exact .lst (s _ _ e)
  | frz e => exact .frz (s _ _ e)
  | tup e => exact .tup (s _ _ e)
  | dK e => exact .dK (s _ _ e)
  | dT e => exact .dT (s _ _ e)
  | ins e a b c d f => exact .ins (s _ _ e) a b c d f
theorem tyX_same {K : PySem.W.Frag} {H H' : Hp} {v : V} {t : Value} (h : TyX K H v t) (s : Same H H') : TyX K H' v t := by
  cases h with
  | base h => exact .base (tyOf_same h s)
  | byt b => exact .byt b
  | set e => exact .set (s _ _ e)
  | kList e c => exact .kList e c
  | kTuple e c => exact .kTuple e c
  | kDict e c => exact .kDict e c
  | fTuple e => exact .fTuple (s _ _ e)
  | fDict e => exact .fDict (s _ _ e)
theorem iv_same {K : PySem.W.Frag} {H H' : Hp} {v : V} (h : IV K H v) (s : Same H H') : IV K H' v := by
  rcases h with h | h | ⟨n, h, k⟩
  · exact .inl h
  · exact .inr (.inl h)
  · exact .inr (.inr ⟨n, tyX_same h s, k⟩)
end TR

namespace TR
open PySem PySem.Spec PyProof.Rows L2 L2.TT StX ClX
theorem PV.same {K : PySem.W.Frag} {H H' : Hp} {v : V} {o : Option (V × V)} (h : PV K H v o) (s : Same H H') : PV K H' v o := by
  cases h with
  | two h hx hy => exact .two (s _ _ h) (iv_same hx s) (iv_same hy s)
  | tup h hn => exact .tup (s _ _ h) hn
  | no t kb => exact .no (tyX_same t s) kb
theorem pr_get {α β : Type} {R : α → β → Prop} : ∀ {l : List α} {m : List β} {i : Nat} {x : α}, Paired R l m → l[i]? = some x → ∃ y, m[i]? = some y ∧ R x y
  | _, _, 0, _, .cons h _, e => by
    cases Option.some.inj e
    exact ⟨_, rfl, h⟩
  | _, _, i + 1, _, .cons _ t, e => pr_get (i := i) t e
theorem pvs_same {K : PySem.W.Frag} {H H' : Hp} (s : Same H H') : ∀ {xs : List V} {os : List (Option (V × V))}, Paired (PV K H) xs os → Paired (PV K H') xs os
  | _, _, .nil => .nil
  | _, _, .cons h t => .cons (h.same s) (pvs_same s t)
theorem paired_len {α β : Type} {R : α → β → Prop} : ∀ {l : List α} {m : List β}, Paired R l m → l.length = m.length
  | _, _, .nil => rfl
  | _, _, .cons _ t => congrArg (· + 1) (paired_len t)
end TR

namespace TR
open PySem PySem.Spec PyProof.Rows L2 L2.TT StX ClX
/-- the tuple ENDS of the module -/
structure EndsC (K : PySem.W.Frag) (mg : Str → Option Value) : Prop where
  ex : ∃ E : Addr, mg "ENDS" = some (.ref E) ∧ ∀ H, SqT K H E [.str "head", .str "tail"]
/-- whether a pair is a move on so many stations -/
def isMv (o : Option (V × V)) (n : Nat) : Bool := match o with
  | some (x, y) => inV x [.str "head", .str "tail"] && inR y 0 n
  | none => false
def flat1 (o : Option (V × V)) : Prop := ∀ x y, o = some (x, y) → flatV x = true
def spIsMv (C : Addr) (K : PySem.W.Frag) : Sp := fun vs H Q _ => ∃ (r : Addr) (tr : List E2) (v : V) (o : Option (V × V)), vs = [.ref r, v] ∧ RailAt C H r tr ∧ PV K H v o ∧ flat1 o ∧ Q (.bl (isMv o tr.length)) H
/-- the first that is no move -/
def badMv (n : Nat) : List (Option (V × V)) → Option Nat
  | [] => none
  | o :: os => if isMv o n = true then (badMv n os).map (· + 1) else some 0
def spChkMv (C CM : Addr) (K : PySem.W.Frag) : Sp := fun vs H Q E => ∃ (r : Addr) (tr : List E2) (v : V), vs = [.ref r, v] ∧ RailAt C H r tr ∧
  ((∃ (t : Addr) (xs : List V) (os : List (Option (V × V))), v = .ref t ∧ H t = some (.tup xs) ∧ Paired (PV K H) xs os ∧ (∀ o ∈ os, flat1 o) ∧ (badMv tr.length os = none → ∀ H', Same H H' → Q .non H') ∧
    (∀ i, badMv tr.length os = some i → ∀ d H', Same H H' → H' d = none → E (.ref CM) (some d) (upd H' d (.xd [("position", iv i)])))) ∨
   ((∃ n, TyX K H v (.type n) ∧ kitB n "tuple" = some false) ∧ ∀ d, H d = none → E (.ref CM) (some d) (upd H d (.xd [("position", .non)]))))
section
variable {P : Program} {w : World} {K : PySem.W.Frag} {mg : Str → Option Value} {base : Heap}
abbrev N_sc_ismv : List Str := ["railway", "value"]
theorem sc_ismv : FnScope N_sc_ismv ["railway", "value"] (defScope s_is_move) := ⟨rfl, rfl, rfl, by decide +kernel, rfl, by decide +kernel, by decide +kernel⟩
theorem ok_ismv {f fI C : Addr} {fd fdI : FuncData} (F : Fun K "is_move" "is_move" s_is_move f fd) (N : Nm mg) (EC : EndsC K mg) (U : Use P w K mg base CX0 3 "is_station" fI fdI ["railway", "value"] (spIsSt C K)) : FnOk P w K mg base CX0 4 f fd ["railway", "value"] (spIsMv C K) := by
  refine F.ok sc_ismv (fun vs H Q E h => ?_) (fun cdv A outer s H vs Q E hr h => ?_)
  · obtain ⟨r, tr, v, o, rfl, _⟩ := h
    rfl
  · obtain ⟨r, tr, v, o, rfl, R, hv, fl, k⟩ := h
    obtain ⟨E0, mE, sE⟩ := EC.ex
    refine ⟨_, (pss_cons (ps_if (PW.pt (pw_or (pt_not (pt_val (pe_callB call_isi (by rfl) N.isi boot_isinstance (pa_cons (pv 1) (pa_cons (pe_bltn (v := .ty "tuple") (by rfl) N.tuple (by decide +kernel) rfl) pa_nil))))) (pw_or1 (pt_cmpR op_ne (pe_callB call_len_seq (by rfl) N.len boot_len (pa_cons (pv 1) pa_nil)) pe_int (nomark _))))) (pss_one (ps_ret pe_bl)) pss_nil)
        (pss_one (ps_ret (pe_and (pe_cmpR op_in_seq (pe_ix ix_tup (pv 1) pe_int (fun _ _ => rfl)) (pe_glob (v := .ref E0) (by rfl) mE rfl) (by with_unfolding_all rfl)) (pe_one (pe_use U hr (by rfl) (pa_cons (pv 0) (pa_cons (pe_ix ix_tup (pv 1) pe_int (fun _ _ => rfl)) pa_nil)))))))), ?_⟩
    cases hv with
    | no t kb =>
      refine ⟨_, rfl, _, _, _, _, false, rfl, .ty _, t, kit_ty kb, false, rfl, ?_⟩
      refine iteT ?_
      refine iteT ?_
      exact k
    | @tup a xs h hn =>
      refine ⟨_, rfl, _, _, _, _, true, rfl, .ty _, .base (.tup h), tup_tup, true, rfl, ?_⟩
      refine iteF ?_
      refine ⟨_, rfl, _, _, rfl, .inr (SqT.of h), rfl, _, rfl, ?_⟩
      refine ite2 (fun _ => ?_) (fun z => ?_)
      · exact k
      · exfalso
        apply z
        show (!decide (V.int (xs.length : Nat) = V.int 2)) = true
        simp only [Bool.not_eq_true', decide_eq_false_iff_not, V.int.injEq]
        omega
    | @two a x y h hx hy =>
      refine ⟨_, rfl, _, _, _, _, true, rfl, .ty _, .base (.tup h), tup_tup, true, rfl, ?_⟩
      refine iteF ?_
      refine ⟨_, rfl, _, _, rfl, .inr (SqT.of h), rfl, _, rfl, ?_⟩
      refine iteF ?_
      have fx := fl x y rfl
      refine ⟨_, rfl, a, _, _, _, rfl, rfl, SqT.of h, atN (n := 0) rfl, E0, _, rfl, .inr (sE H), fx, rfl, _, rfl, ?_⟩
      show (if inV x [.str "head", .str "tail"] = true then _ else _)
      cases e1 : inV x [.str "head", .str "tail"] with
      | false =>
        have e : isMv (some (x, y)) tr.length = false := by show (inV x [.str "head", .str "tail"] && inR y 0 tr.length) = false; rw [e1]; rfl
        rw [e] at k
        exact iteF k
      | true =>
        have e : isMv (some (x, y)) tr.length = inR y 0 tr.length := by show (inV x [.str "head", .str "tail"] && inR y 0 tr.length) = _; rw [e1]; rfl
        rw [e] at k
        refine iteT ?_
        exact ⟨_, rfl, _, rfl, a, _, _, _, rfl, rfl, SqT.of h, atN (n := 1) rfl, r, tr, y, rfl, R, hy, k⟩
abbrev N_sc_chkmv : List Str := ["railway", "moves", "index", "move"]
theorem sc_chkmv : FnScope N_sc_chkmv ["railway", "moves"] (defScope s_check_moves) := ⟨rfl, rfl, rfl, by decide +kernel, rfl, by decide +kernel, by decide +kernel⟩
theorem ok_chkmv {f fI C CM : Addr} {fd fdI : FuncData} (F : Fun K "check_moves" "check_moves" s_check_moves f fd) (N : Nm mg) (U : Use P w K mg base CX0 4 "is_move" fI fdI ["railway", "value"] (spIsMv C K)) (Z : RzC P w K mg base "InvalidMove" CM "position") :
    FnOk P w K mg base (L2.CX P w) 5 f fd ["railway", "moves"] (spChkMv C CM K) := by
  refine L2.Fun.okX F sc_chkmv (fun vs H Q E h => ?_) (fun cdv A outer s H vs Q E hr h => ?_)
  · obtain ⟨r, tr, v, rfl, _⟩ := h
    rfl
  · obtain ⟨r, tr, v, rfl, R, h⟩ := h
    obtain ⟨fI, fdI, i1, i2, F1, b1⟩ := Z.ex
    refine ⟨_, (pss_cons (ps_if (pt_not (pt_val (pe_callB call_isi (by rfl) N.isi boot_isinstance (pa_cons (pv 1) (pa_cons (pe_bltn (v := .ty "tuple") (by rfl) N.tuple (by decide +kernel) rfl) pa_nil))))) (pss_one (ps_raise rfl (takes_of rfl rfl rfl rfl) (pmk_oxg Z.ox i1 i2 F1 (hr.mono (by decide)) b1 .nil pass0 rfl Z.mgC (pa_cons pe_non pa_nil)))) pss_nil)
        (pss_one (ps_for (passes_of rfl) rfl (pi_enumT (by rfl) N.enum (pa_cons (pv 1) pa_nil)) (pg_tup rfl (pgs_cons (pg_name (i := 2) sc_chkmv.nd rfl (.inl rfl)) (pgs_cons (pg_name (i := 3) sc_chkmv.nd rfl (.inl rfl)) pgs_nil)))
          (pss_one (ps_if (pt_not (pt_val (pe_use U hr (by rfl) (pa_cons (pv 0) (pa_cons (pv 3) pa_nil))))) (pss_one (ps_raise rfl (takes_of rfl rfl rfl rfl) (pmk_oxg Z.ox i1 i2 F1 (hr.mono (by decide)) b1 .nil pass0 rfl Z.mgC (pa_cons (pv 2) pa_nil)))) pss_nil))))), ?_⟩
    rcases h with ⟨t, xs, os, rfl, ht, hP, hF, k1, k2⟩ | ⟨⟨n, ty, kb⟩, k⟩
    · refine ⟨_, rfl, _, _, _, _, true, rfl, .ty _, .base (.tup ht), tup_tup, true, rfl, ?_⟩
      refine iteF ?_
      refine ⟨_, rfl, t, _, rfl, SqT.of ht, ?_⟩
      refine for_enumT (K := K) (a := t) (xs := xs) (fun i σ H' => ∃ x2 x3, σ = [some (.ref r), some (.ref t), x2, x3] ∧ Same H H' ∧ badMv tr.length os = (badMv tr.length (os.drop i)).map (· + i)) ⟨_, _, rfl, Same.refl _, ?_⟩ (fun i σ H' _ ⟨_, _, _, s1, _⟩ => SqT.of (s1 _ _ ht)) ?_ ?_
      · rw [List.drop_zero]
        cases badMv tr.length os <;> rfl
      · rintro i x T σ H' hx ⟨x2, x3, rfl, s1, e⟩ nT
        obtain ⟨o, ho, hv⟩ := pr_get hP hx
        have sT := same_upd nT (.tup [V.int (i : Nat), x])
        have s2 := s1.trans sT
        have hT := upd_same (H := H') (a := T) (o := .tup [V.int (i : Nat), x])
        generalize upd H' T (.tup [V.int (i : Nat), x]) = H2 at sT s2 hT ⊢
        have ed : os.drop i = o :: os.drop (i + 1) := by
          obtain ⟨lt, e⟩ := List.getElem?_eq_some_iff.mp ho
          rw [← e]
          exact List.drop_eq_getElem_cons lt
        rw [ed] at e
        refine ⟨T, _, rfl, SqT.of hT, rfl, _, _, rfl, _, _, rfl, rfl, ?_⟩
        refine ⟨_, rfl, _, rfl, r, tr, x, o, rfl, R.same s2, hv.same s2, hF o (List.mem_of_getElem? ho), _, rfl, ?_⟩
        cases c : isMv o tr.length with
        | true =>
          refine iteF ?_
          refine ⟨_, _, rfl, s2, ?_⟩
          rw [e]
          show (if isMv o tr.length = true then _ else _ : Option Nat).map _ = _
          rw [if_pos c, Option.map_map]
          congr 1
          funext z
          show z + 1 + i = z + (i + 1)
          omega
        | false =>
          refine iteT ?_
          have e2 : badMv tr.length os = some i := by
            rw [e]
            show (if isMv o tr.length = true then _ else _ : Option Nat).map _ = _
            rw [if_neg (by rw [c]; decide)]
            show some (0 + i) = some i
            rw [Nat.zero_add]
          exact ⟨_, rfl, rz_end fun d nd => k2 i e2 d H2 s2 nd⟩
      · rintro σ H' ⟨x2, x3, rfl, s1, e⟩
        have e2 : badMv tr.length os = none := by
          rw [e, show os.drop xs.length = [] from by rw [paired_len hP]; exact List.drop_length]
          rfl
        exact k1 e2 H' s1
    · refine ⟨_, rfl, _, _, _, _, false, rfl, .ty _, ty, kit_ty kb, false, rfl, ?_⟩
      refine iteT ?_
      exact rz_end k
end
end TR


namespace TR
open PySem PySem.Spec PyProof.Rows L2 L2.TT StX ClX
def spChkLen : Sp := fun vs H Q _ => ∃ m : Nat, vs = [iv m] ∧ 1 ≤ m ∧ Q .non H
section
variable {P : Program} {w : World} {K : PySem.W.Frag} {mg : Str → Option Value} {base : Heap}
theorem sc_chklen : FnScope ["length"] ["length"] (defScope s_check_length) := ⟨rfl, rfl, rfl, by decide +kernel, rfl, by decide +kernel, by decide +kernel⟩
theorem ok_chklen {f fI : Addr} {fd fdI : FuncData} (F : Fun K "check_length" "check_length" s_check_length f fd) (U : Use P w K mg base CX0 1 "is_integer" fI fdI ["value"] (spIsInt K)) : FnOk P w K mg base CX0 2 f fd ["length"] spChkLen := by
  refine F.ok sc_chklen (fun vs H Q E h => ?_) (fun cdv A outer s H vs Q E hr h => ?_)
  · obtain ⟨m, rfl, _⟩ := h
    rfl
  · obtain ⟨m, rfl, hm, k⟩ := h
    refine ⟨_, pss_one (ps_if (PW.pt (pw_or (pt_not (pt_val (pe_use U hr rfl (pa_cons (pv 0) pa_nil)))) (pw_or1 (pt_cmpR op_lt (pv 0) pe_int (nomark _))))) pss_never pss_nil), ?_⟩
    refine ⟨_, rfl, _, rfl, .inl ⟨_, rfl⟩, _, rfl, ?_⟩
    refine iteF ?_
    refine ⟨_, rfl, _, _, rfl, rfl, _, rfl, ?_⟩
    rw [show decide ((m : Int) < 1) = false from decide_eq_false (by omega)]
    exact iteF k
end
end TR

namespace TR
open PySem PySem.Spec PyProof.Rows L2 L2.TT StX ClX
def spPartBody (C : Addr) : Sp := fun vs H Q _ => ∃ (r t : Addr) (tr : List E2) (a b m : Nat), vs = [.ref r, .ref t, iv m] ∧ RailAt C H r tr ∧ H t = some (.tup [iv a, iv b]) ∧ a ≤ tr.length ∧ b ≤ tr.length ∧ a ≠ b ∧ 1 ≤ m ∧ (∀ l, SW tr a b l → m < l.length) ∧
  ∀ (l : List Nat) (p : Addr) (H' : Hp), SW tr a b l → Same H H' → H p = none → H' p = some (.tup (l.map iv)) → Q (.ref p) H'
def spFront (C : Addr) : Sp := fun vs H Q _ => ∃ (r t : Addr) (tr : List E2) (a b m : Nat), vs = [.ref r, .ref t, iv m] ∧ RailAt C H r tr ∧ H t = some (.tup [iv a, iv b]) ∧ a ≤ tr.length ∧ b ≤ tr.length ∧ a ≠ b ∧ 1 ≤ m ∧ (∀ l, SW tr a b l → m < l.length) ∧
  ∀ (l : List Nat) (x : Nat) (p : Addr) (H' : Hp), SW tr a b l → l[m]? = some x → Same H H' → H p = none → H' p = some (.tup [iv a, iv x]) → Q (.ref p) H'
def spRear (C : Addr) : Sp := fun vs H Q _ => ∃ (r t : Addr) (tr : List E2) (a b m : Nat), vs = [.ref r, .ref t, iv m] ∧ RailAt C H r tr ∧ H t = some (.tup [iv a, iv b]) ∧ a ≤ tr.length ∧ b ≤ tr.length ∧ a ≠ b ∧ 1 ≤ m ∧ (∀ l, SW tr a b l → m < l.length) ∧
  ∀ (l : List Nat) (x : Nat) (p : Addr) (H' : Hp), SW tr a b l → l[l.length - 1 - m]? = some x → Same H H' → H p = none → H' p = some (.tup [iv x, iv b]) → Q (.ref p) H'
theorem at_head {l : List Nat} {a : Nat} (h : l.head? = some a) : atI (l.map iv) 0 = some (iv a) := by
  cases l with
  | nil => cases h
  | cons x r =>
    obtain rfl : x = a := by simpa using h
    exact atI_pos (by decide) rfl
theorem at_tail {l : List Nat} {b : Nat} (h : l.getLast? = some b) : atI (l.map iv) (-1) = some (iv b) := by
  obtain ⟨q, rfl⟩ : ∃ q, l = q ++ [b] := by
    have := List.getLast?_eq_some_iff.mp h
    exact this
  exact at_last
theorem atN_at {l : List Nat} {m x : Nat} (h : l[m]? = some x) : atI (l.map iv) (m : Int) = some (iv x) :=
  atI_pos (by omega) (by rw [Int.toNat_natCast, List.getElem?_map, h]; rfl)
theorem atI_end {l : List Nat} {m x : Nat} (hm : m < l.length) (h : l[l.length - 1 - m]? = some x) : atI (l.map iv) (-1 - (m : Int)) = some (iv x) := by
  have e : ixN (l.map iv).length (-1 - (m : Int)) = some (l.length - 1 - m) := by
    unfold ixN
    rw [if_neg (by omega), if_pos (by rw [List.length_map]; omega), List.length_map]
    have : (-1 - (m : Int) + (l.length : Int)).toNat = l.length - 1 - m := by omega
    rw [this]
  unfold atI
  rw [e]
  show (l.map iv)[l.length - 1 - m]? = _
  rw [List.getElem?_map, h]
  rfl
section
variable {P : Program} {w : World} {K : PySem.W.Frag} {mg : Str → Option Value} {base : Heap}
theorem sc_bpart : FnScope ["railway", "standing", "length", "body"] ["railway", "standing", "length"] (defScope s_body_for_part) := ⟨rfl, rfl, rfl, by decide +kernel, rfl, by decide +kernel, by decide +kernel⟩
theorem ok_bpart {f fI fL C : Addr} {fd fdI fdL : FuncData} (F : Fun K "_body_for_part" "_body_for_part" s_body_for_part f fd) (N : Nm mg) (U : Use P w K mg base CX0 6 "body_of" fI fdI ["railway", "standing"] (spBody C)) (UL : Use P w K mg base CX0 2 "check_length" fL fdL ["length"] spChkLen) :
    FnOk P w K mg base CX0 7 f fd ["railway", "standing", "length"] (spPartBody C) := by
  refine F.ok sc_bpart (fun vs H Q E h => ?_) (fun cdv A outer s H vs Q E hr h => ?_)
  · obtain ⟨r, t, tr, a, b, m, rfl, _⟩ := h
    rfl
  · obtain ⟨r, t, tr, a, b, m, rfl, R, ht, ha, hb, ne, hm, hl, k⟩ := h
    refine ⟨_, pss_cons (ps_set (i := 3) sc_bpart.nd rfl (.inl rfl) (pe_use U hr rfl (pa_cons (pv 0) (pa_cons (pv 1) pa_nil))))
      (pss_cons (ps_expr (pe_use UL (hr.mono (by decide)) rfl (pa_cons (pv 2) pa_nil)))
      (pss_cons (ps_if (pt_cmpR op_ge (pv 2) (pe_callB call_len_seq (by rfl) N.len PySem.boot_len (pa_cons (pv 3) pa_nil)) (nomark _)) pss_never pss_nil)
      (pss_one (ps_ret (pv 3))))), ?_⟩
    refine ⟨_, rfl, _, rfl, r, t, tr, a, b, rfl, R, ht, ha, hb, ne, fun l p H' sw s1 np hp => ?_⟩
    refine ⟨_, rfl, m, rfl, hm, ?_⟩
    refine ⟨_, rfl, _, rfl, p, _, rfl, .inr (SqT.of hp), _, _, rfl, rfl, _, rfl, ?_⟩
    have := hl l sw
    rw [List.length_map, show decide ((l.length : Int) ≤ (m : Int)) = false from decide_eq_false (by omega)]
    exact iteF ⟨_, rfl, k l p H' sw s1 np hp⟩
theorem sc_front : FnScope ["railway", "standing", "length", "body"] ["railway", "standing", "length"] (defScope s_front_part) := ⟨rfl, rfl, rfl, by decide +kernel, rfl, by decide +kernel, by decide +kernel⟩
theorem ok_front {f fI C : Addr} {fd fdI : FuncData} (F : Fun K "front_part" "front_part" s_front_part f fd) (U : Use P w K mg base CX0 7 "_body_for_part" fI fdI ["railway", "standing", "length"] (spPartBody C)) :
    FnOk P w K mg base CX0 8 f fd ["railway", "standing", "length"] (spFront C) := by
  refine F.ok sc_front (fun vs H Q E h => ?_) (fun cdv A outer s H vs Q E hr h => ?_)
  · obtain ⟨r, t, tr, a, b, m, rfl, _⟩ := h
    rfl
  · obtain ⟨r, t, tr, a, b, m, rfl, R, ht, ha, hb, ne, hm, hl, k⟩ := h
    refine ⟨_, pss_cons (ps_set (i := 3) sc_front.nd rfl (.inl rfl) (pe_use U hr rfl (pa_cons (pv 0) (pa_cons (pv 1) (pa_cons (pv 2) pa_nil)))))
      (pss_one (ps_ret (pe_tup (pa_cons (pe_ix ix_tup (pv 3) pe_int (fun _ _ => rfl)) (pa_cons (pe_ix ix_tup (pv 3) (pv 2) (fun _ _ => rfl)) pa_nil))))), ?_⟩
    refine ⟨_, rfl, _, rfl, _, rfl, r, t, tr, a, b, m, rfl, R, ht, ha, hb, ne, hm, hl, fun l p H' sw s1 np hp => ?_⟩
    have hlt := hl l sw
    have hx : l[m]? = some l[m] := List.getElem?_eq_getElem hlt
    refine ⟨_, rfl, p, _, _, _, rfl, rfl, SqT.of hp, at_head sw.hd, _, rfl, _, rfl, p, _, _, _, rfl, rfl, SqT.of hp, atN_at hx, by show 2 ≤ sizeLine; rw [sizeLine_eq]; decide, fun q nq => ?_⟩
    exact k l _ q _ sw hx (s1.trans (same_upd nq _)) (s1.free nq) upd_same
theorem sc_rear : FnScope ["railway", "standing", "length", "body"] ["railway", "standing", "length"] (defScope s_rear_part) := ⟨rfl, rfl, rfl, by decide +kernel, rfl, by decide +kernel, by decide +kernel⟩
theorem ok_rear {f fI C : Addr} {fd fdI : FuncData} (F : Fun K "rear_part" "rear_part" s_rear_part f fd) (U : Use P w K mg base CX0 7 "_body_for_part" fI fdI ["railway", "standing", "length"] (spPartBody C)) :
    FnOk P w K mg base CX0 8 f fd ["railway", "standing", "length"] (spRear C) := by
  refine F.ok sc_rear (fun vs H Q E h => ?_) (fun cdv A outer s H vs Q E hr h => ?_)
  · obtain ⟨r, t, tr, a, b, m, rfl, _⟩ := h
    rfl
  · obtain ⟨r, t, tr, a, b, m, rfl, R, ht, ha, hb, ne, hm, hl, k⟩ := h
    refine ⟨_, pss_cons (ps_set (i := 3) sc_rear.nd rfl (.inl rfl) (pe_use U hr rfl (pa_cons (pv 0) (pa_cons (pv 1) (pa_cons (pv 2) pa_nil)))))
      (pss_one (ps_ret (pe_tup (pa_cons (pe_ix ix_tup (pv 3) (pe_op op_sub (pe_un un_neg pe_int) (pv 2)) (fun _ _ => rfl)) (pa_cons (pe_ix ix_tup (pv 3) (pe_un un_neg pe_int) (fun _ _ => rfl)) pa_nil))))), ?_⟩
    refine ⟨_, rfl, _, rfl, _, rfl, r, t, tr, a, b, m, rfl, R, ht, ha, hb, ne, hm, hl, fun l p H' sw s1 np hp => ?_⟩
    have hlt := hl l sw
    have hx : l[l.length - 1 - m]? = some l[l.length - 1 - m] := List.getElem?_eq_getElem (by omega)
    refine ⟨_, rfl, _, rfl, _, rfl, _, _, rfl, rfl, p, _, _, _, rfl, rfl, SqT.of hp, atI_end hlt hx, _, rfl, _, rfl, p, _, _, _, rfl, rfl, SqT.of hp, at_tail sw.lt, by show 2 ≤ sizeLine; rw [sizeLine_eq]; decide, fun q nq => ?_⟩
    exact k l _ q _ sw hx (s1.trans (same_upd nq _)) (s1.free nq) upd_same
end
end TR

namespace TR
open PySem PySem.Spec PyProof.Rows L2 L2.TT StX ClX
/-- the index of the first move that is not possible -/
def fstBad (tr : List E2) : List Nat → List Mv → Option Nat
  | _, [] => none
  | l, m :: ms => if canM tr l m = true then (fstBad tr (aft l m) ms).map (· + 1) else some 0
theorem fstBad_ok {tr : List E2} : ∀ {l : List Nat} {ms : List Mv}, okM tr l ms = true → fstBad tr l ms = none
  | _, [], _ => rfl
  | l, m :: ms, h => by
    have h : (canM tr l m && okM tr (aft l m) ms) = true := h
    rw [Bool.and_eq_true] at h
    show (if canM tr l m = true then _ else _) = _
    rw [if_pos h.1, fstBad_ok h.2]
    rfl
theorem fstBad_at {tr : List E2} {m : Mv} {ns : List Mv} : ∀ {l : List Nat} {ms : List Mv}, okM tr l ms = true → canM tr (endB l ms) m = false → fstBad tr l (ms ++ m :: ns) = some ms.length
  | l, [], _, h => by
    show (if canM tr l m = true then _ else _) = _
    rw [if_neg (by rw [show canM tr l m = false from h]; decide)]
    rfl
  | l, k :: ms, h, c => by
    have h : (canM tr l k && okM tr (aft l k) ms) = true := h
    rw [Bool.and_eq_true] at h
    show (if canM tr l k = true then (fstBad tr (aft l k) (ms ++ m :: ns)).map (· + 1) else some 0) = _
    rw [if_pos h.1, fstBad_at h.2 c]
    rfl
theorem fstBad_none {tr : List E2} : ∀ {l : List Nat} {ms : List Mv}, fstBad tr l ms = none → okM tr l ms = true
  | _, [], _ => by rw [okM]
  | l, m :: ms, h => by
    have h : (if canM tr l m = true then (fstBad tr (aft l m) ms).map (· + 1) else some 0) = none := h
    by_cases c : canM tr l m = true
    · rw [if_pos c] at h
      show (canM tr l m && okM tr (aft l m) ms) = true
      rw [c, fstBad_none (Option.map_eq_none_iff.mp h)]
      rfl
    · rw [if_neg c] at h
      cases h
def spAlong (C CB : Addr) : Sp := fun vs H Q E => ∃ (r q t : Addr) (tr : List E2) (l : List Nat) (ps : List Addr) (ms : List Mv), vs = [.ref r, .ref q, .ref t] ∧ RailAt C H r tr ∧ H q = some (.tup [iv (hd0 l), iv (lt0 l)]) ∧ Bd tr l ∧
  H t = some (.tup (ps.map V.ref)) ∧ Lay MvR H ps ms ∧ (∀ m ∈ ms, m.2 ≤ tr.length) ∧ ms.length ≤ 1000 ∧
  (fstBad tr l ms = none → ∀ D bs H', Same H H' → H' D = some (.lst (bs.map V.ref)) → Lay BdR H' bs (runM tr l ms) → Q (.ref D) H') ∧
  (∀ i, fstBad tr l ms = some i → ∀ d H', Same H H' → H' d = none → E (.ref CB) (some d) (upd H' d (.xd [("position", iv i)])))
theorem atI_lastV {xs : List V} {n : Nat} {x : V} (h : xs.length = n + 1) (hx : xs[n]? = some x) : atI xs (-1) = some x := by
  have e : ixN xs.length (-1) = some n := by
    unfold ixN
    rw [if_neg (by omega), if_pos (by omega), h]
    congr 1
    omega
  unfold atI
  rw [e]
  exact hx
/-- moves are moves -/
theorem pv_mvs {K : PySem.W.Frag} {H : Hp} {n : Nat} : ∀ {ps : List Addr} {ms : List Mv}, Lay MvR H ps ms → (∀ m ∈ ms, m.2 ≤ n) → Paired (PV K H) (ps.map V.ref) (ms.map fun m => some (V.str (mvw m.1), iv m.2)) ∧ badMv n (ms.map fun m => some (V.str (mvw m.1), iv m.2)) = none
  | [], [], _, _ => ⟨.nil, rfl⟩
  | [], _ :: _, h, _ => by cases h.len
  | _ :: _, [], h, _ => by cases h.len
  | p :: ps, m :: ms, h, k => by
    have h1 := h.at_ 0 p m rfl rfl
    obtain ⟨q1, q2⟩ := pv_mvs (K := K) (H := H) (n := n) (ps := ps) (ms := ms) ⟨Nat.succ.inj h.len, fun i p x hp hx => h.at_ (i + 1) p x hp hx⟩ (fun m' hm' => k m' (List.mem_cons_of_mem _ hm'))
    refine ⟨.cons (.two h1 (.inr .str) (.inl ⟨_, rfl⟩)) q1, ?_⟩
    have e : isMv (some (V.str (mvw m.1), iv m.2)) n = true := by
      have := k m List.mem_cons_self
      show (inV (V.str (mvw m.1)) [.str "head", .str "tail"] && inR (iv m.2) 0 n) = true
      rw [show inV (V.str (mvw m.1)) [.str "head", .str "tail"] = true from by cases m.1 <;> decide +kernel]
      show (decide ((0 : Int) ≤ (m.2 : Int)) && decide ((m.2 : Int) ≤ (n : Int))) = true
      rw [decide_eq_true (by omega), decide_eq_true (by omega)]
      rfl
    show (if isMv (some (V.str (mvw m.1), iv m.2)) n = true then (badMv n (ms.map fun m => some (V.str (mvw m.1), iv m.2))).map (· + 1) else some 0) = none
    rw [if_pos e, q2]
    rfl
theorem flat_mvs (ms : List Mv) : ∀ o ∈ ms.map fun m => some (V.str (mvw m.1), iv m.2), flat1 o := fun o ho => by
  obtain ⟨m, _, rfl⟩ := List.mem_map.mp ho
  intro x y e
  cases e
  rfl
theorem old_read {K : PySem.W.Frag} {σ : L2.St} {H : Hp} {Q : VK} {i j : Nat} {e : Bool} {p : Addr} {l : List Nat} (h5 : σ[i]? = some (some (V.str (mvw e)))) (h7 : σ[j]? = some (some (V.ref p))) (hp : BdR H p l) (h2 : 2 ≤ l.length) (k : Q (iv (endM l e)) H) :
    tIf (tTest (tOp rEq (tVar i) (tC (V.str "head")))) (tOp (rIxT K) (tVar j) (tC (V.int 0))) (tOp (rIxT K) (tVar j) (tUn (rU fun i => V.int (-i)) (tC (V.int 1)))) σ H Q := by
  refine ⟨_, h5, rfl, _, rfl, ?_⟩
  rw [mvw_hdV]
  cases e with
  | true =>
    refine iteT ?_
    exact ⟨_, h7, p, _, _, _, rfl, rfl, SqT.of hp, atHd h2, k⟩
  | false =>
    refine iteF ?_
    exact ⟨_, h7, _, rfl, p, _, _, _, rfl, rfl, SqT.of hp, atLt h2, k⟩
theorem Bd.endle {tr : List E2} {l : List Nat} (b : Bd tr l) (e : Bool) : endM l e ≤ tr.length := by
  cases e with
  | true => exact b.hle
  | false => exact b.lle
theorem can_iff {tr : List E2} {l : List Nat} {m : Mv} : canM tr l m = (decide (m.2 ∈ nb tr (endM l m.1)) && decide (m.2 ∉ l)) := by
  unfold canM fre
  rw [Bool.eq_iff_iff, Bool.and_eq_true]
  simp only [decide_eq_true_iff, List.mem_filter]
section
variable {P : Program} {w : World} {K : PySem.W.Frag} {mg : Str → Option Value} {base : Heap}
abbrev N_sc_along : List Str := ["railway", "standing", "moves", "bodies", "index", "end", "station", "body", "old"]
theorem sc_along : FnScope N_sc_along ["railway", "standing", "moves"] (defScope s_bodies_along) := ⟨rfl, rfl, rfl, by decide +kernel, rfl, by decide +kernel, by decide +kernel⟩
theorem ok_along {f fB fC fA fN C CM CB : Addr} {fd fdB fdC fdA fdN : FuncData} (F : Fun K "bodies_along" "bodies_along" s_bodies_along f fd) (N : Nm mg) (X : TxtR K mg C) (UB : Use P w K mg base CX0 6 "body_of" fB fdB ["railway", "standing"] (spBody C)) (UC : UseX P w K mg base 5 "check_moves" fC fdC ["railway", "moves"] (spChkMv C CM K))
    (UA : Use P w K mg base CX0 1 "_body_after" fA fdA ["body", "end", "station"] spAft) (Mn : MU P w K mg base C 5 "neighbours" fN fdN ["self", "station"] (spNbr C)) (Z : RzC P w K mg base "Blocked" CB "position") :
    FnOk P w K mg base (L2.CX P w) 7 f fd ["railway", "standing", "moves"] (spAlong C CB) := by
  refine L2.Fun.okX F sc_along (fun vs H Q E h => ?_) (fun cdv A outer s H vs Q E hr h => ?_)
  · obtain ⟨r, q, t, tr, l, ps, ms, rfl, _⟩ := h
    rfl
  · obtain ⟨r, q, t, tr, l, ps, ms, rfl, R, hq, b, ht, LP, hm, hl, k1, k2⟩ := h
    obtain ⟨fI, fdI, i1, i2, F1, b1⟩ := Z.ex
    refine ⟨_, (pss_cons (ps_set (i := 3) sc_along.nd rfl (.inl rfl) (pe_lst (pa_cons (pe_use UB (hr.mono (by decide)) (by rfl) (pa_cons (pv 0) (pa_cons (pv 1) pa_nil))) pa_nil)))
        (pss_cons (ps_expr (pe_call UC.G (hr.mono (by decide)) (by rfl) UC.m UC.kp UC.b .nil (passes_call (takes_of rfl rfl rfl rfl) (fun _ _ _ _ h => h)) (pa_cons (pv 0) (pa_cons (pv 2) pa_nil))))
        (pss_cons (ps_for (passes_of rfl) rfl (pi_enumT (by rfl) N.enum (pa_cons (pv 2) pa_nil)) (pg_tup rfl (pgs_cons (pg_name (i := 4) sc_along.nd rfl (.inl rfl)) (pgs_cons (pg_tup rfl (pgs_cons (pg_name (i := 5) sc_along.nd rfl (.inl rfl)) (pgs_cons (pg_name (i := 6) sc_along.nd rfl (.inl rfl)) pgs_nil))) pgs_nil)))
          (pss_cons (ps_set (i := 7) sc_along.nd rfl (.inl rfl) (pe_ix ix_list (pv 3) (pe_un un_neg pe_int) (fun _ _ => rfl)))
          (pss_cons (ps_set (i := 8) sc_along.nd rfl (.inl rfl) (pe_ifExp (pt_cmpR op_eq (pv 5) pe_str (nomark _)) (pe_ix ix_tup (pv 7) pe_int (fun _ _ => rfl)) (pe_ix ix_tup (pv 7) (pe_un un_neg pe_int) (fun _ _ => rfl))))
          (pss_cons (ps_if (PW.pt (pw_or (pt_cmpR op_notIn_seq (pv 6) (pe_meth (pv 0) X.cl Mn.m Mn.G (hr.mono (by decide)) Mn.b .nil pass0 (pa_cons (pv 8) pa_nil)) (by with_unfolding_all rfl)) (pw_or1 (pt_cmpR op_in_seq (pv 6) (pv 7) (by with_unfolding_all rfl))))) (pss_one (ps_raise rfl (takes_of rfl rfl rfl rfl) (pmk_oxg Z.ox i1 i2 F1 (hr.mono (by decide)) b1 .nil pass0 rfl Z.mgC (pa_cons (pv 4) pa_nil)))) pss_nil)
          (pss_one (ps_expr (pe_bm PySem.F.plainAttrs_list PySem.F.slot_list_append PySem.F.type_list_append mt_append (pv 3) (pa_cons (pe_use UA (hr.mono (by decide)) (by rfl) (pa_cons (pv 7) (pa_cons (pv 5) (pa_cons (pv 6) pa_nil)))) pa_nil))))))))
        (pss_one (ps_ret (pv 3)))))), ?_⟩
    have one : (1 : Nat) ≤ sizeLine := by rw [sizeLine_eq]; decide
    have T := R.T
    refine ⟨_, rfl, _, rfl, r, q, tr, hd0 l, lt0 l, rfl, R, hq, b.hle, b.lle, b.ne, fun l' p H1 sw s1 np hp => ?_⟩
    cases SW.uniq T sw b.sw
    refine ⟨one, fun D nD => ?_⟩
    have a0 : Acc BdR H1 (upd H1 D (.lst [V.ref p])) D [p] [l] := ⟨upd_same, same_upd nD _, .one (same_upd nD _ _ _ hp)⟩
    have s2 := s1.trans a0.sm
    generalize upd H1 D (.lst [V.ref p]) = H2 at a0 s2 ⊢
    obtain ⟨q1, q2⟩ := pv_mvs (K := K) (LP.same firmM s2) hm
    refine ⟨_, rfl, _, rfl, r, tr, _, rfl, R.same s2, .inl ⟨t, _, _, rfl, s2 _ _ ht, q1, flat_mvs ms, fun _ H3 s3 => ?_, fun i e => absurd (q2.symm.trans e) (fun z => by cases z)⟩⟩
    have a3 := a0.later firmB s3
    refine ⟨_, rfl, t, _, rfl, SqT.of ((s2.trans s3) _ _ ht), ?_⟩
    have lm : ps.length = ms.length := LP.len
    refine for_enumT (K := K) (a := t) (xs := ps.map V.ref) (fun i σ H' => ∃ (bs : List Addr) (x4 x5 x6 x7 x8 : Option V), σ = [some (.ref r), some (.ref q), some (.ref t), some (.ref D), x4, x5, x6, x7, x8] ∧ Acc BdR H1 H' D bs ((runM tr l ms).take (i + 1)) ∧ i ≤ ms.length ∧ Bd tr (endB l (ms.take i)) ∧ fstBad tr l ms = (fstBad tr (endB l (ms.take i)) (ms.drop i)).map (· + i))
      ⟨[p], _, _, _, _, _, rfl, ?_, Nat.zero_le _, b, ?_⟩ (fun i σ H' _ ⟨_, _, _, _, _, _, _, a, _⟩ => SqT.of ((s1.trans a.sm) _ _ ht)) ?_ ?_
    · cases ms with
      | nil => exact a3
      | cons m ms => exact a3
    · rw [List.drop_zero]
      show _ = (fstBad tr l ms).map _
      cases fstBad tr l ms <;> rfl
    · rintro i v T0 σ H4 hv ⟨bs, x4, x5, x6, x7, x8, rfl, a, hi, bi, ef⟩ nT
      obtain ⟨pm, m, rfl, hpm, hmi, hR⟩ := LP.get hv
      have lti : i < ms.length := (List.getElem?_eq_some_iff.mp hmi).1
      have sT := same_upd nT (.tup [V.int (i : Nat), .ref pm])
      have hT := upd_same (H := H4) (a := T0) (o := .tup [V.int (i : Nat), .ref pm])
      have nDT : D ≠ T0 := fun z => by
        have := a.own
        rw [z, nT] at this
        cases this
      have a := a.later firmB sT
      generalize upd H4 T0 (.tup [V.int (i : Nat), .ref pm]) = H5 at sT hT a ⊢
      have s15 := s1.trans a.sm
      have hR5 := firmM _ _ _ _ s15 hR
      have lb : bs.length = i + 1 := by
        rw [a.lay.len, List.length_take, runM_len]
        omega
      have eb : ((runM tr l ms).take (i + 1))[i]? = some (endB l (ms.take i)) := by
        rw [List.getElem?_take, if_pos (Nat.lt_succ_self i)]
        exact bodyAt_take l ms i hi
      obtain ⟨pb, hpb, hbR⟩ := a.lay.of eb
      have etk : (runM tr l ms).take (i + 1 + 1) = (runM tr l ms).take (i + 1) ++ [endB l (ms.take (i + 1))] := take_snoc (bodyAt_take l ms (i + 1) lti)
      have emt : ms.take (i + 1) = ms.take i ++ [m] := take_snoc hmi
      have een : endB l (ms.take (i + 1)) = aft (endB l (ms.take i)) m := by
        rw [emt, endB_app]
        rfl
      have edr : ms.drop i = m :: ms.drop (i + 1) := by
        obtain ⟨lt, e⟩ := List.getElem?_eq_some_iff.mp hmi
        rw [← e]
        exact List.drop_eq_getElem_cons lt
      rw [edr] at ef
      rw [etk, een]
      generalize endB l (ms.take i) = lc at bi ef hbR eb ⊢
      have R5 := R.same s15
      obtain ⟨_, _, dx, tt, na, Aa, L, ps0, ts0, h1, _⟩ := id R5
      have lcl : lc.length ≤ 1000 := by
        have := nd_len bi.sw.nd bi.le
        have := R.few
        omega
      refine ⟨T0, _, rfl, SqT.of hT, rfl, _, _, rfl, _, _, rfl, pm, _, rfl, SqT.of hR5, rfl, _, _, rfl, _, _, rfl, rfl, rfl, ?_⟩
      refine ⟨_, rfl, _, rfl, D, _, _, _, rfl, rfl, SqL.of a.own, atI_lastV (by rw [List.length_map]; exact lb) (map_get hpb), ?_⟩
      refine old_read (e := m.1) rfl rfl hbR bi.two ?_
      refine ⟨_, rfl, _, rfl, r, dx, _, rfl, h1, flR_no (by decide +kernel) (by decide +kernel) (by decide +kernel) (by decide +kernel), _, rfl, r, tr, endM lc m.1, rfl, R5, bi.endle _, fun tn htn => ?_⟩
      refine ⟨tn, _, rfl, .inr (SqT.of htn), rfl, iv_flat _, _, rfl, ?_⟩
      rw [inV_iv]
      have ecan := can_iff (tr := tr) (l := lc) (m := m)
      have raise : canM tr lc m = false → ∀ d, H5 d = none → E (.ref CB) (some d) (upd H5 d (.xd [("position", iv i)])) := fun c d nd => by
        refine k2 i ?_ d H5 s15 nd
        rw [ef]
        show (if canM tr lc m = true then _ else _ : Option Nat).map _ = _
        rw [if_neg (by rw [c]; decide)]
        show some (0 + i) = some i
        rw [Nat.zero_add]
      by_cases c1 : m.2 ∈ nb tr (endM lc m.1)
      · rw [show (if true = true then !decide (m.2 ∈ nb tr (endM lc m.1)) else decide (m.2 ∈ nb tr (endM lc m.1))) = false from by simp [c1]]
        refine iteF ?_
        refine ⟨_, rfl, _, rfl, pb, _, rfl, .inr (SqT.of hbR), rfl, iv_flat _, _, rfl, ?_⟩
        rw [inV_iv]
        by_cases c2 : m.2 ∈ lc
        · rw [show (if false = true then !decide (m.2 ∈ lc) else decide (m.2 ∈ lc)) = true from by simp [c2]]
          refine iteT ?_
          exact ⟨_, rfl, rz_end (raise (by rw [ecan]; simp [c2]))⟩
        · rw [show (if false = true then !decide (m.2 ∈ lc) else decide (m.2 ∈ lc)) = false from by simp [c2]]
          refine iteF ?_
          have hcan : canM tr lc m = true := by
            rw [ecan]
            simp [c1, c2]
          refine ⟨_, rfl, .inl ⟨rfl, _, SqL.of a.own⟩, _, rfl, _, rfl, _, rfl, pb, lc, m, rfl, hbR, bi.two, lcl, fun q2 H6 s6 nq2 hb2 => ⟨D, _, _, rfl, rfl, s6 _ _ a.own, by rw [List.length_map, lb, sizeLine_eq]; omega, ?_⟩⟩
          refine ⟨bs ++ [q2], _, _, _, _, _, rfl, a.push firmB tupyB nD s6 hb2, lti, (bi.aft R.T hcan).1, ?_⟩
          rw [ef]
          show (if canM tr lc m = true then _ else _ : Option Nat).map _ = _
          rw [if_pos hcan, Option.map_map]
          congr 1
          funext z
          show z + 1 + i = z + (i + 1)
          omega
      · rw [show (if true = true then !decide (m.2 ∈ nb tr (endM lc m.1)) else decide (m.2 ∈ nb tr (endM lc m.1))) = true from by simp [c1]]
        refine iteT ?_
        refine iteT ?_
        exact ⟨_, rfl, rz_end (raise (by rw [ecan]; simp [c1]))⟩
    · rintro σ H4 ⟨bs, x4, x5, x6, x7, x8, rfl, a, hi, bi, ef⟩
      rw [List.length_map, lm] at a ef
      have e : fstBad tr l ms = none := by
        rw [ef, List.drop_length]
        rfl
      rw [List.take_of_length_le (by rw [runM_len]; exact Nat.le_refl _)] at a
      refine ⟨_, rfl, k1 e D bs H4 (s1.trans a.sm) a.own a.lay⟩
end
end TR


namespace L2.TT
open PySem PySem.Spec PyProof.Rows PySem.W StX
/-- a def that is called all by name, ks the names as they stand in the call -/
def FnRK (P : Program) (w : World) (K : Frag) (mg : Str → Option Value) (base : Heap) (CX : CXT) (k : Nat) (f : Addr) (ks : List Str) (sp : Sp) : Prop :=
  ∀ (A : Around) (outer : List Env) (s : Shared) (H : Hp) (us : List Value) (vs : List V) (Q : VK) (E : XK), Room k A → Env0 P w K mg base A outer s H → Vals vs us → us.length = ks.length → sp vs H Q E →
    codeAny (model P w) A (.call (.ref f) ⟨[], ks.zip us⟩) (CR CX outer P w H s Q E) s
theorem FnRK.imp {P : Program} {w : World} {K : Frag} {mg : Str → Option Value} {base : Heap} {CX : CXT} {k : Nat} {f : Addr} {ks : List Str} {sp sp' : Sp} (F : FnRK P w K mg base CX k f ks sp) (h : ∀ vs H Q E, sp' vs H Q E → sp vs H Q E) : FnRK P w K mg base CX k f ks sp' :=
  fun A outer s H us vs Q E hr e0 r l q => F A outer s H us vs Q E hr e0 r l (h _ _ _ _ q)
/-- def f(a, .., *v), called all by name: the star's tuple is empty -/
theorem fn_starK {CX : CXT} {P : Program} {w : World} {K : Frag} {mg : Str → Option Value} {base : Heap} {k : Nat} {f : Addr} {name qual : Str} {params : Arguments} {body : List Stmt} {scope : Scope} {dV kV doc pm cdv ct oc : Value} {an od : Option Addr} {osl : Array (Option Value)} {N ps ks : List Str} {pv : Str} {sp : Sp}
    {gg : List Value → List Value} {hV : List V → List V}
    (lk : K.lookup f = some ⟨oc, od, .func (PySem.W.fnOf name qual params body scope dV kV doc pm an cdv ct), osl⟩) (hcd : codeIn K cdv qual = true) (S : FnScope N (ps ++ [pv]) scope) (up : CXUp CX)
    (hb : ∀ us : List Value, us.length = ks.length → bindArgs (PySem.W.fnOf name qual params body scope dV kV doc pm an cdv ct) ⟨[], ks.zip us⟩ = (newTuple [] >>= fun t => pure (ps.zip (gg us) ++ [(pv, t)])))
    (hrel : ∀ {zs : List V} {ws : List Value}, ws.length = ks.length → Vals zs ws → Vals (hV zs) (gg ws)) (hln : ∀ ws : List Value, ws.length = ks.length → (gg ws).length = ps.length)
    (hbody : ∀ (A : Around) (outer : List Env) (s : Shared) (H : Hp) (vs : List V) (Q : VK) (E : XK), Room k (A.deeper (envOfC qual scope s.heap.objs.size f cdv)) → sp vs H Q E →
      ∃ t, PSs (cxOf CX P w K mg base N qual scope f cdv A outer s H E) body t ∧ t { nx := fun _ H' => Q .non H', rt := Q } (L2.start N vs) H) :
    FnRK P w K mg base CX (k + 1) f ks (fun zs H Q E => ∀ p, H p = none → sp (hV zs ++ [V.ref p]) (upd H p (.tup [])) Q E) := by
  intro A outer s H us vs Q E hr e0 r hl hq
  have r2 := hrel hl r
  have hl2 := hln us hl
  have fr : H s.heap.objs.size = Option.none := e0.hok.fresh (Nat.le_refl _)
  refine run_bnd lk hcd S hr e0 (G := fun xs H2 => ∃ p, H p = Option.none ∧ xs = hV vs ++ [V.ref p] ∧ H2 = upd H p (.tup [])) (fun A' Ex Q' h => ?_) fun s2 H2 xs ⟨p, hp, ex, eH⟩ hr' => ?_
  · rw [hb us hl]
    refine wpAny_bind (wpAny_newTuple (wpAny_pure ?_) (Nat.zero_le _))
    have ok : ObjOk P w (upd H s.heap.objs.size (.tup [])) (s.heap.push ({ cls := .type "tuple", data := .seq ([] : List Value).toArray } : Obj)) s.heap.objs.size (.tup []) := ⟨Nat.zero_le _, [], .nil, ⟨_, Heap.get?_push_size _ rfl, rfl, _, rfl⟩⟩
    have un := un_laid (fs := frs outer) (s := s) (o := ({ cls := .type "tuple", data := .seq ([] : List Value).toArray } : Obj)) (u := .tup []) fr
    have lv : (hV vs).length = (gg us).length := r2.length
    have z := h _ _ (hV vs ++ [V.ref s.heap.objs.size]) (gg us ++ [Value.ref s.heap.objs.size]) (env0_laid e0 ok) un rfl (fun e s' => up outer s H _ _ E e s' un (fun b o q => Heap.get?_push_of_some _ q) rfl) (r2.append (.cons rfl .nil))
      (by rw [List.length_append, List.length_append, lv, hl2] <;> rfl) ⟨_, fr, rfl, rfl⟩
    rw [List.zip_append hl2.symm] at z
    exact z
  · subst ex eH
    exact hbody A outer s2 _ _ Q E hr' (hq p hp)
section
variable {X : Cx} {CX : CXT} {k : Nat} {f : Addr} {ks : List Str} {sp : Sp} {E : XK} {x : Str} {p pos : Pos} {kws : List Keyword} {tk : TA}
theorem pe_callRK (F : FnRK X.prog X.w X.K X.mg X.base CX k f ks sp) (hr : Room k X.A) (hx : Passes CX X E) (hg : Gl X x) (hm : X.mg x = some (.ref f)) (hk : keepIn X.K (.ref f) = true) (hkw : PK X kws tk)
    (hall : (backToKw pos (keywordEach kws X.env)).all (·.1.isSome) = true := by rfl) (hks : (backToKw pos (keywordEach kws X.env)).filterMap (·.1) = ks := by rfl) (hdb : (x == ("__debug__" : Str)) = false := by decide)
    (hpl : ((backTo pos (starEach [] X.env)).any (·.1) || (backToKw pos (keywordEach kws X.env)).any (·.1.isNone)) = false := by rfl) :
    PE X (.Call (.Name x p) [] kws pos) (tKW ks.length sp id E tk) := by
  refine ⟨fun pins s σ H Q I h => ?_⟩
  refine wpAny_Call_Name_kw (ld_glob I hg hm ?_ hdb)
  refine callWith_KW0 (h₀ := X.base) I.ok.mod.kin hk hall ?_ hpl
  refine thn (hkw.run pos pins s σ H _ I h) fun ws s2 ⟨zs, H2, I2, rz, l2, q2⟩ => ⟨I2.kIn, ?_⟩
  rw [hks]
  refine wpAny_call (codeAny_mono (F X.A X.stack s2 H2 ws zs Q E hr I2.env0 rz (rz.length.symm.trans l2) q2) fun r s' hq => ?_)
  cases r with
  | error er => exact hx pins σ H2 s2 er s' I2 hq
  | ok fl =>
    cases fl with
    | ret u => exact I2.after hq
    | next => exact False.elim hq
    | brk => exact False.elim hq
    | cont => exact False.elim hq
end
/-- f(e, ..), f told by its positional promise -/
theorem pe_callR {X : Cx} {CX : CXT} {k : Nat} {f : Addr} {sp : Sp} {E : XK} {x : Str} {p pos : Pos} {e : Expr} {es : List Expr} {t : TA} (F : FnR X.prog X.w X.K X.mg X.base CX k f sp) (hr : Room k X.A) (hk : keepIn X.K (.ref f) = true) (hg : Gl X x) (hm : X.mg x = some (.ref f)) (hx : Passes CX X E)
    (ha : PA X (e :: es) t) (hdb : (x == ("__debug__" : Str)) = false := by decide) (he : starEach (e :: es) X.env = (false, eval e X.env) :: starEach es X.env := by rfl) (hpl : (backTo pos (starEach es X.env)).any (·.1) = false := by rfl) :
    PE X (.Call (.Name x p) (e :: es) [] pos) (fun σ H Q => t σ H fun vs H1 => sp vs H1 Q E) := by
  refine ⟨fun pins s σ H Q I h => ?_⟩
  refine wpAny_Call_Name_kw (ld_glob I hg hm ?_ hdb)
  refine callWith_K (h₀ := X.base) I.ok.mod.kin hk (thn (ha.run pos pins s σ H _ I h) fun us s1 ⟨vs, H1, I1, r, q⟩ => ⟨I1.kIn, ?_⟩) he hpl
  exact wpAny_call (codeAny_mono (run_fnR F hr hx I1 r q) fun r s' hq => by
    cases r with
    | error e => exact hq
    | ok fl => cases fl <;> exact hq)
/-- a def that may raise, where it does not -/
theorem FnOk.plain {P : Program} {w : World} {K : Frag} {mg : Str → Option Value} {base : Heap} {k : Nat} {f : Addr} {fd : FuncData} {ps : List Str} {sp sp' : Sp} (F : FnOk P w K mg base (L2.CX P w) k f fd ps sp) (h : ∀ vs H Q E, sp' vs H Q E → sp vs H Q E0) : FnOk P w K mg base CX0 k f fd ps sp' :=
  ⟨fun vs H Q E q => F.len _ _ _ _ (h vs H Q E q), fun A outer s H args us vs Q E hr e0 hb r q => codeAny_mono (F.run A outer s H args us vs Q E0 hr e0 hb r (h vs H Q E q)) fun res s' hq => by
    cases res with
    | error e =>
      obtain ⟨_, _, _, _, _, _, _, _, _, _, _, _, z⟩ := hq
      exact z.elim
    | ok fl => cases fl <;> exact hq⟩
theorem FnR.plain {P : Program} {w : World} {K : Frag} {mg : Str → Option Value} {base : Heap} {k : Nat} {f : Addr} {sp sp' : Sp} (F : FnR P w K mg base (L2.CX P w) k f sp) (h : ∀ vs H Q E, sp' vs H Q E → sp vs H Q E0) : FnR P w K mg base CX0 k f sp' :=
  fun A outer s H us vs Q E hr e0 r q => codeAny_mono (F A outer s H us vs Q E0 hr e0 r (h vs H Q E q)) fun res s' hq => by
    cases res with
    | error e =>
      obtain ⟨_, _, _, _, _, _, _, _, _, _, _, _, z⟩ := hq
      exact z.elim
    | ok fl => cases fl <;> exact hq
theorem FnRK.plain {P : Program} {w : World} {K : Frag} {mg : Str → Option Value} {base : Heap} {k : Nat} {f : Addr} {ks : List Str} {sp sp' : Sp} (F : FnRK P w K mg base (L2.CX P w) k f ks sp) (h : ∀ vs H Q E, sp' vs H Q E → sp vs H Q E0) : FnRK P w K mg base CX0 k f ks sp' :=
  fun A outer s H us vs Q E hr e0 r l q => codeAny_mono (F A outer s H us vs Q E0 hr e0 r l (h vs H Q E q)) fun res s' hq => by
    cases res with
    | error e =>
      obtain ⟨_, _, _, _, _, _, _, _, _, _, _, _, z⟩ := hq
      exact z.elim
    | ok fl => cases fl <;> exact hq
end L2.TT

namespace TR
open PySem PySem.Spec PyProof.Rows L2 L2.TT StX ClX
/-- what moves lead to -/
def MvdQ (CB : Addr) (tr : List E2) (l : List Nat) (ms : List Mv) (H : Hp) (Q : VK) (E : XK) : Prop :=
  (fstBad tr l ms = none → ∀ z H', Same H H' → H z = none → H' z = some (.tup [iv (hd0 (endB l ms)), iv (lt0 (endB l ms))]) → Q (.ref z) H') ∧
  (∀ i, fstBad tr l ms = some i → ∀ d H', Same H H' → H' d = none → E (.ref CB) (some d) (upd H' d (.xd [("position", iv i)])))
theorem MvdQ.later {CB : Addr} {tr : List E2} {l : List Nat} {ms : List Mv} {H H' : Hp} {Q : VK} {E : XK} (h : MvdQ CB tr l ms H Q E) (s : Same H H') : MvdQ CB tr l ms H' Q E :=
  ⟨fun e z H2 s2 nz hz => h.1 e z H2 (s.trans s2) (s.free nz) hz, fun i e d H2 s2 nd => h.2 i e d H2 (s.trans s2) nd⟩
def spMvd (C CB : Addr) : Sp := fun vs H Q E => ∃ (r q t : Addr) (tr : List E2) (l : List Nat) (ps : List Addr) (ms : List Mv), vs = [.ref r, .ref q, .ref t] ∧ RailAt C H r tr ∧ H q = some (.tup [iv (hd0 l), iv (lt0 l)]) ∧ Bd tr l ∧
  H t = some (.tup (ps.map V.ref)) ∧ Lay MvR H ps ms ∧ (∀ m ∈ ms, m.2 ≤ tr.length) ∧ ms.length ≤ 1000 ∧ MvdQ CB tr l ms H Q E
/-- .. the moves one by one -/
def spMvs (C CB : Addr) : Sp := fun vs H Q E => ∃ (r q : Addr) (tr : List E2) (l : List Nat) (ps : List Addr) (ms : List Mv), vs = .ref r :: .ref q :: ps.map V.ref ∧ RailAt C H r tr ∧ H q = some (.tup [iv (hd0 l), iv (lt0 l)]) ∧ Bd tr l ∧
  Lay MvR H ps ms ∧ (∀ m ∈ ms, m.2 ≤ tr.length) ∧ ms.length ≤ 1000 ∧ MvdQ CB tr l ms H Q E
def spMvk (C CB : Addr) : Sp := fun vs H Q E => ∃ (r q : Addr) (tr : List E2) (l : List Nat), vs = [.ref q, .ref r] ∧ RailAt C H r tr ∧ H q = some (.tup [iv (hd0 l), iv (lt0 l)]) ∧ Bd tr l ∧ MvdQ CB tr l [] H Q E
section
variable {P : Program} {w : World} {K : PySem.W.Frag} {mg : Str → Option Value} {base : Heap}
abbrev N_sc_mvd : List Str := ["railway", "standing", "moves", "body"]
theorem sc_mvd : FnScope N_sc_mvd ["railway", "standing", "moves"] (defScope s_moved_along) := ⟨rfl, rfl, rfl, by decide +kernel, rfl, by decide +kernel, by decide +kernel⟩
theorem ok_mvd {f fA C CB : Addr} {fd fdA : FuncData} (F : Fun K "moved_along" "moved_along" s_moved_along f fd) (UA : UseX P w K mg base 7 "bodies_along" fA fdA ["railway", "standing", "moves"] (spAlong C CB)) :
    FnOk P w K mg base (L2.CX P w) 8 f fd ["railway", "standing", "moves"] (spMvd C CB) := by
  refine L2.Fun.okX F sc_mvd (fun vs H Q E h => ?_) (fun cdv A outer s H vs Q E hr h => ?_)
  · obtain ⟨r, q, t, tr, l, ps, ms, rfl, _⟩ := h
    rfl
  · obtain ⟨r, q, t, tr, l, ps, ms, rfl, R, hq, b, ht, LP, hm, hl, k1, k2⟩ := h
    refine ⟨_, (pss_cons (ps_set (i := 3) sc_mvd.nd rfl (.inl rfl) (pe_ix ix_list (pe_call UA.G hr (by rfl) UA.m UA.kp UA.b .nil (passes_call (takes_of rfl rfl rfl rfl) (fun _ _ _ _ h => h)) (pa_cons (pv 0) (pa_cons (pv 1) (pa_cons (pv 2) pa_nil)))) (pe_un un_neg pe_int) (fun _ _ => rfl)))
        (pss_one (ps_ret (pe_tup (pa_cons (pe_ix ix_tup (pv 3) pe_int (fun _ _ => rfl)) (pa_cons (pe_ix ix_tup (pv 3) (pe_un un_neg pe_int) (fun _ _ => rfl)) pa_nil)))))), ?_⟩
    have two : (2 : Nat) ≤ sizeLine := by rw [sizeLine_eq]; decide
    refine ⟨_, rfl, _, rfl, _, rfl, r, q, t, tr, l, ps, ms, rfl, R, hq, b, ht, LP, hm, hl, fun e D bs H1 s1 hD LB => ?_, k2⟩
    have be := (b.run R.T ms (fstBad_none e)).1
    have lb : bs.length = ms.length + 1 := by rw [LB.len, runM_len]
    obtain ⟨pb, hpb, hbR⟩ := LB.of (bodyAt_take (tr := tr) l ms ms.length (Nat.le_refl _))
    rw [List.take_length] at hbR
    refine ⟨_, rfl, D, _, _, _, rfl, rfl, SqL.of hD, atI_lastV (by rw [List.length_map]; exact lb) (map_get hpb), ?_⟩
    refine ⟨_, rfl, pb, _, _, _, rfl, rfl, SqT.of hbR, atHd be.two, _, rfl, _, rfl, pb, _, _, _, rfl, rfl, SqT.of hbR, atLt be.two, two, fun z nz => ?_⟩
    exact k1 e z _ (s1.trans (same_upd nz _)) (s1.free nz) upd_same
end
end TR


namespace TR
open PySem PySem.Spec PyProof.Rows L2 L2.TT StX ClX
def spOpp : Sp := fun vs H Q _ => ∃ (p : Addr) (l : List Nat) (e : Bool), vs = [.ref p, .str (mvw e)] ∧ BdR H p l ∧ 2 ≤ l.length ∧ ∀ q H', Same H H' → H q = none → MvR H' q (oppM l e) → Q (.ref q) H'
section
variable {P : Program} {w : World} {K : PySem.W.Frag} {mg : Str → Option Value} {base : Heap}
abbrev N_sc_opp : List Str := ["body", "end"]
theorem sc_opp : FnScope N_sc_opp ["body", "end"] (defScope s_opposite_move) := ⟨rfl, rfl, rfl, by decide +kernel, rfl, by decide +kernel, by decide +kernel⟩
theorem ok_opp {f : Addr} {fd : FuncData} (F : Fun K "_opposite_move" "_opposite_move" s_opposite_move f fd) : FnOk P w K mg base CX0 1 f fd ["body", "end"] spOpp := by
  refine F.ok sc_opp (fun vs H Q E h => ?_) (fun cdv A outer s H vs Q E hr h => ?_)
  · obtain ⟨p, l, m, rfl, _⟩ := h
    rfl
  · obtain ⟨p, l, e, rfl, hp, h2, k⟩ := h
    refine ⟨_, (pss_one (ps_ret (pe_ifExp (pt_cmpR op_eq (pv 1) pe_str (nomark _)) (pe_tup (pa_cons pe_str (pa_cons (pe_ix ix_tup (pv 0) (pe_un un_neg pe_int) (fun _ _ => rfl)) pa_nil))) (pe_tup (pa_cons pe_str (pa_cons (pe_ix ix_tup (pv 0) pe_int (fun _ _ => rfl)) pa_nil)))))), ?_⟩
    have two : (2 : Nat) ≤ sizeLine := by rw [sizeLine_eq]; decide
    refine ⟨_, rfl, rfl, _, rfl, ?_⟩
    rw [mvw_hdV]
    cases e with
    | true =>
      refine iteT ?_
      exact ⟨_, rfl, _, rfl, p, _, _, _, rfl, rfl, SqT.of hp, atLt h2, two, fun q nq => k q _ (same_upd nq _) nq upd_same⟩
    | false =>
      refine iteF ?_
      exact ⟨_, rfl, p, _, _, _, rfl, rfl, SqT.of hp, atHd h2, two, fun q nq => k q _ (same_upd nq _) nq upd_same⟩
end
end TR


namespace TR
open PySem PySem.Spec PyProof.Rows L2 L2.TT StX ClX
/-- the exception of a class with one field, from any later heap on -/
def Rz (CS : Addr) (f : Str) (y : V) (H : Hp) (E : XK) : Prop := ∀ d H', Same H H' → H' d = none → E (.ref CS) (some d) (upd H' d (.xd [(f, y)]))
theorem Rz.at_ {CS : Addr} {f : Str} {y : V} {H : Hp} {E : XK} (h : Rz CS f y H E) : ∀ d, H d = none → E (.ref CS) (some d) (upd H d (.xd [(f, y)])) := fun d n => h d H (Same.refl _) n
theorem Rz.later {CS : Addr} {f : Str} {y : V} {H H' : Hp} {E : XK} (h : Rz CS f y H E) (s : Same H H') : Rz CS f y H' E := fun d H2 s2 n => h d H2 (s.trans s2) n
/-- no standing -/
def NoSt (K : PySem.W.Frag) (H : Hp) (n : Nat) (v : V) : Prop := ∃ o, PV K H v o ∧ isPr o ((n : Int) + 1) = false
theorem NoSt.same {K : PySem.W.Frag} {H H' : Hp} {n : Nat} {v : V} (h : NoSt K H n v) (s : Same H H') : NoSt K H' n v := let ⟨o, h1, h2⟩ := h; ⟨o, h1.same s, h2⟩
/-- no length -/
def BadL (K : PySem.W.Frag) (H : Hp) (v : V) : Prop := NI K H v ∨ ∃ i : Int, v = .int i ∧ i < 1
/-- a value that is no tuple of moves: the field of its exception -/
inductive NoMv (K : PySem.W.Frag) (H : Hp) (n : Nat) : V → V → Prop where
  | at_ {t : Addr} {xs : List V} {os : List (Option (V × V))} {i : Nat} (h : H t = some (.tup xs)) (p : Paired (PV K H) xs os) (f : ∀ o ∈ os, flat1 o) (b : badMv n os = some i) : NoMv K H n (.ref t) (iv i)
  | no {v : V} {m : String} (t : TyX K H v (.type m)) (kb : kitB m "tuple" = some false) : NoMv K H n v .non
theorem NoMv.same {K : PySem.W.Frag} {H H' : Hp} {n : Nat} {v y : V} (h : NoMv K H n v y) (s : Same H H') : NoMv K H' n v y := by
  cases h with
  | at_ h p f b => exact .at_ (s _ _ h) (pvs_same s p) f b
  | no t kb => exact .no (tyX_same t s) kb
def spS2 (C CS : Addr) (K : PySem.W.Frag) : Sp := fun vs H _ E => ∃ (r : Addr) (tr : List E2) (v : V), vs = [.ref r, v] ∧ RailAt C H r tr ∧ NoSt K H tr.length v ∧ Rz CS "value" v H E
def spS3 (C CS : Addr) (K : PySem.W.Frag) : Sp := fun vs H _ E => ∃ (r : Addr) (tr : List E2) (v x : V), vs = [.ref r, v, x] ∧ RailAt C H r tr ∧ NoSt K H tr.length v ∧ Rz CS "value" v H E
def spLnX (CL : Addr) (K : PySem.W.Frag) : Sp := fun vs H _ E => ∃ v : V, vs = [v] ∧ BadL K H v ∧ Rz CL "value" v H E
/-- a standing of a body, a length that is none of its parts -/
def spL3 (C CL : Addr) (K : PySem.W.Frag) : Sp := fun vs H _ E => ∃ (r q : Addr) (tr : List E2) (l : List Nat) (v : V), vs = [.ref r, .ref q, v] ∧ RailAt C H r tr ∧ H q = some (.tup [iv (hd0 l), iv (lt0 l)]) ∧ Bd tr l ∧ (BadL K H v ∨ ∃ i : Int, v = .int i ∧ (l.length : Int) ≤ i) ∧ Rz CL "value" v H E
def spM3 (C CM : Addr) (K : PySem.W.Frag) : Sp := fun vs H _ E => ∃ (r q : Addr) (tr : List E2) (l : List Nat) (v y : V), vs = [.ref r, .ref q, v] ∧ RailAt C H r tr ∧ H q = some (.tup [iv (hd0 l), iv (lt0 l)]) ∧ Bd tr l ∧ NoMv K H tr.length v y ∧ Rz CM "position" y H E
section
variable {P : Program} {w : World} {K : PySem.W.Frag} {mg : Str → Option Value} {base : Heap}
abbrev N_sc_chkstX : List Str := ["railway", "standing"]
theorem sc_chkstX : FnScope N_sc_chkstX ["railway", "standing"] (defScope s_check_standing) := ⟨rfl, rfl, rfl, by decide +kernel, rfl, by decide +kernel, by decide +kernel⟩
theorem ok_chkstX {f fI C CS : Addr} {fd fdI : FuncData} (F : Fun K "check_standing" "check_standing" s_check_standing f fd) (U : Use P w K mg base CX0 4 "is_standing" fI fdI ["railway", "value"] (spIsStd C K)) (Z : RzC P w K mg base "InvalidStanding" CS "value") :
    FnOk P w K mg base (L2.CX P w) 5 f fd ["railway", "standing"] (spS2 C CS K) := by
  refine L2.Fun.okX F sc_chkstX (fun vs H Q E h => ?_) (fun cdv A outer s H vs Q E hr h => ?_)
  · obtain ⟨r, tr, v, rfl, _⟩ := h
    rfl
  · obtain ⟨r, tr, v, rfl, R, ⟨o, ho, hn⟩, k⟩ := h
    obtain ⟨fI, fdI, i1, i2, F1, b1⟩ := Z.ex
    refine ⟨_, (pss_one (ps_if (pt_not (pt_val (pe_use U hr (by rfl) (pa_cons (pv 0) (pa_cons (pv 1) pa_nil))))) (pss_one (ps_raise rfl (takes_of rfl rfl rfl rfl) (pmk_oxg Z.ox i1 i2 F1 (hr.mono (by decide)) b1 .nil pass0 rfl Z.mgC (pa_cons (pv 1) pa_nil)))) pss_nil)), ?_⟩
    refine ⟨_, rfl, _, rfl, r, tr, v, o, rfl, R, ho, _, rfl, ?_⟩
    rw [hn]
    refine iteT ?_
    exact ⟨_, rfl, rz_end k.at_⟩
abbrev N_sc_chklX : List Str := ["length"]
theorem sc_chklX : FnScope N_sc_chklX ["length"] (defScope s_check_length) := ⟨rfl, rfl, rfl, by decide +kernel, rfl, by decide +kernel, by decide +kernel⟩
theorem ok_chklX {f fI CL : Addr} {fd fdI : FuncData} (F : Fun K "check_length" "check_length" s_check_length f fd) (U : Use P w K mg base CX0 1 "is_integer" fI fdI ["value"] (spIsInt K)) (Z : RzC P w K mg base "InvalidLength" CL "value") :
    FnOk P w K mg base (L2.CX P w) 3 f fd ["length"] (spLnX CL K) := by
  refine L2.Fun.okX F sc_chklX (fun vs H Q E h => ?_) (fun cdv A outer s H vs Q E hr h => ?_)
  · obtain ⟨v, rfl, _⟩ := h
    rfl
  · obtain ⟨v, rfl, hv, k⟩ := h
    obtain ⟨fI', fdI', i1, i2, F1, b1⟩ := Z.ex
    refine ⟨_, (pss_one (ps_if (PW.pt (pw_or (pt_not (pt_val (pe_use U (hr.mono (by decide)) (by rfl) (pa_cons (pv 0) pa_nil)))) (pw_or1 (pt_cmpR op_lt (pv 0) pe_int (nomark _))))) (pss_one (ps_raise rfl (takes_of rfl rfl rfl rfl) (pmk_oxg Z.ox i1 i2 F1 (hr.mono (by decide)) b1 .nil pass0 rfl Z.mgC (pa_cons (pv 0) pa_nil)))) pss_nil)), ?_⟩
    rcases hv with hv | ⟨i, rfl, hi⟩
    · refine ⟨_, rfl, v, rfl, .inr hv, _, rfl, ?_⟩
      have e : (asInt v).isSome = false := by
        rcases hv with ⟨b, rfl⟩ | ⟨n, ty, hk⟩
        · rfl
        · cases v with
          | int i =>
            cases ty with
            | base b =>
              cases b
              exact absurd hk (by decide +kernel)
          | _ => rfl
      rw [e]
      refine iteT ?_
      exact ⟨_, rfl, rz_end k.at_⟩
    · refine ⟨_, rfl, _, rfl, .inl ⟨_, rfl⟩, _, rfl, ?_⟩
      refine iteF ?_
      refine ⟨_, rfl, _, _, rfl, rfl, _, rfl, ?_⟩
      rw [show decide ((i : Int) < 1) = true from decide_eq_true hi]
      refine iteT ?_
      exact ⟨_, rfl, rz_end k.at_⟩
abbrev N_sc_bodyS : List Str := ["railway", "standing", "head", "tail"]
theorem sc_bodyS : FnScope N_sc_bodyS ["railway", "standing"] (defScope s_body_of) := ⟨rfl, rfl, rfl, by decide +kernel, rfl, by decide +kernel, by decide +kernel⟩
theorem ok_bodyS {f fI C CS : Addr} {fd fdI : FuncData} (F : Fun K "body_of" "body_of" s_body_of f fd) (N : Nm mg) (U : UseX P w K mg base 5 "check_standing" fI fdI ["railway", "standing"] (spS2 C CS K)) :
    FnOk P w K mg base (L2.CX P w) 6 f fd ["railway", "standing"] (spS2 C CS K) := by
  refine L2.Fun.okX F sc_bodyS (fun vs H Q E h => ?_) (fun cdv A outer s H vs Q E hr h => ?_)
  · obtain ⟨r, tr, v, rfl, _⟩ := h
    rfl
  · obtain ⟨r, tr, v, rfl, R, hv, k⟩ := h
    refine ⟨_, pss_cons (ps_expr (pe_call U.G (hr.mono (by decide)) (by rfl) U.m U.kp U.b .nil (passes_call (takes_of rfl rfl rfl rfl) (fun _ _ _ _ h => h)) (pa_cons (pv 0) (pa_cons (pv 1) pa_nil)))) L2.pss_never, ?_⟩
    exact ⟨_, rfl, _, rfl, r, tr, v, rfl, R, hv, k⟩
abbrev N_sc_lenS : List Str := ["railway", "standing"]
theorem sc_lenS : FnScope N_sc_lenS ["railway", "standing"] (defScope s_length_of) := ⟨rfl, rfl, rfl, by decide +kernel, rfl, by decide +kernel, by decide +kernel⟩
theorem ok_lenS {f fI C CS : Addr} {fd fdI : FuncData} (F : Fun K "length_of" "length_of" s_length_of f fd) (N : Nm mg) (U : UseX P w K mg base 6 "body_of" fI fdI ["railway", "standing"] (spS2 C CS K)) :
    FnOk P w K mg base (L2.CX P w) 7 f fd ["railway", "standing"] (spS2 C CS K) := by
  refine L2.Fun.okX F sc_lenS (fun vs H Q E h => ?_) (fun cdv A outer s H vs Q E hr h => ?_)
  · obtain ⟨r, tr, v, rfl, _⟩ := h
    rfl
  · obtain ⟨r, tr, v, rfl, R, hv, k⟩ := h
    refine ⟨_, pss_one (ps_ret (pe_op op_sub (pe_callB call_len_seq (by rfl) N.len PySem.boot_len (pa_cons (pe_call U.G (hr.mono (by decide)) (by rfl) U.m U.kp U.b .nil (passes_call (takes_of rfl rfl rfl rfl) (fun _ _ _ _ h => h)) (pa_cons (pv 0) (pa_cons (pv 1) pa_nil))) pa_nil)) pe_int)), ?_⟩
    exact ⟨_, rfl, _, rfl, r, tr, v, rfl, R, hv, k⟩
abbrev N_sc_turnS : List Str := ["railway", "standing", "head", "tail"]
theorem sc_turnS : FnScope N_sc_turnS ["railway", "standing"] (defScope s_turned) := ⟨rfl, rfl, rfl, by decide +kernel, rfl, by decide +kernel, by decide +kernel⟩
theorem ok_turnS {f fI C CS : Addr} {fd fdI : FuncData} (F : Fun K "turned" "turned" s_turned f fd) (N : Nm mg) (U : UseX P w K mg base 5 "check_standing" fI fdI ["railway", "standing"] (spS2 C CS K)) :
    FnOk P w K mg base (L2.CX P w) 6 f fd ["railway", "standing"] (spS2 C CS K) := by
  refine L2.Fun.okX F sc_turnS (fun vs H Q E h => ?_) (fun cdv A outer s H vs Q E hr h => ?_)
  · obtain ⟨r, tr, v, rfl, _⟩ := h
    rfl
  · obtain ⟨r, tr, v, rfl, R, hv, k⟩ := h
    refine ⟨_, pss_cons (ps_expr (pe_call U.G (hr.mono (by decide)) (by rfl) U.m U.kp U.b .nil (passes_call (takes_of rfl rfl rfl rfl) (fun _ _ _ _ h => h)) (pa_cons (pv 0) (pa_cons (pv 1) pa_nil)))) L2.pss_never, ?_⟩
    exact ⟨_, rfl, _, rfl, r, tr, v, rfl, R, hv, k⟩
abbrev N_sc_bpartS : List Str := ["railway", "standing", "length", "body"]
theorem sc_bpartS : FnScope N_sc_bpartS ["railway", "standing", "length"] (defScope s_body_for_part) := ⟨rfl, rfl, rfl, by decide +kernel, rfl, by decide +kernel, by decide +kernel⟩
theorem ok_bpartS {f fI C CS : Addr} {fd fdI : FuncData} (F : Fun K "_body_for_part" "_body_for_part" s_body_for_part f fd) (N : Nm mg) (U : UseX P w K mg base 6 "body_of" fI fdI ["railway", "standing"] (spS2 C CS K)) :
    FnOk P w K mg base (L2.CX P w) 7 f fd ["railway", "standing", "length"] (spS3 C CS K) := by
  refine L2.Fun.okX F sc_bpartS (fun vs H Q E h => ?_) (fun cdv A outer s H vs Q E hr h => ?_)
  · obtain ⟨r, tr, v, x, rfl, _⟩ := h
    rfl
  · obtain ⟨r, tr, v, x, rfl, R, hv, k⟩ := h
    refine ⟨_, pss_cons (ps_set (i := 3) sc_bpartS.nd rfl (.inl rfl) (pe_call U.G (hr.mono (by decide)) (by rfl) U.m U.kp U.b .nil (passes_call (takes_of rfl rfl rfl rfl) (fun _ _ _ _ h => h)) (pa_cons (pv 0) (pa_cons (pv 1) pa_nil)))) L2.pss_never, ?_⟩
    exact ⟨_, rfl, _, rfl, r, tr, v, rfl, R, hv, k⟩
abbrev N_sc_frontS : List Str := ["railway", "standing", "length", "body"]
theorem sc_frontS : FnScope N_sc_frontS ["railway", "standing", "length"] (defScope s_front_part) := ⟨rfl, rfl, rfl, by decide +kernel, rfl, by decide +kernel, by decide +kernel⟩
theorem ok_frontS {f fI C CS : Addr} {fd fdI : FuncData} (F : Fun K "front_part" "front_part" s_front_part f fd) (N : Nm mg) (U : UseX P w K mg base 7 "_body_for_part" fI fdI ["railway", "standing", "length"] (spS3 C CS K)) :
    FnOk P w K mg base (L2.CX P w) 8 f fd ["railway", "standing", "length"] (spS3 C CS K) := by
  refine L2.Fun.okX F sc_frontS (fun vs H Q E h => ?_) (fun cdv A outer s H vs Q E hr h => ?_)
  · obtain ⟨r, tr, v, x, rfl, _⟩ := h
    rfl
  · obtain ⟨r, tr, v, x, rfl, R, hv, k⟩ := h
    refine ⟨_, pss_cons (ps_set (i := 3) sc_frontS.nd rfl (.inl rfl) (pe_call U.G (hr.mono (by decide)) (by rfl) U.m U.kp U.b .nil (passes_call (takes_of rfl rfl rfl rfl) (fun _ _ _ _ h => h)) (pa_cons (pv 0) (pa_cons (pv 1) (pa_cons (pv 2) pa_nil))))) L2.pss_never, ?_⟩
    exact ⟨_, rfl, _, rfl, _, rfl, r, tr, v, x, rfl, R, hv, k⟩
abbrev N_sc_rearS : List Str := ["railway", "standing", "length", "body"]
theorem sc_rearS : FnScope N_sc_rearS ["railway", "standing", "length"] (defScope s_rear_part) := ⟨rfl, rfl, rfl, by decide +kernel, rfl, by decide +kernel, by decide +kernel⟩
theorem ok_rearS {f fI C CS : Addr} {fd fdI : FuncData} (F : Fun K "rear_part" "rear_part" s_rear_part f fd) (N : Nm mg) (U : UseX P w K mg base 7 "_body_for_part" fI fdI ["railway", "standing", "length"] (spS3 C CS K)) :
    FnOk P w K mg base (L2.CX P w) 8 f fd ["railway", "standing", "length"] (spS3 C CS K) := by
  refine L2.Fun.okX F sc_rearS (fun vs H Q E h => ?_) (fun cdv A outer s H vs Q E hr h => ?_)
  · obtain ⟨r, tr, v, x, rfl, _⟩ := h
    rfl
  · obtain ⟨r, tr, v, x, rfl, R, hv, k⟩ := h
    refine ⟨_, pss_cons (ps_set (i := 3) sc_rearS.nd rfl (.inl rfl) (pe_call U.G (hr.mono (by decide)) (by rfl) U.m U.kp U.b .nil (passes_call (takes_of rfl rfl rfl rfl) (fun _ _ _ _ h => h)) (pa_cons (pv 0) (pa_cons (pv 1) (pa_cons (pv 2) pa_nil))))) L2.pss_never, ?_⟩
    exact ⟨_, rfl, _, rfl, _, rfl, r, tr, v, x, rfl, R, hv, k⟩
abbrev N_sc_alongS : List Str := ["railway", "standing", "moves", "bodies", "index", "end", "station", "body", "old"]
theorem sc_alongS : FnScope N_sc_alongS ["railway", "standing", "moves"] (defScope s_bodies_along) := ⟨rfl, rfl, rfl, by decide +kernel, rfl, by decide +kernel, by decide +kernel⟩
theorem ok_alongS {f fI C CS : Addr} {fd fdI : FuncData} (F : Fun K "bodies_along" "bodies_along" s_bodies_along f fd) (N : Nm mg) (U : UseX P w K mg base 6 "body_of" fI fdI ["railway", "standing"] (spS2 C CS K)) :
    FnOk P w K mg base (L2.CX P w) 7 f fd ["railway", "standing", "moves"] (spS3 C CS K) := by
  refine L2.Fun.okX F sc_alongS (fun vs H Q E h => ?_) (fun cdv A outer s H vs Q E hr h => ?_)
  · obtain ⟨r, tr, v, x, rfl, _⟩ := h
    rfl
  · obtain ⟨r, tr, v, x, rfl, R, hv, k⟩ := h
    refine ⟨_, pss_cons (ps_set (i := 3) sc_alongS.nd rfl (.inl rfl) (pe_lst (pa_cons (pe_call U.G (hr.mono (by decide)) (by rfl) U.m U.kp U.b .nil (passes_call (takes_of rfl rfl rfl rfl) (fun _ _ _ _ h => h)) (pa_cons (pv 0) (pa_cons (pv 1) pa_nil))) pa_nil))) L2.pss_never, ?_⟩
    exact ⟨_, rfl, _, rfl, r, tr, v, rfl, R, hv, k⟩
abbrev N_sc_mvdS : List Str := ["railway", "standing", "moves", "body"]
theorem sc_mvdS : FnScope N_sc_mvdS ["railway", "standing", "moves"] (defScope s_moved_along) := ⟨rfl, rfl, rfl, by decide +kernel, rfl, by decide +kernel, by decide +kernel⟩
theorem ok_mvdS {f fI C CS : Addr} {fd fdI : FuncData} (F : Fun K "moved_along" "moved_along" s_moved_along f fd) (N : Nm mg) (U : UseX P w K mg base 7 "bodies_along" fI fdI ["railway", "standing", "moves"] (spS3 C CS K)) :
    FnOk P w K mg base (L2.CX P w) 8 f fd ["railway", "standing", "moves"] (spS3 C CS K) := by
  refine L2.Fun.okX F sc_mvdS (fun vs H Q E h => ?_) (fun cdv A outer s H vs Q E hr h => ?_)
  · obtain ⟨r, tr, v, x, rfl, _⟩ := h
    rfl
  · obtain ⟨r, tr, v, x, rfl, R, hv, k⟩ := h
    refine ⟨_, pss_cons (ps_set (i := 3) sc_mvdS.nd rfl (.inl rfl) (pe_ix ix_list (pe_call U.G (hr.mono (by decide)) (by rfl) U.m U.kp U.b .nil (passes_call (takes_of rfl rfl rfl rfl) (fun _ _ _ _ h => h)) (pa_cons (pv 0) (pa_cons (pv 1) (pa_cons (pv 2) pa_nil)))) (pe_un un_neg pe_int) (fun _ _ => rfl))) L2.pss_never, ?_⟩
    exact ⟨_, rfl, _, rfl, _, rfl, r, tr, v, x, rfl, R, hv, k⟩
abbrev N_sc_opsS : List Str := ["railway", "standing", "moves", "bodies", "opposites", "end", "_", "body"]
theorem sc_opsS : FnScope N_sc_opsS ["railway", "standing", "moves"] (defScope s_opposite_moves) := ⟨rfl, rfl, rfl, by decide +kernel, rfl, by decide +kernel, by decide +kernel⟩
theorem ok_opsS {f fI C CS : Addr} {fd fdI : FuncData} (F : Fun K "opposite_moves" "opposite_moves" s_opposite_moves f fd) (N : Nm mg) (U : UseX P w K mg base 7 "bodies_along" fI fdI ["railway", "standing", "moves"] (spS3 C CS K)) :
    FnOk P w K mg base (L2.CX P w) 8 f fd ["railway", "standing", "moves"] (spS3 C CS K) := by
  refine L2.Fun.okX F sc_opsS (fun vs H Q E h => ?_) (fun cdv A outer s H vs Q E hr h => ?_)
  · obtain ⟨r, tr, v, x, rfl, _⟩ := h
    rfl
  · obtain ⟨r, tr, v, x, rfl, R, hv, k⟩ := h
    refine ⟨_, pss_cons (ps_set (i := 3) sc_opsS.nd rfl (.inl rfl) (pe_call U.G (hr.mono (by decide)) (by rfl) U.m U.kp U.b .nil (passes_call (takes_of rfl rfl rfl rfl) (fun _ _ _ _ h => h)) (pa_cons (pv 0) (pa_cons (pv 1) (pa_cons (pv 2) pa_nil))))) L2.pss_never, ?_⟩
    exact ⟨_, rfl, _, rfl, _, rfl, r, tr, v, x, rfl, R, hv, k⟩
end
end TR


namespace TR
open PySem PySem.Spec PyProof.Rows L2 L2.TT StX ClX
section
variable {P : Program} {w : World} {K : PySem.W.Frag} {mg : Str → Option Value} {base : Heap}
abbrev N_sc_mv : List Str := ["railway", "standing", "moves"]
theorem sc_mv : FnScope N_sc_mv ((["railway", "standing"] : List Str) ++ (["moves"] : List Str)) (defScope s_moved) := ⟨rfl, rfl, rfl, by decide +kernel, rfl, by decide +kernel, by decide +kernel⟩
theorem body_mv {f fM C CB : Addr} {fdM : FuncData} (UM : UseX P w K mg base 8 "moved_along" fM fdM ["railway", "standing", "moves"] (spMvd C CB)) (cdv : Value) (A : Around) (outer : List Env) (s : Shared) (H : Hp) (vs : List V) (Q : VK) (E : XK)
    (hr : Room 8 (A.deeper (envOfC "moved" (defScope s_moved) s.heap.objs.size f cdv))) (h : spMvd C CB vs H Q E) :
    ∃ t, PSs (cxOf (L2.CX P w) P w K mg base N_sc_mv "moved" (defScope s_moved) f cdv A outer s H E) (defBody s_moved) t ∧ t { nx := fun _ H' => Q .non H', rt := Q } (L2.start N_sc_mv vs) H := by
  obtain ⟨r, q, t, tr, l, ps, ms, rfl, R, hq, b, ht, LP, hm, hl, k⟩ := h
  refine ⟨_, (pss_one (ps_ret (pe_call UM.G hr (by rfl) UM.m UM.kp UM.b .nil (passes_call (takes_of rfl rfl rfl rfl) (fun _ _ _ _ h => h)) (pa_cons (pv 0) (pa_cons (pv 1) (pa_cons (pv 2) pa_nil)))))), ?_⟩
  exact ⟨_, rfl, _, rfl, _, rfl, r, q, t, tr, l, ps, ms, rfl, R, hq, b, ht, LP, hm, hl, k⟩
theorem fn_mv {f fM C CB : Addr} {fd fdM : FuncData} (F : Fun K "moved" "moved" s_moved f fd) (UM : UseX P w K mg base 8 "moved_along" fM fdM ["railway", "standing", "moves"] (spMvd C CB)) : FnR P w K mg base (L2.CX P w) 9 f (spMvs C CB) := by
  obtain ⟨oc, od, kV, doc, pm, an, cdv, ct, osl, rfl, lk, hcd⟩ := F.ex
  have G := fn_star (P := P) (w := w) (mg := mg) (base := base) (CX := L2.CX P w) (k := 8) (ps := ["railway", "standing"]) (pv := "moves") (N := N_sc_mv) (sp := spMvd C CB) lk hcd sc_mv cxUp (bind_star2 (B := fun vs => bindArgs (PySem.W.fnOf "moved" "moved" (defArgs s_moved) (defBody s_moved) (defScope s_moved) .none kV doc pm an cdv ct) ⟨vs, []⟩) (p1 := "railway") (p2 := "standing") (pv := "moves") (fun a b => rfl) (fun a b r rs => rfl))
    (fun A outer s H vs Q E hr h => body_mv (f := f) UM cdv A outer s H vs Q E hr h)
  refine G.imp fun vs H Q E h => ?_
  obtain ⟨r, q, tr, l, ps, ms, rfl, R, hq, b, LP, hm, hl, k⟩ := h
  refine ⟨[.ref r, .ref q], ps.map V.ref, rfl, rfl, by rw [List.length_map, LP.len, sizeLine_eq]; omega, fun p np => ?_⟩
  have s0 := same_upd np (.tup (ps.map V.ref))
  exact ⟨r, q, p, tr, l, ps, ms, rfl, R.same s0, s0 _ _ hq, b, upd_same, LP.same firmM s0, hm, hl, k.later s0⟩
theorem fn_mvk {f fM C CB : Addr} {fd fdM : FuncData} (F : Fun K "moved" "moved" s_moved f fd) (UM : UseX P w K mg base 8 "moved_along" fM fdM ["railway", "standing", "moves"] (spMvd C CB)) : FnRK P w K mg base (L2.CX P w) 9 f ["standing", "railway"] (spMvk C CB) := by
  obtain ⟨oc, od, kV, doc, pm, an, cdv, ct, osl, rfl, lk, hcd⟩ := F.ex
  have G := fn_starK (P := P) (w := w) (mg := mg) (base := base) (CX := L2.CX P w) (k := 8) (ps := ["railway", "standing"]) (ks := ["standing", "railway"]) (pv := "moves") (N := N_sc_mv) (sp := spMvd C CB) (gg := swp) (hV := swp) lk hcd sc_mv cxUp (fun us hl => match us, hl with | [a, b], _ => rfl) (fun hl r => swp_vals (r.length.trans hl) r) (fun us hl => match us, hl with | [a, b], _ => rfl)
    (fun A outer s H vs Q E hr h => body_mv (f := f) UM cdv A outer s H vs Q E hr h)
  refine G.imp fun vs H Q E h => ?_
  obtain ⟨r, q, tr, l, rfl, R, hq, b, k⟩ := h
  intro p np
  have s0 := same_upd np (.tup [])
  exact ⟨r, q, p, tr, l, [], [], rfl, R.same s0, s0 _ _ hq, b, upd_same, .nil, (fun _ h => nomatch h), Nat.zero_le _, k.later s0⟩
end
end TR


namespace L2.TW
open PySem PySem.Spec PyProof.Rows GenW
/-- while the generator sleeps: v goes behind the list at L, the objects of Cs may change, all else stays -/
structure Doze (L : Addr) (Cs : List Addr) (v : Value) (s s' : Shared) : Prop where
  osy : s'.os = s.os
  bry : AllBare s'.gens
  rst : ∀ b o, b ≠ L → b ∉ Cs → s.heap.get? b = some o → s'.heap.get? b = some o
  lst : ∀ arr c, s.heap.get? L = some (lstObj arr c) → ∃ c', s'.heap.get? L = some (lstObj (arr.push v) c')
  oth : ∀ b ∈ Cs, ∃ o, s'.heap.get? b = some o ∧ ∀ u, o.data ≠ .cell u
theorem doze_of {L : Addr} {v : Value} {s s' : Shared} (z : Slept L v s s') : Doze L [] v s s' :=
  ⟨z.os, z.bare, fun b o h1 _ e => z.keep b o h1 e, z.own, fun b hb => absurd hb (List.not_mem_nil)⟩
/-- running since t0: ys is out and stands in the list at L; that list and the objects of Cs stand still -/
def DI (X : Cx) (L : Addr) (Cs : List Addr) (ip : List (Addr × Obj)) (ys : List V) (σ : St) (H : Hp) (t0 s : Shared) : Prop :=
  ∃ cs : List (Addr × Obj), (∀ b ∈ Cs, ∃ o, (b, o) ∈ cs) ∧ (∀ p ∈ cs, p.1 ∈ Cs ∧ t0.heap.get? p.1 = some p.2) ∧ ∃ (arr : Array Value) (c : Nat), t0.heap.get? L = some (lstObj arr c) ∧ Vals ys arr.toList ∧ Inv X ((L, lstObj arr c) :: (cs ++ ip)) σ H s
/-- none of the generator's own -/
structure Away (X : Cx) (ip : List (Addr × Obj)) (b : Addr) : Prop where
  pnb : ∀ p ∈ X.pn, p.1 ≠ b
  ipb : ∀ p ∈ ip, p.1 ≠ b
  apb : Apart X b
theorem DI.clear {X : Cx} {L : Addr} {Cs : List Addr} {ip : List (Addr × Obj)} {ys : List V} {σ : St} {H : Hp} {t0 s : Shared} (h : DI X L Cs ip ys σ H t0 s) {b : Addr} (hb : b = L ∨ b ∈ Cs) : H b = none ∧ b ≠ X.env.locals ∧ b ∉ X.fs := by
  obtain ⟨cs, k1, k2, arr, c, eL0, r, I⟩ := h
  rcases hb with rfl | hb
  · have q := I.pin (b, lstObj arr c) (List.mem_append_right _ List.mem_cons_self)
    exact ⟨q.2.1, q.2.2.1, q.2.2.2.1⟩
  · obtain ⟨o, ho⟩ := k1 b hb
    have q := I.pin (b, o) (List.mem_append_right _ (List.mem_cons_of_mem _ (List.mem_append_left _ ho)))
    exact ⟨q.2.1, q.2.2.1, q.2.2.2.1⟩
theorem DI.wake {X : Cx} {L : Addr} {Cs : List Addr} {ip : List (Addr × Obj)} {ys : List V} {x : V} {v : Value} {σ : St} {H : Hp} {t0 s s' : Shared} (aw : ∀ b, b = L ∨ b ∈ Cs → Away X ip b) (h : DI X L Cs ip ys σ H t0 s) (rv : RelV x v) (z : Doze L Cs v s s') :
    DI X L Cs ip (ys ++ [x]) σ H s' s' := by
  have nn : ∀ b, b = L ∨ b ∈ Cs → H b = none ∧ b ≠ X.env.locals ∧ b ∉ X.fs := fun b hb => h.clear hb
  obtain ⟨cs, k1, k2, arr, c, eL0, r, I⟩ := h
  have I0 : Inv X ip σ H s := I.pins_of fun p hp => I.pin p (List.mem_append_right _ (List.mem_cons_of_mem _ (List.mem_append_right _ hp)))
  obtain ⟨z1, z2, z3, z4, z5⟩ := z
  obtain ⟨c', eL⟩ := z4 arr c (I.pin (L, lstObj arr c) (List.mem_append_right _ List.mem_cons_self)).1
  obtain ⟨hh, g, d, t, o⟩ := s'
  have z1' : o = s.os := z1
  subst z1'
  have st3 : ∀ b ob, b ∉ L :: Cs → s.heap.get? b = some ob → hh.get? b = some ob := fun b ob hb e => z3 b ob (fun q => hb (q ▸ List.mem_cons_self)) (fun q => hb (List.mem_cons_of_mem _ q)) e
  have tracked : ∀ b u, H b = some u → b ∉ L :: Cs := fun b u q hb => by
    have q2 := (nn b (List.mem_cons.mp hb)).1
    rw [q] at q2
    cases q2
  have J : Inv X ip σ H { s with heap := hh, gens := g, drawn := d, toks := t } := by
    refine I0.step (ch := L :: Cs) (d' := d) (t' := t) (g' := g) (fun b hb => ?_) (fun b ob _ _ n q _ => st3 b ob n q) (fun b ob _ _ n q _ => ⟨ob.slots, st3 b ob n q⟩) (fun _ _ _ _ e => e)
      (fun b ob n q => ⟨ob, st3 b ob n q⟩) (fun _ _ e => e) (fun _ _ _ e => e) (fun b ps e => ⟨#[], by rw [e]; simp⟩) (fun m hm => ?_) (fun b u q => ?_) z2
    · have a := aw b (List.mem_cons.mp hb)
      refine ⟨.inr a.apb.1, a.apb.2.1, a.apb.2.2, fun p hp => ?_⟩
      rcases List.mem_append.mp hp with hq | hq
      · exact a.pnb p hq
      · exact a.ipb p hq
    · obtain ⟨ob, es, ep, ho, rr⟩ := hm
      exact ⟨ob, es, ep, st3 _ ob (fun hb => (nn _ (List.mem_cons.mp hb)).2.1 rfl) ho, rr⟩
    · refine (I0.hok b u q).stay (fun e w hc y => st3 e w ?_ y) (fun _ y => y) fun _ _ y => y
      rcases hc with y | y
      · rw [y]; exact tracked b u q
      · exact tracked e _ y
  refine ⟨pinsAt Cs hh, fun b hb => ?_, fun p hp => of_pinsAt hp, arr.push v, c', eL, ?_, J.pins_of fun p hp => ?_⟩
  · obtain ⟨ob, e, _⟩ := z5 b hb
    exact ⟨ob, mem_pinsAt hb e⟩
  · rw [Array.toList_push]
    exact r.append (.cons rv .nil)
  · rcases List.mem_cons.mp hp with hp | hp
    · rw [hp]
      have q := nn L (.inl rfl)
      exact ⟨eL, q.1, q.2.1, q.2.2, fun u y => by cases y⟩
    · rcases List.mem_append.mp hp with hp | hp
      · obtain ⟨hb, e⟩ := of_pinsAt hp
        obtain ⟨ob, e2, nc⟩ := z5 p.1 hb
        have e3 : p.2 = ob := Option.some.inj (e.symm.trans e2)
        have q := nn p.1 (.inr hb)
        exact ⟨e, q.1, q.2.1, q.2.2, by rw [e3]; exact nc⟩
      · exact J.pin p (List.mem_append_right _ hp)
/-! the protocol -/
def DY (X : Cx) (L : Addr) (Cs : List Addr) : Protocol := fun n t0 v s kap =>
  ∃ ys x ip σ H, RelV x v ∧ n + 1 + ys.length = sizeLine ∧ DI X L Cs ip ys σ H t0 s ∧ ∀ s', Doze L Cs v s s' → kap (.send .none) s'
def DR (X : Cx) (L : Addr) (Cs : List Addr) (Q : List V → Hp → Prop) (F : Value → Shared → Prop) : GenEnd := fun n t0 r s =>
  (∃ ys ip σ H, r = .ok (.ret .none) ∧ n + ys.length = sizeLine ∧ DI X L Cs ip ys σ H t0 s ∧ Q ys H) ∨ ∃ e, r = .error e ∧ F e s
def DSP (X : Cx) (L : Addr) (Cs : List Addr) (ip : List (Addr × Obj)) (D : GEnds) (ys : List V) (t0 : Shared) : Flow → Shared → Prop
  | .next, s => ∃ σ H, DI X L Cs ip ys σ H t0 s ∧ D.nx ys σ H
  | .brk, s => ∃ σ H, DI X L Cs ip ys σ H t0 s ∧ D.bk ys σ H
  | .cont, s => ∃ σ H, DI X L Cs ip ys σ H t0 s ∧ D.ct ys σ H
  | .ret u, s => ∃ v σ H, DI X L Cs ip ys σ H t0 s ∧ RelV v u ∧ D.rt ys v H
structure DC (X : Cx) (L : Addr) (Cs : List Addr) (ip : List (Addr × Obj)) (A : Around) (c : Code) (fs : List Frame) (gd : Bool → Bool) : Prop where
  all : ∀ b, b = L ∨ b ∈ Cs → GC X b ip A c fs gd
theorem DC.one {X : Cx} {L : Addr} {Cs : List Addr} {ip : List (Addr × Obj)} {A : Around} {c : Code} {fs : List Frame} {gd : Bool → Bool} (g : DC X L Cs ip A c fs gd) : GC X L ip A c fs gd := g.all L (.inl rfl)
theorem DC.away {X : Cx} {L : Addr} {Cs : List Addr} {ip : List (Addr × Obj)} {A : Around} {c : Code} {fs : List Frame} {gd : Bool → Bool} (g : DC X L Cs ip A c fs gd) : ∀ b, b = L ∨ b ∈ Cs → Away X ip b :=
  fun b hb => ⟨(g.all b hb).pn, (g.all b hb).ip, (g.all b hb).apart⟩
structure DK (X : Cx) (L : Addr) (Cs : List Addr) (ip : List (Addr × Obj)) (A : Around) (R : GenEnd) (c : Code) (fs : List Frame) (K : Flow → Sem PySem.Fin) (J : Value → Sem PySem.Fin) (D : GEnds) : Prop where
  oky : ∀ (n : Nat) (ys : List V) (s₀ s : Shared) (f : Flow), n + ys.length = sizeLine → DSP X L Cs ip D ys s₀ f s → Seg (model X.prog X.w) A R (DY X L Cs) n s₀ c (K f) fs s
  exy : ∀ (n : Nat) (s₀ : Shared) (e : Value) (s : Shared), X.xe e s → Seg (model X.prog X.w) A R (DY X L Cs) n s₀ c (J e) fs s
/-- a piece of a generator's code -/
def DGo (X : Cx) (m : Sem Flow) (t : TGn) : Prop :=
  ∀ (A : Around) (L : Addr) (Cs : List Addr) (ip : List (Addr × Obj)) (R : GenEnd) (n : Nat) (ys : List V) (s₀ : Shared) (c : Code) (fs : List Frame) (K : Flow → Sem PySem.Fin) (J : Value → Sem PySem.Fin) (gd : Bool → Bool) (lv : List Value → List Value) (s : Shared) (σ : St) (H : Hp) (D : GEnds),
    DC X L Cs ip A c fs gd → n + ys.length = sizeLine → DK X L Cs ip A R c fs K J D → DI X L Cs ip ys σ H s₀ s → t D ys σ H → Seg (model X.prog X.w) A R (DY X L Cs) n s₀ c (m.wrap K J gd lv) fs s
structure DS (X : Cx) (st : Stmt) (t : TGn) : Prop where
  go : DGo X (exec st X.env) t
structure DSs (X : Cx) (sts : List Stmt) (t : TGn) : Prop where
  go : DGo X (execs sts X.env) t
section
variable {X : Cx} {st : Stmt} {rest : List Stmt}
theorem dsp_sp {L : Addr} {Cs : List Addr} {arr : Array Value} {c : Nat} {cs ip : List (Addr × Obj)} {t0 s : Shared} {D : GEnds} {ys : List V} {f : Flow} (k1 : ∀ b ∈ Cs, ∃ o, (b, o) ∈ cs) (k2 : ∀ p ∈ cs, p.1 ∈ Cs ∧ t0.heap.get? p.1 = some p.2) (eL : t0.heap.get? L = some (lstObj arr c)) (r : Vals ys arr.toList)
    (h : SP X ((L, lstObj arr c) :: (cs ++ ip)) (D.at ys) f s) : DSP X L Cs ip D ys t0 f s := by
  cases f with
  | next => obtain ⟨σ, H, I, q⟩ := h; exact ⟨σ, H, ⟨cs, k1, k2, arr, c, eL, r, I⟩, q⟩
  | brk => obtain ⟨σ, H, I, q⟩ := h; exact ⟨σ, H, ⟨cs, k1, k2, arr, c, eL, r, I⟩, q⟩
  | cont => obtain ⟨σ, H, I, q⟩ := h; exact ⟨σ, H, ⟨cs, k1, k2, arr, c, eL, r, I⟩, q⟩
  | ret u => obtain ⟨v, σ, H, I, r1, q⟩ := h; exact ⟨v, σ, H, ⟨cs, k1, k2, arr, c, eL, r, I⟩, r1, q⟩
theorem ds_ps {t : TS} (h : PS X st t) : DS X st (tPlain t) := by
  refine ⟨fun A L Cs ip R n ys t0 c fs KF JF gq lq s σ H D g hl k i q => ?_⟩
  obtain ⟨cs, k1, k2, arr, cc, eL, r, I⟩ := i
  refine seg_wrap ?_
  rw [g.one.over]
  exact wpAny_mono (h.run _ s σ H (D.at ys) I q) (fun f s' hs => k.oky n ys t0 s' f hl (dsp_sp k1 k2 eL r hs)) fun e s' hx => k.exy n t0 e s' hx
theorem dss_pss {t : TS} (h : PSs X rest t) : DSs X rest (tPlain t) := by
  refine ⟨fun A L Cs ip R n ys t0 c fs KF JF gq lq s σ H D g hl k i q => ?_⟩
  obtain ⟨cs, k1, k2, arr, cc, eL, r, I⟩ := i
  refine seg_wrap ?_
  rw [g.one.over]
  exact wpAny_mono (h.run _ s σ H (D.at ys) I q) (fun f s' hs => k.oky n ys t0 s' f hl (dsp_sp k1 k2 eL r hs)) fun e s' hx => k.exy n t0 e s' hx
theorem dss_nil : DSs X [] tG0 := by
  refine ⟨fun A L Cs ip R n ys t0 c fs KF JF gq lq s σ H D g hl k i q => ?_⟩
  exact seg_execs_nil (k.oky n ys t0 s .next hl ⟨σ, H, i, q⟩)
theorem dss_cons {t u : TGn} (a : DS X st t) (b : DSs X rest u) : DSs X (st :: rest) (tGThen t u) := by
  refine ⟨fun A L Cs ip R n ys t0 c fs KF JF gq lq s σ H D g hl k i q => ?_⟩
  refine seg_execs_cons ?_
  refine a.go A L Cs ip R n ys t0 c fs _ JF gq lq s σ H { D with nx := fun zs σ' H' => u D zs σ' H' } g hl ⟨fun n' zs t1 s' f hl' hs => ?_, k.exy⟩ i q
  cases f with
  | next =>
    obtain ⟨σ', H', i', q'⟩ := hs
    exact b.go A L Cs ip R n' zs t1 c fs KF JF gq lq s' σ' H' D g hl' k i' q'
  | brk => exact k.oky n' zs t1 s' .brk hl' hs
  | cont => exact k.oky n' zs t1 s' .cont hl' hs
  | ret u => exact k.oky n' zs t1 s' (.ret u) hl' hs
theorem dss_one {t : TGn} (a : DS X st t) : DSs X [st] (tGThen t tG0) := dss_cons a dss_nil
theorem ds_yield {e : Expr} {yp pos : Pos} {te : TE} (he : PE X e te) (hco : X.env.scope.isCoroutine = false := by rfl) (hi : interactive X.env = false := by rfl) : DS X (.Expr (.Yield (some e) yp) pos) (tGYield te) := by
  refine ⟨fun A L Cs ip R n ys t0 c fs KF JF gq lq s σ H D g hl k i q => ?_⟩
  obtain ⟨lt, q⟩ := q
  obtain ⟨n, rfl⟩ : ∃ m, n = m + 1 := ⟨n - 1, by omega⟩
  obtain ⟨cs, k1, k2, arr, cc, eL, r, I⟩ := i
  refine seg_Expr_Yield g.one.split g.one.gd g.one.guard ?_ hco hi
  rw [g.one.over]
  refine wpAny_mono (he.run _ s σ H _ I q) (fun v s' hv => ?_) fun e s' hx => k.exy _ t0 e s' hx
  obtain ⟨x, H1, I1, rv, q⟩ := hv
  have i1 : DI X L Cs ip ys σ H1 t0 s' := ⟨cs, k1, k2, arr, cc, eL, r, I1⟩
  intro kap hk
  refine ⟨ys, x, ip, σ, H1, rv, hl, i1, fun s2 z => hk .none s2 ?_⟩
  refine k.oky n (ys ++ [x]) s2 s2 .next ?_ ⟨σ, H1, i1.wake g.away rv z, q⟩
  rw [List.length_append, List.length_singleton]
  omega
/-- if .. else -/
def tGIf (tc : TT) (t u : TGn) : TGn := fun D ys σ H => tc σ H fun b H1 => if b = true then t D ys σ H1 else u D ys σ H1
theorem ds_if {tst : Expr} {p q : List Stmt} {pos : Pos} {tc : TT} {t u : TGn} (hc : PT X tst tc) (ha : DSs X p t) (hb : DSs X q u) : DS X (.If tst p q pos) (tGIf tc t u) := by
  refine ⟨fun A L Cs ip R n ys t0 c fs KF JF gq lq s σ H D g hl k i w => ?_⟩
  obtain ⟨cs, k1, k2, arr, cc, eL, r, I⟩ := i
  show Seg _ _ _ _ n t0 c ((standAt pos >>= fun _ => (isTrue tst X.env (eval tst X.env) >>= fun d => if d then execs p X.env else execs q X.env)).wrap KF JF gq lq) fs s
  refine seg_bind_wrap (wpAny_standAt ?_)
  refine seg_bind_wrap ?_
  rw [g.one.over]
  refine wpAny_mono (hc.run _ s σ H _ I w) (fun d s' hd => ?_) fun e s' hx => k.exy n t0 e s' hx
  obtain ⟨H1, I1, w1⟩ := hd
  have i1 : DI X L Cs ip ys σ H1 t0 s' := ⟨cs, k1, k2, arr, cc, eL, r, I1⟩
  cases d with
  | true => exact ha.go A L Cs ip R n ys t0 c fs KF JF gq lq s' σ H1 D g hl k i1 w1
  | false => exact hb.go A L Cs ip R n ys t0 c fs KF JF gq lq s' σ H1 D g hl k i1 w1
end
end L2.TW

namespace L2.TW
open PySem PySem.Spec PyProof.Rows GenW
/-- what a loop's code does with an exception -/
abbrev loopOut (env : Env) (x : Value) : Sem PySem.Fin := (do noteFrame x env; theTreesLotGoes x : Sem Unit).wrap (fun _ => (.raise x : Sem PySem.Fin)) .raise id id
section
variable {prog : Program} {w : World} {A : Around} {R : GenEnd} {Y : Protocol} {n : Nat} {t0 : Shared} {fs : List Frame} {s : Shared} {env : Env}
/-- a turn of a for loop -/
theorem seg_forLoop {tg : Expr} {it : Value} {body : List Stmt}
    (h : wpAny (model prog w) (A.over (.forLoop tg it body [] env) fs) (pyNext it) (fun r s1 => match r with
        | none => Seg (model prog w) A R Y n t0 (.block [] env) (leafOf (.ok .next)) fs s1
        | some v => wpAny (model prog w) (A.over (.forLoop tg it body [] env) fs) (letOwnedTupleGo tg it v) (fun _ s2 => wpAny (model prog w) (A.over (.forLoop tg it body [] env) fs) (assign tg env v) (fun _ s3 =>
            Seg (model prog w) A R Y n t0 (.forLoop tg it body [] env) ((execs body env).wrap (fun f => match f with
              | .next => .pure (.again (.forLoop tg it body [] env))
              | .cont => .pure (.again (.forLoop tg it body [] env))
              | .brk => .pure (.done .next)
              | .ret v => .pure (.done (.ret v))) (loopOut env) id id) fs s3)
            (fun x s' => Seg (model prog w) A R Y n t0 (.forLoop tg it body [] env) (loopOut env x) fs s') s2)
          (fun x s' => Seg (model prog w) A R Y n t0 (.forLoop tg it body [] env) (loopOut env x) fs s') s1)
      (fun x s' => Seg (model prog w) A R Y n t0 (.forLoop tg it body [] env) (loopOut env x) fs s') s) :
    Seg (model prog w) A R Y n t0 (.forLoop tg it body [] env) ((model prog w).den (.forLoop tg it body [] env)) fs s := by
  show Seg _ A R Y n t0 _ ((forTurn tg it body [] env).onRaise (fun x => do noteFrame x env; theTreesLotGoes x)) fs s
  have hE : ∀ e, Sem.bind (do noteFrame e env; theTreesLotGoes e : Sem Unit) (fun _ => (Sem.raise e : Sem PySem.Fin)) = loopOut env e := fun e => by rw [Sem.bind_eq_wrap]
  rw [Sem.onRaise_eq_wrap]
  unfold forTurn
  refine seg_bind_wrap (wpAny_standAt ?_)
  refine seg_bind_wrap (wpAny_onRaise (wpAny_mono h (fun r s1 hr => ?_) fun x s' hx => ?_))
  · cases r with
    | none =>
      refine seg_again rfl ?_
      exact hr
    | some v =>
      refine seg_bind_wrap (wpAny_mono hr (fun _ s2 h2 => ?_) fun x s' hx => ?_)
      · refine seg_bind_wrap (wpAny_mono h2 (fun _ s3 h3 => ?_) fun x s' hx => ?_)
        · rw [Sem.bind_eq_wrap', Sem.wrap_wrap]
          rw [Sem.wrap_congr (execs body env) _ _ (K' := fun f => match f with
              | .next => .pure (.again (.forLoop tg it body [] env))
              | .cont => .pure (.again (.forLoop tg it body [] env))
              | .brk => .pure (.done .next)
              | .ret v => .pure (.done (.ret v))) (H' := loopOut env) (fun f => by cases f <;> rfl) (fun e => by first | exact hE e | (rw [← hE e]; rfl))]
          exact h3
        · exact hE x ▸ hx
      · exact hE x ▸ hx
  · refine wpAny_standAt ?_
    exact hE x ▸ hx
end
section
variable {X : Cx}
theorem dc_loop {L : Addr} {Cs : List Addr} {ip : List (Addr × Obj)} {A : Around} {c c' : Code} {fs : List Frame} {gd : Bool → Bool} {k : Result → Sem PySem.Fin} {l kp : List Value} {p : Pos} (g : DC X L Cs ip A c fs gd) (hw : c'.weight = 0) (hu : c'.cUnits = 0) :
    DC X L Cs ip A c' (.ret k none (gd false) l c p kp :: fs) id := ⟨fun b hb => gc_loop (g.all b hb) hw hu⟩
theorem seg_back {L : Addr} {Cs : List Addr} {ip : List (Addr × Obj)} {A : Around} {R : GenEnd} {c : Code} {fs : List Frame} {KF : Flow → Sem PySem.Fin} {JF : Value → Sem PySem.Fin} {gd : Bool → Bool} {lv : List Value → List Value} {D : GEnds} {n : Nat} {t0 s : Shared} {e : Value}
    (g : DC X L Cs ip A c fs gd) (k : DK X L Cs ip A R c fs KF JF D) (h : cameBackBy (model X.prog X.w) X.A X.env X.xe e s) :
    Seg (model X.prog X.w) A R (DY X L Cs) n t0 c (((Sem.raise e : Sem Flow).onRaise (cameBack X.env)).wrap KF JF gd lv) fs s := by
  show Seg _ A R _ n t0 c (((cameBack X.env e).bind fun _ => (Sem.raise e : Sem Flow)).wrap KF JF gd lv) fs s
  rw [Sem.bind_eq_wrap, Sem.wrap_wrap]
  refine seg_wrap ?_
  rw [g.one.over]
  exact wpAny_mono h (fun _ s' hx => k.exy n t0 e s' hx) fun x s' hx => k.exy n t0 x s' hx
/-- for .. in .. -/
def tGFor (wi : TI) (g : TG) (tb : TGn) : TGn := fun D ys σ H => wi σ H fun J H1 => ∃ W : Nat → Nat → List V → St → Hp → Prop, (∃ m, W 0 m ys σ H1) ∧ ∀ i m zs σ H, W i m zs σ H →
  (J.stop i H ∧ D.nx zs σ H) ∨ (J.go i H ∧ ∃ N : List V → St → Hp → Prop, (∀ zs' σ' H', N zs' σ' H' → ∃ m', m' < m ∧ W (i + 1) m' zs' σ' H') ∧
    ∀ x H', J.yld i H x H' → g x σ H' fun σ2 H2 => tb { D with nx := N, ct := N, bk := D.nx } zs σ2 H2)
theorem ds_for {tg iter : Expr} {body : List Stmt} {pos : Pos} {wi : TI} {g : TG} {tb : TGn} (hp : PassesOwn (model X.prog X.w) X.A X.env X.xe) (hc : X.calm = true) (hi : PI X tg iter wi) (hg : PG X tg g) (hb : DSs X body tb)
    (hs : ∀ x, foldedSetIterable iter X.env x = pure x := by intro _; rfl) : DS X (.For tg iter body [] pos) (tGFor wi g tb) := by
  refine ⟨fun A L Cs ip R n ys t0 c fs KF JF gq lq s σ H D gc hl k i q => ?_⟩
  obtain ⟨cs, k1, k2, arr, cc, eL, r, I⟩ := i
  rw [exec_For]
  refine seg_bind_wrap (wpAny_standAt ?_)
  refine seg_bind_wrap ?_
  rw [gc.one.over]
  refine wpAny_mono (hi.run _ s σ H _ I q) (fun v s1 h1 => ?_) fun e s' hx => k.exy n t0 e s' hx
  refine seg_bind_wrap (wpAny_of_eq (hs v) ?_)
  refine seg_bind_wrap (wpAny_standAt ?_)
  refine seg_bind_wrap (wpAny_holding ?_)
  rw [gc.one.over]
  refine wpAny_mono h1 (fun itv s2 h2 => ?_) fun e s' hx => k.exy n t0 e s' hx
  obtain ⟨it, fp, tn, J, H2, e, I2, T, st2, f2, W, ⟨m0, w0⟩, turn⟩ := h2
  subst e
  refine seg_call fun p => ?_
  have gl := fun (kk : Result → Sem PySem.Fin) => dc_loop (k := kk) (c' := .forLoop tg (.ref it) body [] X.env) (l := lq []) (kp := []) (p := p) gc rfl rfl
  -- the iterator's own objects are none of the consumer's
  have apt : ∀ b ∈ fp, ∀ a, a = L ∨ a ∈ Cs → b ≠ a := fun b hb a ha z => by
    rcases ha with ha | ha
    · exact (f2 b hb).2.2.2.2.2 (L, lstObj arr cc) (List.mem_append_right _ List.mem_cons_self) (by rw [z, ha])
    · obtain ⟨o, ho⟩ := k1 a ha
      exact (f2 b hb).2.2.2.2.2 (a, o) (List.mem_append_right _ (List.mem_cons_of_mem _ (List.mem_append_left _ ho))) z.symm
  have spot : ∀ {H' : Hp}, (∀ b ∈ fp, H' b = none) → ∀ {ar : Array Value} {c3 : Nat} {cs' : List (Addr × Obj)}, (∀ q ∈ cs', q.1 ∈ Cs) → ∀ b ∈ fp, FpOk X ((L, lstObj ar c3) :: (cs' ++ ip)) H' b := fun {H'} hn {ar c3 cs'} kk b hb => by
    obtain ⟨_, f1, f3, f4, f5, f6⟩ := f2 b hb
    refine ⟨hn b hb, f1, f3, f4, f5, fun q hq => ?_⟩
    rcases List.mem_append.mp hq with hq | hq
    · exact f6 q (List.mem_append_left _ hq)
    · rcases List.mem_cons.mp hq with hq | hq
      · rw [hq]
        exact fun z => apt b hb L (.inl rfl) z.symm
      · rcases List.mem_append.mp hq with hq | hq
        · exact fun z => apt b hb q.1 (.inr (kk q hq)) z.symm
        · exact f6 q (List.mem_append_right _ (List.mem_cons_of_mem _ (List.mem_append_right _ hq)))
  have main : ∀ (m j n : Nat) (zs : List V) (t1 s : Shared) (σ : St) (H : Hp), n + zs.length = sizeLine → W j m zs σ H → tn j s.heap → (∀ b ∈ fp, H b = none) → DI X L Cs ip zs σ H t1 s →
      Seg (model X.prog X.w) A R (DY X L Cs) n t1 (.forLoop tg (.ref it) body [] X.env) ((model X.prog X.w).den (.forLoop tg (.ref it) body [] X.env))
        (.ret (fun r => ((match r with | .ok f => (.pure f : Sem Flow) | .error e => .raise e).onRaise (cameBack X.env)).wrap KF JF gq lq) none (gq false) (lq []) c p [] :: fs) s := by
    intro m
    induction m using Nat.strongRecOn with
    | ind m ih =>
      intro j n zs t1 s σ H hl w st fr i
      have ee : ∀ (n : Nat) (t1 : Shared) (x : Value) (s' : Shared), X.xe x s' → Seg (model X.prog X.w) A R (DY X L Cs) n t1 (.forLoop tg (.ref it) body [] X.env) (loopOut X.env x)
          (.ret (fun r => ((match r with | .ok f => (.pure f : Sem Flow) | .error e => .raise e).onRaise (cameBack X.env)).wrap KF JF gq lq) none (gq false) (lq []) c p [] :: fs) s' := fun n t1 x s' hx => by
        refine seg_wrap ?_
        rw [(gl _).one.over]
        refine wpAny_bind (wpAny_mono (hp x s' hx) (fun _ s'' hcb => wpAny_theTreesLotGoes ?_) fun y s'' hcb => ?_)
        · exact seg_leaf (.error x) (seg_back gc k hcb)
        · exact seg_leaf (.error y) (seg_back gc k hcb)
      refine seg_forLoop ?_
      rw [(gl _).one.over]
      obtain ⟨cs, k1, k2, ar, c3, eL, r, I⟩ := i
      rcases turn j m zs σ H w with ⟨stop, qn⟩ | ⟨go, N, hN, step⟩
      · refine wpAny_mono (T.done X rfl rfl rfl hc j _ s σ H X.xe I (spot fr fun q hq => (k2 q hq).1) st stop) (fun r' s4 ⟨hr, I4⟩ => ?_) fun x s' hx => ee n t1 x s' hx
        subst hr
        exact seg_leaf (.ok .next) (k.oky n zs t1 s4 .next hl ⟨σ, H, ⟨cs, k1, k2, ar, c3, eL, r, I4⟩, qn⟩)
      · refine wpAny_mono (T.item X rfl rfl rfl hc j _ s σ H X.xe I (spot fr fun q hq => (k2 q hq).1) st go) (fun r' s4 ⟨u, hr, h4⟩ => ?_) fun x s' hx => ee n t1 x s' hx
        subst hr
        refine wpAny_mono h4 (fun _ s5 ⟨x, H5, I5, r5, y5, st5, fr5⟩ => ?_) fun x s' hx => ee n t1 x s' hx
        have I5' := I5.pinned (spot fr5 fun q hq => (k2 q hq).1) (T.obj _ _ st5)
        refine wpAny_mono (hg.run _ s5 σ H5 x u _ I5' r5 (step x H5 y5)) (fun _ s6 ⟨σ6, H6, I6, q6⟩ => ?_) fun x s' hx => ee n t1 x s' hx
        -- the body, the iterator's objects pinned
        have i6 : DI X L Cs (ip ++ pinsAt fp s5.heap) zs σ6 H6 t1 s6 := by
          refine ⟨cs, k1, k2, ar, c3, eL, r, I6.pins_of fun q hq => I6.pin q (List.mem_append_right _ ?_)⟩
          rcases List.mem_cons.mp hq with hq | hq
          · exact List.mem_append_left _ (List.mem_cons.mpr (.inl hq))
          · rcases List.mem_append.mp hq with hq | hq
            · exact List.mem_append_left _ (List.mem_cons_of_mem _ (List.mem_append_left _ hq))
            · rcases List.mem_append.mp hq with hq | hq
              · exact List.mem_append_left _ (List.mem_cons_of_mem _ (List.mem_append_right _ hq))
              · exact List.mem_append_right _ hq
        have g6 : DC X L Cs (ip ++ pinsAt fp s5.heap) A (.forLoop tg (.ref it) body [] X.env) (.ret (fun r => ((match r with | .ok f => (.pure f : Sem Flow) | .error e => .raise e).onRaise (cameBack X.env)).wrap KF JF gq lq) none (gq false) (lq []) c p [] :: fs) id := by
          refine ⟨fun b hb => ?_⟩
          have g0 := (gl (fun r => ((match r with | .ok f => (.pure f : Sem Flow) | .error e => .raise e).onRaise (cameBack X.env)).wrap KF JF gq lq)).all b hb
          refine ⟨g0.pn, fun q hq => ?_, g0.apart, g0.over, g0.split, g0.guard, g0.gd⟩
          rcases List.mem_append.mp hq with hq | hq
          · exact g0.ip q hq
          · exact apt q.1 (of_pinsAt hq).1 b hb
        have back : ∀ {zs' : List V} {σ7 : St} {H7 : Hp} {t7 s7 : Shared}, DI X L Cs (ip ++ pinsAt fp s5.heap) zs' σ7 H7 t7 s7 → DI X L Cs ip zs' σ7 H7 t7 s7 ∧ tn (j + 1) s7.heap ∧ ∀ b ∈ fp, H7 b = none := fun {zs' σ7 H7 t7 s7} i7 => by
          obtain ⟨cs, k1, k2, ar, c3, eL, r, I7⟩ := i7
          have pin7 : ∀ b ∈ fp, ∀ o, s5.heap.get? b = some o → s7.heap.get? b = some o ∧ H7 b = none := fun b hb o e =>
            have z := I7.pin (b, o) (List.mem_append_right _ (List.mem_cons_of_mem _ (List.mem_append_right _ (List.mem_append_right _ (mem_pinsAt hb e)))))
            ⟨z.1, z.2.1⟩
          refine ⟨⟨cs, k1, k2, ar, c3, eL, r, I7.pins_of fun q hq => I7.pin q (List.mem_append_right _ ?_)⟩, T.keep _ _ _ st5 fun b hb o e => (pin7 b hb o e).1, fun b hb => ?_⟩
          · rcases List.mem_cons.mp hq with hq | hq
            · exact List.mem_cons.mpr (.inl hq)
            · rcases List.mem_append.mp hq with hq | hq
              · exact List.mem_cons_of_mem _ (List.mem_append_left _ hq)
              · exact List.mem_cons_of_mem _ (List.mem_append_right _ (List.mem_append_left _ hq))
          · obtain ⟨o, e, _⟩ := T.obj _ _ st5 b hb
            exact (pin7 b hb o e).2
        refine hb.go A L Cs (ip ++ pinsAt fp s5.heap) R n zs t1 _ _ _ _ id id s6 σ6 H6 { D with nx := N, ct := N, bk := D.nx } g6 hl ⟨fun n' zs' t2 s7 f hl' hs' => ?_, fun n' t2 x s7 hx => ee n' t2 x s7 hx⟩ i6 q6
        have again : ∀ {σ7 : St} {H7 : Hp}, DI X L Cs (ip ++ pinsAt fp s5.heap) zs' σ7 H7 t2 s7 → N zs' σ7 H7 → Seg (model X.prog X.w) A R (DY X L Cs) n' t2 (.forLoop tg (.ref it) body [] X.env) (.pure (.again (.forLoop tg (.ref it) body [] X.env)))
            (.ret (fun r => ((match r with | .ok f => (.pure f : Sem Flow) | .error e => .raise e).onRaise (cameBack X.env)).wrap KF JF gq lq) none (gq false) (lq []) c p [] :: fs) s7 := fun {σ7 H7} i7 n7 => by
          obtain ⟨m', hm, w7⟩ := hN zs' σ7 H7 n7
          obtain ⟨i8, st8, fr8⟩ := back i7
          exact seg_again rfl (ih m' hm (j + 1) n' zs' t2 s7 σ7 H7 hl' w7 st8 fr8 i8)
        cases f with
        | next => obtain ⟨σ7, H7, i7, n7⟩ := hs'; exact again i7 n7
        | cont => obtain ⟨σ7, H7, i7, n7⟩ := hs'; exact again i7 n7
        | brk =>
          obtain ⟨σ7, H7, i7, n7⟩ := hs'
          exact seg_leaf (.ok .next) (k.oky n' zs' t2 s7 .next hl' ⟨σ7, H7, (back i7).1, n7⟩)
        | ret v =>
          obtain ⟨x7, σ7, H7, i7, r7, n7⟩ := hs'
          exact seg_leaf (.ok (.ret v)) (k.oky n' zs' t2 s7 (.ret v) hl' ⟨x7, σ7, H7, (back i7).1, r7, n7⟩)
  exact main m0 0 n ys t0 s2 σ H2 hl w0 st2 (fun b hb => (f2 b hb).1) ⟨cs, k1, k2, arr, cc, eL, r, I2⟩
end
end L2.TW

namespace L2.TW
open PySem PySem.Spec PyProof.Rows GenW
/-- the end of a run: all that was handed out stands in L; what the consumer owns stands as at the last waking -/
def WEnd (P : Program) (w : World) (outer : List Env) (H : Hp) (s : Shared) (L : Addr) (Cs : List Addr) (a : Addr) (g : Nat) (Q : List V → Hp → Prop) (E : XK) : GenEnd := fun n t0 r s1 =>
  ((r = .ok (.ret .none) ∨ r = .ok .next) ∧ ∃ H' ys arr c, s1.os = s.os ∧ AllBare s1.gens ∧ Un (frs outer) [] H H' s.heap s1.heap ∧ HOk P w H' s1.heap ∧ (∀ b, b = L ∨ b ∈ Cs → H' b = none ∧ s1.heap.get? b = t0.heap.get? b) ∧
    s1.heap.get? L = some (lstObj arr c) ∧ Vals ys arr.toList ∧ ys.length ≤ sizeLine ∧ Q ys H') ∨
  ∃ e, r = .error e ∧ CX P w outer H s E e s1 ∧ s1.heap.IsGen a g
/-- an item is handed out -/
def WItem (s : Shared) (L : Addr) (Cs : List Addr) (a : Addr) (g : Nat) : Protocol := fun n t0 v s1 kap =>
  s1.os = s.os ∧ AllBare s1.gens ∧ s1.heap.NoLimit ∧ s1.heap.IsGen a g ∧ (∀ b, b = L ∨ b ∈ Cs → s1.heap.get? b = t0.heap.get? b) ∧
  (∃ (arr : Array Value) (c : Nat), s1.heap.get? L = some (lstObj arr c) ∧ n + 1 + arr.size = sizeLine) ∧ ∀ s', Doze L Cs v s1 s' → kap (.send .none) s'
/-- a generator that has not begun -/
def MadeW (P : Program) (w : World) (k : Nat) (outer : List Env) (H : Hp) (s : Shared) (Q : List V → Hp → Prop) (E : XK) (u : Value) (s' : Shared) : Prop :=
  ∃ (a : Addr) (g : Nat) (c : Code), u = .ref a ∧ s.heap.objs.size ≤ a ∧ a < s'.heap.objs.size ∧ s'.heap.IsGen a g ∧ s'.gens[g]? = some (.fresh c) ∧ s'.os = s.os ∧ AllBare s'.gens ∧ s'.heap.NoLimit ∧ (∀ b o, s.heap.get? b = some o → s'.heap.get? b = some o) ∧
    ∀ (A : Around) (L : Addr) (Cs : List Addr) (s2 : Shared), Room k A → A.frames = some outer → L ∉ Cs → (∀ b, b = L ∨ b ∈ Cs → s'.heap.objs.size ≤ b) → (∀ b ∈ Cs, ∃ o, s2.heap.get? b = some o ∧ ∀ u, o.data ≠ .cell u) →
      (∀ b o, s'.heap.get? b = some o → s2.heap.get? b = some o) → (∃ c, s2.heap.get? L = some (lstObj #[] c)) → s2.os = s.os → AllBare s2.gens →
      Seg (model P w) A (WEnd P w outer H s L Cs a g Q E) (WItem s L Cs a g) sizeLine s2 c ((model P w).den c) [] s2
theorem made_of {P : Program} {w : World} {k : Nat} {outer : List Env} {H : Hp} {s : Shared} {Q : List V → Hp → Prop} {E : XK} {u : Value} {s' : Shared} (h : MadeW P w k outer H s Q E u s') : GMade P w k outer H s [] Q E u s' := by
  obtain ⟨a, g, c, e, h1, h2, h3, h4, h5, h6, h7, h8, run⟩ := h
  refine ⟨a, g, c, e, h1, h2, h3, h4, h5, h6, h7, h8, fun A S s2 hr hf hS hk ho hos hb => ?_⟩
  refine seg_imp (fun n t0 r s1 hR => ?_) (fun n t0 v s1 kap kap' hkk hY => ?_) sizeLine (run A S [] s2 hr hf (List.not_mem_nil) (fun b hb => ?_) (fun b hb => absurd hb (List.not_mem_nil)) hk ho hos hb)
  · rcases hR with ⟨er, H', ys, arr, c', q1, q2, q3, q4, q5, q6⟩ | z
    · exact .inl ⟨er, H', ys, arr, c', q1, q2, q3, q4, (q5 S (.inl rfl)).1, q6⟩
    · exact .inr z
  · obtain ⟨q1, q2, q3, q4, _, q6, q7⟩ := hY
    exact ⟨q1, q2, q3, q4, q6, fun s' z => hkk _ _ (q7 s' (doze_of z))⟩
  · rcases hb with rfl | hb
    · exact hS
    · exact absurd hb (List.not_mem_nil)
structure GFnW (P : Program) (w : World) (K : PySem.W.Frag) (mg : Str → Option Value) (base : Heap) (k : Nat) (f : Addr) (fd : FuncData) (ps : List Str) (sp : SpG) : Prop where
  len : ∀ vs H Q E, sp vs H Q E → vs.length = ps.length
  run : ∀ (A : Around) (outer : List Env) (s : Shared) (H : Hp) (args : Args) (us : List Value) (vs : List V) (Q : List V → Hp → Prop) (E : XK), Room k A → Env0 P w K mg base A outer s H → BindsTo s fd args (ps.zip us) → Vals vs us → sp vs H Q E →
    codeAny (model P w) A (.call (.ref f) args) (fun r s' => match r with | .ok (.ret u) => MadeW P w k outer H s Q E u s' | _ => False) s
theorem GFnW.plain {P : Program} {w : World} {K : PySem.W.Frag} {mg : Str → Option Value} {base : Heap} {k : Nat} {f : Addr} {fd : FuncData} {ps : List Str} {sp : SpG} (F : GFnW P w K mg base k f fd ps sp) : GFn P w K mg base k f fd ps sp := by
  refine ⟨F.len, fun A outer s H args us vs Q E hr e0 hb r h => codeAny_mono (F.run A outer s H args us vs Q E hr e0 hb r h) fun q s' hq => ?_⟩
  cases q with
  | error er => exact hq
  | ok fl => cases fl with
    | ret u => exact made_of hq
    | next => exact hq
    | brk => exact hq
    | cont => exact hq
/-- a generator def, by its body -/
theorem gfnW_of {P : Program} {w : World} {K : PySem.W.Frag} {mg : Str → Option Value} {base : Heap} {k : Nat} {f : Addr} {name qual : Str} {params : Arguments} {body : List Stmt} {scope : Scope} {dV kV doc pm cdv ct oc : Value} {an od : Option Addr}
    {osl : Array (Option Value)} {N ps : List Str} {sp : SpG} (lk : K.lookup f = some ⟨oc, od, .func (PySem.W.fnOf name qual params body scope dV kV doc pm an cdv ct), osl⟩) (hcd : PySem.W.codeIn K cdv qual = true) (S : GScope N ps scope)
    (len : ∀ vs H Q E, sp vs H Q E → vs.length = ps.length)
    (hbody : ∀ (A : Around) (outer : List Env) (s : Shared) (H : Hp) (vs : List V) (Q : List V → Hp → Prop) (E : XK) (pn : List (Addr × Obj)), Room k (A.deeper (envOfC qual scope s.heap.objs.size f cdv)) → sp vs H Q E →
      ∃ t, DSs (gcxOf P w K mg base N qual scope f cdv A outer s H E pn) body t ∧ t { nx := fun ys _ H' => Q ys H', rt := fun ys v H' => v = .non ∧ Q ys H' } [] (start N vs) H) :
    GFnW P w K mg base (k + 1) f (PySem.W.fnOf name qual params body scope dV kV doc pm an cdv ct) ps sp := by
  refine ⟨len, fun A outer s0 H args us vs Q E room e0 hb rel hsp => ?_⟩
  have hl := len _ _ _ _ hsp
  have kin0 : K.In s0.heap := e0.mod.kin.keeps fun b o e => (e0.bs b o e).1
  have lim0 : s0.heap.NoLimit := e0.mod.nolimit.keeps fun b o e => (e0.bs b o e).1
  have kinds : ∀ y ∈ ps.zip us, scope.names.lookup y.1 = some .local ∨ (scope.names.lookup y.1 = some .cell ∧ ((cellsFrom (s0.heap.objs.size + 1) scope.names []).lookup y.1).isSome = true) := fun ⟨n, v⟩ hy => by
    rcases S.par n (List.of_mem_zip hy).1 with q | q
    · exact .inl q
    · exact .inr ⟨q, PySem.W.cellsFrom_some _ _ _ (.inl q)⟩
  refine codeAny_call_generator room.depth (kin0 _ _ lk) rfl S.co S.gen rfl (PySem.W.codeRec_of kin0 hcd) (hb _ _ _ _ ?_)
  refine wpAny_newFunctionEnv_cells S.kind kinds fun env he s1 x => ?_
  subst he
  refine ⟨lim0.keeps x.toInCall.keep, ?_⟩
  have lim1 : s1.heap.NoLimit := lim0.keeps x.toInCall.keep
  obtain ⟨h1, tk, es1, hk1⟩ := x.done
  have os1 : s1.os = s0.os := by rw [es1]
  have gens1 : s1.gens = s0.gens := by rw [es1]
  have lt1 : s0.heap.objs.size < s1.heap.objs.size := x.toInCall.ns.lt
  have kp1 : ∀ b o, s0.heap.get? b = some o → s1.heap.get? b = some o := x.toInCall.keep
  have main : ∀ (go : Obj) (nm qn : Value) (tk2 : Nat), go.cls = .type "generator" → go.data = .fields #[.int s1.gens.size 0, nm, qn] → go.slots = #[] → (∀ h : Heap, (h.push go).get? h.objs.size = some go) →
      MadeW P w (k + 1) outer H s0 Q E (.ref s1.heap.objs.size) { s1 with gens := s1.gens.push (.fresh (.func body (envOfC qual scope s0.heap.objs.size f cdv))), toks := tk2, heap := s1.heap.push go } := by
    intro go nm qn tk2 gcls gdat gsl gat
    have asGen : ∀ h : Heap, h.get? s1.heap.objs.size = some go → h.IsGen s1.heap.objs.size s1.gens.size := fun h e => ⟨go, nm, qn, e, gcls, gdat, gsl⟩
    have here : (s1.heap.push go).get? s1.heap.objs.size = some go := gat _
    refine ⟨s1.heap.objs.size, s1.gens.size, _, rfl, Nat.le_of_lt lt1, ?_, asGen _ here, Array.getElem?_push_size .., os1, ?_, lim1.keeps fun b o e => Heap.get?_push_of_some _ e, fun b o e => Heap.get?_push_of_some _ (kp1 b o e), ?_⟩
    · show _ < (s1.heap.push _).objs.size
      rw [Heap.size_push]; exact Nat.lt_succ_self _
    · exact AllBare.push (by rw [gens1]; exact e0.bare) rfl
    intro B L Cs s2 rB fB neL young own kp2' hL os2 bare2
    have e0B : Env0 P w K mg base B outer s0 H := ⟨fB, e0.mod, e0.bs, e0.bsz, e0.funs, e0.frf, e0.hok, e0.bare⟩
    obtain ⟨t, ht, hq⟩ := hbody B outer s0 H vs Q E [(s1.heap.objs.size, go)] (rB.deeper _) hsp
    have I1 : Inv (gcxOf P w K mg base N qual scope f cdv B outer s0 H E []) [] (start N vs) H s1 := inv_startG S rB.hd e0B hl rel x
    have kp2 : ∀ b o, s1.heap.get? b = some o → s2.heap.get? b = some o := fun b o e => kp2' b o (Heap.get?_push_of_some _ e)
    have I2 : Inv (gcxOf P w K mg base N qual scope f cdv B outer s0 H E []) [] (start N vs) H s2 :=
      I1.call' (ch := []) (os2.trans os1.symm) (Un.kept kp2) (I1.hok.kept kp2) bare2 fun b z => by simp at z
    have older : ∀ b, b = L ∨ b ∈ Cs → s1.heap.objs.size < b := fun b hb => by
      have q : (s1.heap.push go).objs.size ≤ b := young b hb
      rw [Heap.size_push] at q
      exact q
    obtain ⟨cL, eL⟩ := hL
    have ego : s2.heap.get? s1.heap.objs.size = some go := kp2' s1.heap.objs.size go here
    have ncell : ∀ v, go.data ≠ .cell v := fun v q => by rw [gdat] at q; cases q
    have fresh : ∀ b, s1.heap.objs.size ≤ b → H b = none ∧ b ≠ s0.heap.objs.size ∧ b ∉ frs outer ∧ s0.heap.objs.size ≤ b ∧ ∀ y c, (cellsFrom (s0.heap.objs.size + 1) scope.names []).lookup y = some c → c ≠ b := fun b hb => by
      refine ⟨I1.hok.fresh hb, Nat.ne_of_gt (Nat.lt_of_lt_of_le lt1 hb), I1.nofs hb, Nat.le_trans (Nat.le_of_lt lt1) hb, fun y c e z => ?_⟩
      obtain ⟨v, ob, ho, _⟩ := I1.cell y c e
      have q := Heap.lt_size ho
      rw [z] at q
      exact absurd (Nat.lt_of_lt_of_le q hb) (Nat.lt_irrefl _)
    have i0 : DI (gcxOf P w K mg base N qual scope f cdv B outer s0 H E [(s1.heap.objs.size, go)]) L Cs [] [] (start N vs) H s2 s2 := by
      refine ⟨pinsAt Cs s2.heap, fun b hb => ?_, fun p hp => of_pinsAt hp, #[], cL, eL, .nil, Inv.pinnedG I2 fun p hp => ?_⟩
      · obtain ⟨o, e, _⟩ := own b hb
        exact ⟨o, mem_pinsAt hb e⟩
      · rcases List.mem_append.mp hp with z | z
        · rw [List.mem_singleton.mp z]
          obtain ⟨y1, y2, y3, _, _⟩ := fresh s1.heap.objs.size (Nat.le_refl _)
          exact ⟨ego, y1, y2, y3, ncell⟩
        · rcases List.mem_cons.mp z with z | z
          · rw [z]
            obtain ⟨y1, y2, y3, _, _⟩ := fresh L (Nat.le_of_lt (older L (.inl rfl)))
            exact ⟨eL, y1, y2, y3, fun v q => by cases q⟩
          · rw [List.append_nil] at z
            obtain ⟨hb, e⟩ := of_pinsAt z
            obtain ⟨y1, y2, y3, _, _⟩ := fresh p.1 (Nat.le_of_lt (older p.1 (.inr hb)))
            obtain ⟨o, e2, nc⟩ := own p.1 hb
            have e3 : p.2 = o := Option.some.inj (e.symm.trans e2)
            exact ⟨e, y1, y2, y3, by rw [e3]; exact nc⟩
    have pinned : ∀ {ip : List (Addr × Obj)} {ys : List V} {t0 s' : Shared} {σ' : L2.St} {H' : Hp}, DI (gcxOf P w K mg base N qual scope f cdv B outer s0 H E [(s1.heap.objs.size, go)]) L Cs ip ys σ' H' t0 s' → s'.heap.IsGen s1.heap.objs.size s1.gens.size := fun {ip ys t0 s' σ' H'} i => by
      obtain ⟨cs, _, _, arr, cc, _, _, J⟩ := i
      exact asGen _ (J.pin (s1.heap.objs.size, go) (List.mem_append_left _ (List.mem_singleton.mpr rfl))).1
    have still : ∀ {ip : List (Addr × Obj)} {ys : List V} {t0 s' : Shared} {σ' : L2.St} {H' : Hp}, DI (gcxOf P w K mg base N qual scope f cdv B outer s0 H E [(s1.heap.objs.size, go)]) L Cs ip ys σ' H' t0 s' → ∀ b, b = L ∨ b ∈ Cs → s'.heap.get? b = t0.heap.get? b := fun {ip ys t0 s' σ' H'} i b hb => by
      obtain ⟨cs, k1, k2, arr, cc, eL, _, J⟩ := i
      rcases hb with rfl | hb
      · exact (J.pin (b, lstObj arr cc) (List.mem_append_right _ List.mem_cons_self)).1.trans eL.symm
      · obtain ⟨o, ho⟩ := k1 b hb
        exact (J.pin (b, o) (List.mem_append_right _ (List.mem_cons_of_mem _ (List.mem_append_left _ ho)))).1.trans (k2 _ ho).2.symm
    refine seg_func ?_
    refine seg_imp (R := DR (gcxOf P w K mg base N qual scope f cdv B outer s0 H E [(s1.heap.objs.size, go)]) L Cs Q fun e s' => CX P w outer H s0 E e s' ∧ s'.heap.IsGen s1.heap.objs.size s1.gens.size)
      (Y := DY (gcxOf P w K mg base N qual scope f cdv B outer s0 H E [(s1.heap.objs.size, go)]) L Cs) (fun n t0 r s3 hR => ?_) (fun n t0 v s3 kap kap' hkk hY => ?_) sizeLine ?_
    · rcases hR with ⟨ys, ip, σ', H', er, hn, i, hQ⟩ | ⟨e, er, q1, q2⟩
      · have nn := fun b hb => i.clear (b := b) hb
        have stl := still i
        obtain ⟨cs, _, _, arr, cc, _, ra, J⟩ := i
        exact .inl ⟨.inl er, H', ys, arr, cc, J.os, J.bare, J.base, J.hok, fun b hb => ⟨(nn b hb).1, stl b hb⟩, (J.pin (L, lstObj arr cc) (List.mem_append_right _ List.mem_cons_self)).1, ra, by omega, hQ⟩
      · exact .inr ⟨e, er, q1, q2⟩
    · obtain ⟨ys, xx, ip, σ', H', rv, hn, i, h3⟩ := hY
      have hg := pinned i
      have stl := still i
      obtain ⟨cs, _, _, arr, cc, _, ra, J⟩ := i
      have hsz : arr.size = ys.length := by
        have e1 := ra.length
        have e2 : arr.toList.length = arr.size := by simp
        omega
      exact ⟨J.os, J.bare, J.nolimit, hg, stl, ⟨arr, cc, (J.pin (L, lstObj arr cc) (List.mem_append_right _ List.mem_cons_self)).1, by rw [hsz]; exact hn⟩, fun s' z => hkk _ _ (h3 s' z)⟩
    · have dc : DC (gcxOf P w K mg base N qual scope f cdv B outer s0 H E [(s1.heap.objs.size, go)]) L Cs [] B (.func body (envOfC qual scope s0.heap.objs.size f cdv)) [] id := by
        refine ⟨fun b hb => ?_⟩
        obtain ⟨_, y2, _, y4, y5⟩ := fresh b (Nat.le_of_lt (older b hb))
        refine ⟨fun p hp => ?_, fun p hp => (by simp at hp), ⟨y4, y2, y5⟩, over_func, rfl, rfl, rfl⟩
        rw [List.mem_singleton.mp hp]
        exact Nat.ne_of_lt (older b hb)
      refine ht.go B L Cs [] _ sizeLine [] s2 _ [] _ _ id id s2 (start N vs) H _ dc (Nat.add_zero _) ⟨fun n ys t0 s' fl hn hs => ?_, fun n t0 e s' hx => ?_⟩ i0 hq
      · cases fl with
        | next =>
          obtain ⟨σ', H', i, hQ⟩ := hs
          exact seg_end (.ok (.ret .none)) (.inl ⟨ys, [], σ', H', rfl, hn, i, hQ⟩)
        | brk => obtain ⟨_, _, _, q⟩ := hs; exact False.elim q
        | cont => obtain ⟨_, _, _, q⟩ := hs; exact False.elim q
        | ret u =>
          obtain ⟨v, σ', H', i, rv, ev, hQ⟩ := hs
          subst ev
          have eu : u = Value.none := rv
          subst eu
          exact seg_end (.ok (.ret .none)) (.inl ⟨ys, [], σ', H', rfl, hn, i, hQ⟩)
      · refine seg_wrap ?_
        rw [over_func]
        refine wpAny_mono (show wpAny (model P w) (B.deeper (envOfC qual scope s0.heap.objs.size f cdv)) (leaving (envOfC qual scope s0.heap.objs.size f cdv) e) (fun _ s'' => CX P w outer H s0 E e s'' ∧ ∀ p ∈ [(s1.heap.objs.size, go)], s''.heap.get? p.1 = some p.2) (fun _ _ => False) s' from hx) (fun _ s'' q => ?_) fun _ s'' q => q.elim
        exact seg_end (.error e) (.inr ⟨e, rfl, q.1, asGen _ (q.2 _ (List.mem_singleton.mpr rfl))⟩)
  exact main _ _ _ _ rfl rfl rfl fun h => Heap.get?_push_size _ rfl
end L2.TW

namespace L2.TW
open PySem PySem.Spec PyProof.Rows GenW
/-- an expression whose value is a generator that has not begun -/
structure PGenW (X : Cx) (k : Nat) (e : Expr) (tg : TGen) (E : XK) : Prop where
  run : ∀ (pins : List (Addr × Obj)) (s : Shared) (σ : L2.St) (H : Hp) (cont : List V → Hp → Prop), Inv X pins σ H s → tg σ H cont → wpAny (model X.prog X.w) X.A (eval e X.env)
    (fun u s' => ∃ H1 sc, Inv X pins σ H1 sc ∧ MadeW X.prog X.w k X.stack H1 sc cont E u s') X.xe s
section
variable {X : Cx} {k : Nat} {f : Addr} {fd : FuncData} {ps ks : List Str} {sp : SpG} {x : Str} {p pos : Pos} {e : Expr} {es : List Expr} {kws : List Keyword} {t tk : TA} {E : XK} {tg : TGen}
theorem PGenW.plain (h : PGenW X k e tg E) : PGen X k e tg E :=
  ⟨fun pins s σ H cont I q => thn (h.run pins s σ H cont I q) fun u s' ⟨H1, sc, I1, m⟩ => ⟨H1, sc, [], I1, .nil, made_of m⟩⟩
/-- f(e, ..) of a generator def -/
theorem pgenW_call (F : GFnW X.prog X.w X.K X.mg X.base k f fd ps sp) (hr : Room k X.A) (hg : Gl X x) (hm : X.mg x = some (.ref f)) (hk : PySem.W.keepIn X.K (.ref f) = true) (hb : Binds X.K fd ps [])
    (ha : PA X (e :: es) t) (hdb : (x == ("__debug__" : Str)) = false := by decide) (he : starEach (e :: es) X.env = (false, eval e X.env) :: starEach es X.env := by rfl) (hpl : (backTo pos (starEach es X.env)).any (·.1) = false := by rfl) :
    PGenW X k (.Call (.Name x p) (e :: es) [] pos) (fun σ H cont => t σ H fun vs H1 => sp vs H1 cont E) E := by
  refine ⟨fun pins s σ H cont I h => ?_⟩
  refine wpAny_Call_Name_kw (ld_glob I hg hm ?_ hdb)
  refine PySem.W.callWith_K (h₀ := X.base) I.ok.mod.kin hk (thn (ha.run pos pins s σ H _ I h) fun us s1 ⟨vs, H1, I1, r, q⟩ => ⟨I1.kIn, ?_⟩) he hpl
  have hl : (us ++ []).length = ps.length := by rw [List.append_nil, ← r.length]; exact F.len _ _ _ _ q
  have hb1 := hb s1 us I1.kIn hl
  rw [List.append_nil] at hb1
  refine wpAny_call (codeAny_mono (F.run X.A X.stack s1 H1 ⟨us, []⟩ us vs cont E hr I1.env0 hb1 r q) fun rr s' hq => ?_)
  cases rr with
  | error er => exact False.elim hq
  | ok fl =>
    cases fl with
    | ret u => exact ⟨H1, s1, I1, hq⟩
    | next => exact False.elim hq
    | brk => exact False.elim hq
    | cont => exact False.elim hq
/-- f(k = e, ..) of a generator def -/
def tKWG (m : Nat) (sp : SpG) (gV : List V → List V) (E : XK) (tk : TA) : TGen := fun σ H cont => tk σ H fun zs H1 => zs.length = m ∧ sp (gV zs) H1 cont E
theorem pgenW_kw {gg : List Value → List Value} {hV : List V → List V} (F : GFnW X.prog X.w X.K X.mg X.base k f fd ps sp) (hr : Room k X.A)
    (hb : ∀ (s : Shared) (ws : List Value), X.K.In s.heap → ws.length = ks.length → BindsTo s fd ⟨[], ks.zip ws⟩ (ps.zip (gg ws))) (hrel : ∀ {zs : List V} {ws : List Value}, zs.length = ks.length → Vals zs ws → Vals (hV zs) (gg ws))
    (hg : Gl X x) (hm : X.mg x = some (.ref f)) (hk : PySem.W.keepIn X.K (.ref f) = true) (hkw : PK X kws tk)
    (hall : (backToKw pos (keywordEach kws X.env)).all (·.1.isSome) = true := by rfl) (hks : (backToKw pos (keywordEach kws X.env)).filterMap (·.1) = ks := by rfl) (hdb : (x == ("__debug__" : Str)) = false := by decide)
    (hpl : ((backTo pos (starEach [] X.env)).any (·.1) || (backToKw pos (keywordEach kws X.env)).any (·.1.isNone)) = false := by rfl) :
    PGenW X k (.Call (.Name x p) [] kws pos) (tKWG ks.length sp hV E tk) E := by
  refine ⟨fun pins s σ H cont I h => ?_⟩
  refine wpAny_Call_Name_kw (ld_glob I hg hm ?_ hdb)
  refine PySem.W.callWith_KW0 (h₀ := X.base) I.ok.mod.kin hk hall ?_ hpl
  refine thn (hkw.run pos pins s σ H _ I h) fun ws s2 ⟨zs, H2, I2, rz, l2, q2⟩ => ⟨I2.kIn, ?_⟩
  rw [hks]
  have lw : ws.length = ks.length := rz.length.symm.trans l2
  refine wpAny_call (codeAny_mono (F.run X.A X.stack s2 H2 ⟨[], ks.zip ws⟩ (gg ws) (hV zs) cont E hr I2.env0 (hb s2 ws I2.kIn lw) (hrel l2 rz) q2) fun rr s' hq => ?_)
  cases rr with
  | error er => exact False.elim hq
  | ok fl =>
    cases fl with
    | ret u => exact ⟨H2, s2, I2, hq⟩
    | next => exact False.elim hq
    | brk => exact False.elim hq
    | cont => exact False.elim hq
/-- [y for y in g] -/
theorem pe_lcG {y : Str} {ep px : Pos} {iter : Expr} {scope : Scope} (h : PGenW X k iter tg E) (hE : ∀ cls d H, ¬ E cls d H) (hc : X.A.handled = none) (hr : Room (k + 2) X.A)
    (hk : scope.kind = .function) (hu : ∀ z ∈ scope.names, scope.names.lookup z.1 = some z.2) (hf : ∀ z ∈ scope.names, z.2 ≠ .free) (hy : scope.names.lookup y = some .local)
    (hd : (y == ("__debug__" : Str)) = false := by decide) (hs : ∀ x, foldedSetIterable iter X.env x = pure x := by intro _; rfl) :
    PE X (.ListComp (.Name y ep) [⟨.Name y px, iter, [], 0⟩] scope pos) (tListG tg) := by
  refine ⟨fun pins s σ H Q I hq => ?_⟩
  rw [eval_ListComp]
  refine wpAny_comprehension_free (use := none) rfl hs (closure_ok fun z hz e => absurd e (hf z hz)) hk (fun z hz e => by rw [hu z hz, e]) (thn (h.run pins s σ H _ I hq) fun u s1 ⟨H1, sc, I1, made⟩ => ?_)
  obtain ⟨a, g, c0, rfl, ha1, ha2, hg, hgs, hos, hb, hl, hkp, wake⟩ := made
  refine wpAny_pyIter_gen hg ?_
  refine wpAny_newObj_type (newEnv_comp ?_) (by show 0 ≤ sizeLine; decide)
  generalize hD : s1.heap.objs.size = D
  generalize hs3 : ({ s1 with heap := s1.heap.push { cls := .type "list", data := .seq ([] : List Value).toArray } } : Shared) = s3
  have h3 : s3.heap = s1.heap.push { cls := .type "list", data := .seq ([] : List Value).toArray } := by rw [← hs3]
  have g3 : s3.gens = s1.gens := by rw [← hs3]
  have o3 : s3.os = s1.os := by rw [← hs3]
  have z3 : s3.heap.objs.size = D + 1 := by rw [h3, Heap.size_push, hD]
  have eD3 : s3.heap.get? D = some (lstObj #[] 0) := by rw [h3, ← hD]; exact Heap.get?_push_size _ rfl
  have k3 : ∀ b o, s1.heap.get? b = some o → s3.heap.get? b = some o := fun b o e => by rw [h3]; exact Heap.get?_push_of_some _ e
  show codeAny _ _ (.compStart (.ListComp (.Name y ep) [⟨.Name y px, iter, [], 0⟩] scope pos) 0 (.ref a) (.ref D) (compEnvC scope (cellsFrom (s3.heap.objs.size + 1) scope.names (cloFrom X.env.cells scope.names [])) s3.heap.objs.size X.env)) (compPost (model X.prog X.w) X.A X.xe none _ (.ref D) s3.heap.objs.size) { s3 with heap := pushCells (s3.heap.push { cls := .type "dict", data := .dict #[] }) scope.names }
  generalize hC : s3.heap.objs.size = C
  generalize hce : compEnvC scope (cellsFrom (C + 1) scope.names (cloFrom X.env.cells scope.names [])) C X.env = ce
  have cL : ce.locals = C := by subst hce; rfl
  have cS : ce.scope = relabel scope X.env := by subst hce; rfl
  have cK : ce.scope.kind = .function := by rw [cS]; exact hk
  have cY : ce.kindOf y = some .local := by subst hce; exact lookup_relabel_local hy
  generalize hs4 : ({ s3 with heap := pushCells (s3.heap.push { cls := .type "dict", data := .dict #[] }) scope.names } : Shared) = s4
  have k4 : ∀ b o, s3.heap.get? b = some o → s4.heap.get? b = some o := fun b o e => by rw [← hs4]; exact pushCells_keeps _ _ _ _ (Heap.get?_push_of_some _ e)
  have n4 : s4.heap.Ns C (fun _ => none) := by
    rw [← hs4, ← hC]
    exact Heap.Ns.keeps (Heap.Ns.new ..) fun b o e => pushCells_keeps _ _ _ _ e
  have g4 : s4.gens = s1.gens := by rw [← hs4]; exact g3
  have o4 : s4.os = s1.os := by rw [← hs4]; exact o3
  have k14 : ∀ b o, s1.heap.get? b = some o → s4.heap.get? b = some o := fun b o e => k4 b o (k3 b o e)
  have cD : D < C := by rw [← hC, z3]; exact Nat.lt_succ_self _
  have toD : ∀ {b : Nat}, b < s1.heap.objs.size → b < D := fun {b} q => by rw [← hD]; exact q
  have DC : D ≠ C := Nat.ne_of_lt cD
  have aD : a ≠ D := Nat.ne_of_lt (toD ha2)
  have aC : a ≠ C := Nat.ne_of_lt (Nat.lt_trans (toD ha2) cD)
  have lts : cStatics < s1.heap.objs.size := let ⟨_, hn, _⟩ := hl; hn.lt
  have sD : cStatics ≠ D := Nat.ne_of_lt (toD lts)
  have sC : cStatics ≠ C := Nat.ne_of_lt (Nat.lt_trans (toD lts) cD)
  have scD : sc.heap.objs.size ≤ D := Nat.le_of_lt (Nat.lt_of_le_of_lt ha1 (toD ha2))
  have scC : sc.heap.objs.size ≤ C := Nat.le_trans scD (Nat.le_of_lt cD)
  have notC : ∀ {hh : Heap} {m : Str → Option Value}, hh.Ns C m → ∃ o, hh.get? C = some o ∧ ∀ u, o.data ≠ .cell u := fun {hh m} hn => by
    obtain ⟨o, es', ep', ho, hdd, _⟩ := hn
    exact ⟨o, ho, fun u z => by rw [hdd] at z; cases z⟩
  have rA : Room k X.A.in1 := ⟨hr.hd, by have := hr.dp; show X.A.depth + 3 * k + 5 < _; omega, by have := hr.un; show X.A.units + 1 + 16 * k + 200 < _; omega⟩
  have loop : codeAny (model X.prog X.w) X.A (.compLoop (.ListComp (.Name y ep) [⟨.Name y px, iter, [], 0⟩] scope pos) 0 (.ref a) (.ref D) ce) (compPost (model X.prog X.w) X.A X.xe none (fun v s' => ∃ x H', Inv X pins σ H' s' ∧ RelV x v ∧ Q x H') (.ref D) C) s4 := by
    refine codeAny_compLoop_list (fun m s' => s'.heap.IsGen a g ∧ s'.heap.NoLimit ∧ (∃ gs, s'.gens[g]? = some gs ∧ gs.Goes (model X.prog X.w) X.A.in1 (WEnd X.prog X.w X.stack H1 sc D [C] a g (fun out H2 => ∀ p, H2 p = none → Q (.ref p) (upd H2 p (.lst out))) E) (WItem sc D [C] a g) m (.send .none) (s'.setGen g .running)) ∧
      (∃ arr c, s'.heap.get? D = some (lstObj arr c) ∧ m + arr.size = sizeLine) ∧ ∃ mm, s'.heap.Ns C mm) ?_ sizeLine ⟨hg.keeps k14, hl.keeps k14, ⟨GenState.fresh c0, by rw [g4]; exact hgs, rfl, ?_⟩, ⟨#[], 0, k4 _ _ eD3, Nat.add_zero _⟩, _, n4⟩
    · rintro m s5 ⟨hg5, hl5, ⟨gs, hgs5, go⟩, ⟨arr, c5, eD, hsz⟩, mm, hns⟩
      have hgl : g < s5.gens.size := (Array.getElem?_eq_some_iff.mp hgs5).1
      refine wpAny_gsz (n := g + 1) hgl (next_genG (A := X.A) hc hl5 (by have := hr.dp; omega) hg5 hgs5 go (fun v s6 gs' hbare hv => ?_) (fun s6 hp h' hk' => ?_) fun e s6 he => ?_)
      · intro hz
        obtain ⟨os6, hb6, hl6, hg6, stl, ⟨arr6, c6, eD6, hsz6⟩, hkap⟩ := hv
        have eD' : s6.heap.get? D = some (lstObj arr c5) := (stl D (.inl rfl)).trans eD
        have ea : lstObj arr6 c6 = lstObj arr c5 := Option.some.inj (eD6.symm.trans eD')
        have ea1 : arr6 = arr := by
          have := congrArg Obj.data ea
          simp only [Data.seq.injEq] at this
          exact this.1
        rw [ea1] at hsz6
        obtain ⟨m, rfl⟩ : ∃ q, m = q + 1 := ⟨m - 1, by omega⟩
        have ns6 : s6.heap.Ns C mm := hns.at fun o e => (stl C (.inr (List.mem_singleton.mpr rfl))).trans e
        rw [← cL] at ns6
        refine wpAny_assign_Name (wpAny_storeName_local (s := s6.setGen g gs') (env := ce) cY ns6 (fun h7 ns7 sb7 => ?_) (by rw [cK]; rfl))
        refine wpAny_Name (wpAny_loadName_local (env := ce) cK cY ns7 (if_pos rfl) ?_) hd
        rw [cL] at ns7 sb7
        have eD7 : h7.get? D = some (lstObj arr c5) := (sb7.2 D DC).trans eD'
        refine append_at (hsz := by omega) eD7 fun h8 sb8 eD8 => ?_
        have rest : ∀ b o, b ≠ D → b ∉ [C] → s6.heap.get? b = some o → h8.get? b = some o := fun b o q1 q2 e => (sb8.2 b q1).trans ((sb7.2 b (fun z => q2 (List.mem_singleton.mpr z))).trans e)
        have ns8 : h8.Ns C _ := ns7.at fun o e => (sb8.2 C (Ne.symm DC)).trans e
        have hsz7 : g < s6.gens.size := by
          have q : (s6.setGen g gs').gens.size = s6.gens.size := setGen_size _ _ _
          have hz' : g + 1 ≤ (s6.setGen g gs').gens.size := hz
          omega
        have wakes : ∀ s8 : Shared, s8.os = s6.os → AllBare s8.gens → s8.heap = h8 → gs'.Goes (model X.prog X.w) X.A.in1 (WEnd X.prog X.w X.stack H1 sc D [C] a g (fun out H2 => ∀ p, H2 p = none → Q (.ref p) (upd H2 p (.lst out))) E) (WItem sc D [C] a g) m (.send .none) s8 := fun s8 e1 e2 e3 => by
          refine hkap s8 ⟨e1, e2, by rw [e3]; exact rest, fun ar c e => ?_, fun b hb => ?_⟩
          · have e4 : lstObj ar c = lstObj arr c5 := Option.some.inj (e.symm.trans eD')
            have e5 : ar = arr := by
              have := congrArg Obj.data e4
              simp only [Data.seq.injEq] at this
              exact this.1
            rw [e3, e5]
            exact ⟨c5 + 1, eD8⟩
          · rw [List.mem_singleton.mp hb, e3]
            exact notC ns8
        refine ⟨m, Nat.lt_succ_self _, ?_, ?_, ⟨gs', setGen_at hsz7, wakes _ rfl (allBare_setGen (s := { s6.setGen g gs' with heap := h8 }) (allBare_setGen hb6 hbare) rfl) rfl⟩, ⟨arr.push v, c5 + 1, eD8, by rw [Array.size_push]; omega⟩, _, ns8⟩
        · obtain ⟨o, nm, qn, ho, rr⟩ := hg6
          exact ⟨o, nm, qn, rest a o aD (fun z => aC (List.mem_singleton.mp z)) ho, rr⟩
        · obtain ⟨mc, hn6, hnn⟩ := hl6
          exact ⟨mc, hn6.at' fun o e => rest _ o sD (fun z => sC (List.mem_singleton.mp z)) e, hnn⟩
      · intro _
        obtain ⟨H', ys, arr6, c6, os6, hb6, un6, hok6, own6, eD6, ra, hle, hQ⟩ := hp
        have ns6 : s6.heap.Ns C mm := hns.at fun o e => ((own6 C (.inr (List.mem_singleton.mpr rfl))).2).trans e
        refine ⟨mm, ns6.keeps hk', fun h'' sb => ?_⟩
        have I9 : Inv X pins σ (upd H' D (.lst ys)) { s6.setGen g .finished with heap := h' } := I1.drained scD hle (hk' _ _ eD6) ra .nil os6 (allBare_setGen hb6 rfl) (un6.trans (Un.kept hk')) (hok6.kept hk') (own6 D (.inl rfl)).1
        have fC := I1.fpOk scC (H' := upd H' D (.lst ys)) (by rw [upd_ne (Ne.symm DC)]; exact (own6 C (.inr (List.mem_singleton.mpr rfl))).1)
        obtain ⟨f0, f1, f2, f3, f4, f5⟩ := fC
        exact ⟨.ref D, _, I9.turned (t' := (s6.setGen g .finished).toks) (fun b o hb e => (sb.2 b hb).trans e) f0 f1 f3 f4 f5, rfl, hQ D (own6 D (.inl rfl)).1⟩
      · obtain ⟨⟨_, _, _, _, _, _, _, _, _, _, _, _, hW⟩, _⟩ := he
        exact absurd hW (hE _ _ _)
    · refine wake X.A.in1 D [C] (s4.setGen g .running) rA I1.ok.frames (fun z => DC (List.mem_singleton.mp z)) (fun b hb => ?_) (fun b hb => ?_) k14 ⟨0, k4 _ _ eD3⟩ (o4.trans hos) (allBare_setGen (by rw [g4]; exact hb) rfl)
      · rcases hb with rfl | hb
        · exact Nat.le_of_eq hD
        · rw [List.mem_singleton.mp hb]
          exact Nat.le_trans (Nat.le_of_eq hD) (Nat.le_of_lt cD)
      · rw [List.mem_singleton.mp hb]
        exact notC n4
  exact codeAny_compStart_list loop (wpAny_pyIter_gen (hg.keeps k14) loop)
end
end L2.TW

namespace L2.TW
open PySem PySem.Spec PyProof.Rows GenW L2.TT
theorem gfor_range {lo : Int} {n : Nat} {g : TG} {tb : TGn} {D : GEnds} {ys : List V} {σ : St} {H : Hp} (Pv : Nat → List V → St → Hp → Prop) (h0 : Pv 0 ys σ H)
    (hs : ∀ i zs σ H, i < n → Pv i zs σ H → g (.int (lo + i)) σ H fun σ2 H2 => tb { D with nx := Pv (i + 1), ct := Pv (i + 1), bk := D.nx } zs σ2 H2) (hd : ∀ zs σ H, Pv n zs σ H → D.nx zs σ H) :
    ∃ W : Nat → Nat → List V → St → Hp → Prop, (∃ m, W 0 m ys σ H) ∧ ∀ i m zs σ H, W i m zs σ H →
      ((Itr lo n).stop i H ∧ D.nx zs σ H) ∨ ((Itr lo n).go i H ∧ ∃ N : List V → St → Hp → Prop, (∀ zs' σ' H', N zs' σ' H' → ∃ m', m' < m ∧ W (i + 1) m' zs' σ' H') ∧
        ∀ x H', (Itr lo n).yld i H x H' → g x σ H' fun σ2 H2 => tb { D with nx := N, ct := N, bk := D.nx } zs σ2 H2) := by
  refine ⟨fun i m zs σ H => m = n - i ∧ i ≤ n ∧ Pv i zs σ H, ⟨n, by simp, Nat.zero_le _, h0⟩, ?_⟩
  rintro i m zs σ H ⟨rfl, hi, p⟩
  by_cases lt : i < n
  · refine .inr ⟨lt, Pv (i + 1), fun zs' σ' H' p' => ⟨n - (i + 1), by omega, rfl, lt, p'⟩, fun x H' y => ?_⟩
    obtain ⟨rfl, rfl⟩ := y
    exact hs i zs σ _ lt p
  · have e : i = n := by omega
    subst e
    exact .inl ⟨Nat.le_refl _, hd zs σ H p⟩
theorem gfor_list {K : PySem.W.Frag} {a : Addr} {xs : List V} {g : TG} {tb : TGn} {D : GEnds} {ys : List V} {σ : St} {H : Hp} (Pv : Nat → List V → St → Hp → Prop) (h0 : Pv 0 ys σ H) (hl : ∀ i zs σ H, i ≤ xs.length → Pv i zs σ H → SqL K H a xs)
    (hs : ∀ i x zs σ H, xs[i]? = some x → Pv i zs σ H → g x σ H fun σ2 H2 => tb { D with nx := Pv (i + 1), ct := Pv (i + 1), bk := D.nx } zs σ2 H2) (hd : ∀ zs σ H, Pv xs.length zs σ H → D.nx zs σ H) :
    ∃ W : Nat → Nat → List V → St → Hp → Prop, (∃ m, W 0 m ys σ H) ∧ ∀ i m zs σ H, W i m zs σ H →
      ((Itl K a).stop i H ∧ D.nx zs σ H) ∨ ((Itl K a).go i H ∧ ∃ N : List V → St → Hp → Prop, (∀ zs' σ' H', N zs' σ' H' → ∃ m', m' < m ∧ W (i + 1) m' zs' σ' H') ∧
        ∀ x H', (Itl K a).yld i H x H' → g x σ H' fun σ2 H2 => tb { D with nx := N, ct := N, bk := D.nx } zs σ2 H2) := by
  refine ⟨fun i m zs σ H => m = xs.length - i ∧ i ≤ xs.length ∧ Pv i zs σ H, ⟨xs.length, by simp, Nat.zero_le _, h0⟩, ?_⟩
  rintro i m zs σ H ⟨rfl, hi, p⟩
  have q := hl i zs σ H hi p
  by_cases lt : i < xs.length
  · refine .inr ⟨⟨xs, xs[i], q, by simp [lt]⟩, Pv (i + 1), fun zs' σ' H' p' => ⟨xs.length - (i + 1), by omega, rfl, lt, p'⟩, fun x H' y => ?_⟩
    obtain ⟨rfl, y⟩ := y
    exact hs i x zs σ _ (y xs q) p
  · have e : i = xs.length := by omega
    subst e
    exact .inl ⟨⟨xs, q, Nat.le_refl _⟩, hd zs σ H p⟩
theorem _root_.L2.Fun.okW {P : Program} {w : World} {K : PySem.W.Frag} {mg : Str → Option Value} {base : Heap} {k : Nat} {x qual : Str} {st : Stmt} {f : Addr} {fd : FuncData} {N ps : List Str} {sp : SpG} (F : Fun K x qual st f fd) (S : GScope N ps (defScope st)) (len : ∀ vs H Q E, sp vs H Q E → vs.length = ps.length)
    (hbody : ∀ (cdv : Value) (A : Around) (outer : List Env) (s : Shared) (H : Hp) (vs : List V) (Q : List V → Hp → Prop) (E : XK) (pn : List (Addr × Obj)), Room k (A.deeper (envOfC qual (defScope st) s.heap.objs.size f cdv)) → sp vs H Q E →
      ∃ t, DSs (gcxOf P w K mg base N qual (defScope st) f cdv A outer s H E pn) (defBody st) t ∧ t { nx := fun ys _ H' => Q ys H', rt := fun ys v H' => v = .non ∧ Q ys H' } [] (start N vs) H) :
    GFnW P w K mg base (k + 1) f fd ps sp := by
  obtain ⟨oc, od, kV, doc, pm, an, cdv, ct, osl, rfl, lk, hcd⟩ := F.ex
  exact gfnW_of lk hcd S len fun A outer s H vs Q E pn hr h => hbody cdv A outer s H vs Q E pn hr h
end L2.TW

namespace TR
open PySem PySem.Spec PyProof.Rows L2 L2.TT L2.TW StX ClX GenW
def spPoss (C : Addr) : SpG := fun vs H Q _ => ∃ (r q : Addr) (tr : List E2) (l : List Nat), vs = [.ref r, .ref q] ∧ RailAt C H r tr ∧ H q = some (.tup [iv (hd0 l), iv (lt0 l)]) ∧ Bd tr l ∧ ∀ ps H', Same H H' → Lay MvR H' ps (poss tr l) → Q (ps.map V.ref) H'
theorem poss_len {tr : List E2} (T : TreeL tr) (l : List Nat) : (poss tr l).length ≤ 2 * (tr.length + 1) := by
  unfold poss fre
  rw [List.length_append, List.length_map, List.length_map]
  have q1 := List.length_filter_le (fun w => decide (w ∉ l)) (nb tr (endM l true))
  have q2 := List.length_filter_le (fun w => decide (w ∉ l)) (nb tr (endM l false))
  have := nb_len2 T (endM l true)
  have := nb_len2 T (endM l false)
  omega
section
variable {P : Program} {w : World} {K : PySem.W.Frag} {mg : Str → Option Value} {base : Heap}
abbrev N_sc_poss : List Str := ["railway", "standing", "move", "_"]
theorem sc_poss : GScope N_sc_poss ["railway", "standing"] (defScope s_possible_moves) := ⟨rfl, rfl, rfl, by decide +kernel, rfl, by decide +kernel, by decide +kernel⟩
theorem ok_poss {f fS fB C : Addr} {fd fdS fdB : FuncData} (F : Fun K "possible_moves" "possible_moves" s_possible_moves f fd) (US : Use P w K mg base CX0 6 "steps_from" fS fdS ["railway", "body"] (spStp C)) (UB : Use P w K mg base CX0 6 "body_of" fB fdB ["railway", "standing"] (spBody C)) :
    GFnW P w K mg base 7 f fd ["railway", "standing"] (spPoss C) := by
  refine F.okW sc_poss (fun vs H Q E h => ?_) (fun cdv A outer s H vs Q E pn hr h => ?_)
  · obtain ⟨r, q, tr, l, rfl, _⟩ := h
    rfl
  · obtain ⟨r, q, tr, l, rfl, R, hq, b, k⟩ := h
    refine ⟨_, dss_one (ds_for owns_gcx rfl (pi_list (pe_use US hr (by rfl) (pa_cons (pv 0) (pa_cons (pe_use UB hr (by rfl) (pa_cons (pv 0) (pa_cons (pv 1) pa_nil))) pa_nil)))) (pg_tup rfl (pgs_cons (pg_name (i := 2) sc_poss.nd rfl (.inl rfl)) (pgs_cons (pg_name (i := 3) sc_poss.nd rfl (.inl rfl)) pgs_nil)))
      (dss_one (ds_yield (pv 2)))), ?_⟩
    have T := R.T
    have few := R.few
    refine ⟨_, rfl, _, rfl, _, rfl, r, q, tr, hd0 l, lt0 l, rfl, R, hq, b.hle, b.lle, b.ne, fun l' p H1 sw s1 np hp => ?_⟩
    cases SW.uniq T sw b.sw
    refine ⟨r, p, tr, l, rfl, R.same s1, hp, b, fun u ps H2 s2 hu LS => ?_⟩
    have s12 := s1.trans s2
    refine ⟨u, rfl, ⟨_, SqL.of hu⟩, ?_⟩
    refine gfor_list (K := K) (a := u) (xs := ps.map V.ref) (fun i zs σ H' => ∃ (qs : List Addr) (x2 x3 : Option V), σ = [some (.ref r), some (.ref q), x2, x3] ∧ zs = qs.map V.ref ∧ Same H2 H' ∧ Lay MvR H' qs ((poss tr l).take i)) ⟨[], none, none, rfl, rfl, Same.refl _, .nil⟩ (fun i zs σ H' _ ⟨_, _, _, _, _, s3, _⟩ => SqL.of (s3 _ _ hu)) ?_ ?_
    · rintro i x zs σ H3 hx ⟨qs, x2, x3, rfl, rfl, s3, LQ⟩
      obtain ⟨pp, z, rfl, hpp, hz, a, b', h1, h2, h3⟩ := LS.get hx
      unfold stpL at hz
      rw [List.getElem?_map] at hz
      obtain ⟨m, hm, rfl⟩ := Option.map_eq_some_iff.mp hz
      have lq := LQ.len
      rw [List.length_take] at lq
      have := poss_len T l
      refine ⟨pp, _, rfl, SqT.of (s3 _ _ h1), rfl, _, _, rfl, _, _, rfl, rfl, ?_⟩
      refine ⟨by rw [List.length_map, sizeLine_eq]; omega, _, rfl, ?_⟩
      refine ⟨qs ++ [a], _, _, rfl, by rw [List.map_append]; rfl, s3, ?_⟩
      rw [take_snoc hm]
      exact LQ.snoc (firmM _ _ _ _ s3 h2)
    · rintro zs σ H3 ⟨qs, x2, x3, rfl, rfl, s3, LQ⟩
      rw [List.length_map, LS.len, show (stpL tr l).length = (poss tr l).length from List.length_map _, List.take_length] at LQ
      exact k qs H3 (s12.trans s3) LQ
end
end TR


namespace TR
open PySem PySem.Spec PyProof.Rows L2 L2.TT StX ClX
def bv : Option Nat → V
  | none => .non
  | some n => iv n
/-- all but one object stand as before -/
def FrB (a : Addr) (H H' : Hp) : Prop := ∀ b o, H b = some o → b ≠ a → H' b = some o
/-- a layer in the heap: a list of pairs -/
structure LY (H : Hp) (a : Addr) (es : List Addr) (xs : List (Nat × Option Nat)) : Prop where
  hl : H a = some (.lst (es.map V.ref))
  len : es.length = xs.length
  at_ : ∀ (i : Nat) (p : Addr) (x : Nat × Option Nat), es[i]? = some p → xs[i]? = some x → H p = some (.tup [iv x.1, bv x.2])
theorem LY.same {H H' : Hp} {a : Addr} {es : List Addr} {xs : List (Nat × Option Nat)} (l : LY H a es xs) (s : Same H H') : LY H' a es xs := ⟨s _ _ l.hl, l.len, fun i p x h1 h2 => s _ _ (l.at_ i p x h1 h2)⟩
theorem LY.grow {H : Hp} {a : Addr} {es : List Addr} {xs : List (Nat × Option Nat)} (l : LY H a es xs) {p : Addr} (np : H p = none) {x : Nat × Option Nat} :
    LY (upd (upd H p (.tup [iv x.1, bv x.2])) a (.lst (es.map V.ref ++ [.ref p]))) a (es ++ [p]) (xs ++ [x]) := by
  have pa : p ≠ a := fun z => by rw [z, l.hl] at np; cases np
  refine ⟨by rw [upd_same, List.map_append]; rfl, by rw [List.length_append, List.length_append, l.len]; rfl, fun i q y h1 h2 => ?_⟩
  rcases get_snoc h1 with h1 | ⟨e1, rfl⟩
  · rcases get_snoc h2 with h2 | ⟨e3, e4⟩
    · have h := l.at_ i q y h1 h2
      have q1 : q ≠ a := ne_of h l.hl (by intro z; cases z)
      rw [upd_ne q1, upd_ne (ne_of_none h np)]
      exact h
    · exfalso
      have := (List.getElem?_eq_some_iff.mp h1).1
      have := l.len
      omega
  · rcases get_snoc h2 with h2 | ⟨e3, rfl⟩
    · exfalso
      have := (List.getElem?_eq_some_iff.mp h2).1
      have := l.len
      omega
    · rw [upd_ne pa, upd_same]
def spLayers (C : Addr) : Sp := fun vs H Q _ => ∃ (r : Addr) (tr : List E2) (s : Nat) (b : Option Nat), vs = [.ref r, iv s, bv b] ∧ RailAt C H r tr ∧ s ≤ tr.length ∧
  ∀ (fl : Addr) (fs : List Addr) (H' : Hp), Same H H' → H' fl = some (.lst (fs.map V.ref)) → (∀ (k : Nat) (f : Addr), fs[k]? = some f → H' f = some (.lst (((lyr tr s b k).map Prod.fst).map iv))) → (∀ k, k < fs.length → lyr tr s b k ≠ []) → lyr tr s b fs.length = [] → Q (.ref fl) H'
section
variable {P : Program} {w : World} {K : PySem.W.Frag} {mg : Str → Option Value} {base : Heap}
abbrev NLy : List Str := ["railway", "station", "barred", "found", "layer", "place", "_", "entered", "near"]
theorem sc_ly : FnScope NLy ["railway", "station", "barred"] (defScope s_layers) := ⟨rfl, rfl, rfl, by decide +kernel, rfl, by decide +kernel, by decide +kernel⟩
theorem ok_layers {f fn C : Addr} {fd fdn : FuncData} (F : Fun K "layers" "layers" s_layers f fd) (X : TxtR K mg C) (m : Meth K C "neighbours" fn) (G : FnOk P w K mg base CX0 5 fn fdn ["self", "station"] (spNbr C)) (bn : Binds K fdn ["self", "station"] []) : FnOk P w K mg base CX0 6 f fd ["railway", "station", "barred"] (spLayers C) := by
  refine F.ok sc_ly (fun vs H Q E h => ?_) (fun cdv A outer s H vs Q E hr h => ?_)
  · obtain ⟨r, tr, s, b, rfl, _⟩ := h
    rfl
  · obtain ⟨r, tr, sn, b, rfl, R, hs, k⟩ := h
    refine ⟨_, pss_cons (ps_set (i := 3) sc_ly.nd rfl (.inl rfl) (pe_lst pa_nil))
      (pss_cons (ps_set (i := 4) sc_ly.nd rfl (.inl rfl) (pe_lst (pa_cons (pe_tup (pa_cons (pv 1) (pa_cons (pv 2) pa_nil))) pa_nil)))
      (pss_cons (ps_while PassesOwn.never (pt_truth (pv 4) (by intro _; rfl))
        (pss_cons (ps_expr (pe_bm PySem.F.plainAttrs_list PySem.F.slot_list_append PySem.F.type_list_append mt_append (pv 3) (pa_cons
          (pe_lc (own := [("place", 5), ("_", 6)]) (g := gTup K 2 (gCons (gName 5) (gCons (gName 6) gNil))) (tt := tYes) rfl sc_ly.nd (pi_list (pv 4)) (blkOk_by (N := NLy) (sc := defScope s_layers) (by decide +kernel))
            (fun _ _ _ _ _ => pg_tupK (K := K) (n := 2) (t := gCons (gName 5) (gCons (gName 6) gNil)) rfl rfl (pgs_cons (pg_name (i := 5) sc_ly.nd rfl (Or.inl rfl)) (pgs_cons (pg_name (i := 6) sc_ly.nd rfl (Or.inl rfl)) pgs_nil)) rfl) (fun _ _ _ _ _ => pts_nil) (fun _ _ _ _ _ => pv 5)) pa_nil)))
        (pss_one (ps_setLc2 (i := 4) (own := [("place", 5), ("entered", 7), ("near", 8)]) (vs1 := [8]) (g := gTup K 2 (gCons (gName 5) (gCons (gName 7) gNil))) (g1 := gName 8) (tt := tYes) (by rfl) sc_ly.nd rfl rfl (sw_true rfl rfl rfl (by decide +kernel)) (pi_list (pv 4)) (blkOk_by (N := NLy) (sc := defScope s_layers) (by decide +kernel)) (by decide)
            (fun _ _ _ _ _ => pg_tupK (K := K) (n := 2) (t := gCons (gName 5) (gCons (gName 7) gNil)) rfl rfl (pgs_cons (pg_name (i := 5) sc_ly.nd rfl (Or.inl rfl)) (pgs_cons (pg_name (i := 7) sc_ly.nd rfl (Or.inl rfl)) pgs_nil)) rfl) (fun _ _ _ _ _ => pts_nil)
            (fun _ _ _ _ _ => pi_tupK (K := K) rfl (pe_meth (pv 0) X.cl m G hr bn .nil pass0 (pa_cons (pv 5) pa_nil))) (fun _ _ _ _ _ => pg_name (i := 8) sc_ly.nd rfl (Or.inl rfl)) (fun _ _ _ _ _ => pts_one (pt_cmpR op_ne (pv 8) (pv 7) (nomark _)))
            (fun _ _ _ _ _ => pe_tup (pa_cons (pv 8) (pa_cons (pv 5) pa_nil)))))))
      (pss_one (ps_ret (pv 3))))), ?_⟩
    obtain ⟨T, few, dx, tt, na, Aa, L, ps, ts, h1, h2⟩ := id R
    have two : (2 : Nat) ≤ sizeLine := by rw [sizeLine_eq]; decide
    refine ⟨by show 0 ≤ sizeLine; exact Nat.zero_le _, fun fl nfl => ?_⟩
    have s0 := same_upd nfl (.lst [])
    have hf0 := upd_same (H := H) (a := fl) (o := .lst [])
    generalize upd H fl (.lst []) = H0 at s0 hf0
    refine ⟨_, rfl, _, rfl, two, fun t0 nt0 => ?_⟩
    have s1 := s0.trans (same_upd nt0 (.tup [iv sn, bv b]))
    have hf1 := same_upd nt0 (.tup [iv sn, bv b]) _ _ hf0
    have ht1 := upd_same (H := H0) (a := t0) (o := .tup [iv sn, bv b])
    generalize upd H0 t0 (.tup [iv sn, bv b]) = H1 at s1 hf1 ht1
    refine ⟨by show 1 ≤ sizeLine; rw [sizeLine_eq]; decide, fun l0 nl0 => ?_⟩
    have sl := same_upd nl0 (.lst [V.ref t0])
    have s2 := s1.trans sl
    have hf2 := sl _ _ hf1
    have lf : l0 ≠ fl := fun z => by rw [z, hf1] at nl0; cases nl0
    have LY0 : LY (upd H1 l0 (.lst [V.ref t0])) l0 [t0] (lyr tr sn b 0) := by
      refine ⟨upd_same, rfl, fun i p x hp hx => ?_⟩
      cases i with
      | zero =>
        have e1 : t0 = p := Option.some.inj hp
        have e2 : (sn, b) = x := Option.some.inj hx
        subst e1 e2
        exact sl _ _ ht1
      | succ i => cases hp
    generalize upd H1 l0 (.lst [V.ref t0]) = H2 at s2 hf2 LY0
    refine ⟨fun m σ H' => ∃ (kk : Nat) (ly : Addr) (es fs : List Addr) (x5 x6 x7 x8 : Option V), m = 2 * tr.length + 3 - kk ∧ σ = [some (.ref r), some (iv sn), some (bv b), some (.ref fl), some (.ref ly), x5, x6, x7, x8] ∧ Same H H' ∧ ly ≠ fl ∧ H' fl = some (.lst (fs.map V.ref)) ∧ fs.length = kk ∧
        (∀ (j : Nat) (f : Addr), fs[j]? = some f → f ≠ fl ∧ H' f = some (.lst (((lyr tr sn b j).map Prod.fst).map iv))) ∧ (∀ j, j < kk → lyr tr sn b j ≠ []) ∧ LY H' ly es (lyr tr sn b kk),
      ⟨_, 0, l0, [t0], [], _, _, _, _, rfl, rfl, s2, lf, hf2, rfl, fun _ _ h => (nomatch h), fun j hj => absurd hj (Nat.not_lt_zero j), LY0⟩, ?_⟩
    clear s0 hf0 s1 hf1 ht1 sl s2 hf2 lf LY0 nt0 nl0 H0 H1 H2 t0 l0
    rintro m σ H1 ⟨kk, ly, es, fs, x5, x6, x7, x8, rfl, rfl, s1, lf, hf1, hk, hfs, hne, Ly⟩
    refine ⟨_, rfl, _, .inl ⟨_, SqL.of Ly.hl, rfl⟩, ?_⟩
    refine ite2 (fun hc => ?_) (fun hc => ?_)
    · have hk0 : lyr tr sn b kk ≠ [] := fun z => by
        have := Ly.len
        rw [z] at this
        have : es = [] := List.length_eq_zero_iff.mp this
        rw [this] at hc
        cases hc
      have hkk := lyr_le T hs hk0
      refine ⟨fun σ' H' => ∃ (ly : Addr) (es fs : List Addr) (x5 x6 x7 x8 : Option V), σ' = [some (.ref r), some (iv sn), some (bv b), some (.ref fl), some (.ref ly), x5, x6, x7, x8] ∧ Same H H' ∧ ly ≠ fl ∧ H' fl = some (.lst (fs.map V.ref)) ∧ fs.length = kk + 1 ∧
          (∀ (j : Nat) (f : Addr), fs[j]? = some f → f ≠ fl ∧ H' f = some (.lst (((lyr tr sn b j).map Prod.fst).map iv))) ∧ (∀ j, j < kk + 1 → lyr tr sn b j ≠ []) ∧ LY H' ly es (lyr tr sn b (kk + 1)),
        fun σ' H' ⟨ly, es, fs, x5, x6, x7, x8, e⟩ => ⟨2 * tr.length + 3 - (kk + 1), by omega, kk + 1, ly, es, fs, x5, x6, x7, x8, rfl, e⟩, ?_⟩
      have llen := lyr_len T (b := b) hs kk
      refine ⟨_, rfl, .inl ⟨rfl, _, SqL.of hf1⟩, _, rfl, ly, rfl, ⟨_, SqL.of Ly.hl⟩, fun D nD => ?_⟩
      have Df : D ≠ fl := fun z => by rw [z, hf1] at nD; cases nD
      refine lc_list (K := K) (a := ly) (xs := es.map V.ref) (fun i H' => H' = upd H1 D (.lst ((((lyr tr sn b kk).take i).map Prod.fst).map iv))) rfl (fun i H' _ e => by rw [e]; exact SqL.of (same_upd nD _ _ _ Ly.hl)) ?_ ?_
      · rintro i v H' hv rfl
        obtain ⟨p, hp, rfl⟩ := map_got hv
        have hil := (List.getElem?_eq_some_iff.mp hp).1
        rw [Ly.len] at hil
        have hx := List.getElem?_eq_getElem hil
        have ha := same_upd nD (.lst ((((lyr tr sn b kk).take i).map Prod.fst).map iv)) _ _ (Ly.at_ i p _ hp hx)
        refine ⟨p, _, rfl, SqT.of ha, rfl, _, _, rfl, _, _, rfl, rfl, rfl, _, rfl, _, upd_same, by rw [List.length_map, List.length_map, List.length_take, sizeLine_eq]; omega, ?_⟩
        rw [upd_upd, take_snoc hx, List.map_append, List.map_append]
        rfl
      · rintro H' rfl
        have e1 : (lyr tr sn b kk).take (es.map V.ref).length = lyr tr sn b kk := List.take_of_length_le (by rw [List.length_map, Ly.len]; exact Nat.le_refl _)
        rw [e1]
        have sD := same_upd nD (.lst (((lyr tr sn b kk).map Prod.fst).map iv))
        have hD2 := upd_same (H := H1) (a := D) (o := .lst (((lyr tr sn b kk).map Prod.fst).map iv))
        generalize upd H1 D (.lst (((lyr tr sn b kk).map Prod.fst).map iv)) = H2 at sD hD2
        refine ⟨fl, _, _, rfl, rfl, sD _ _ hf1, by rw [List.length_map, hk, sizeLine_eq]; omega, ?_⟩
        have s3 := same_old (s1.trans sD) nfl (.lst (fs.map V.ref ++ [V.ref D]))
        have hf3 : upd H2 fl (.lst (fs.map V.ref ++ [V.ref D])) fl = some (.lst ((fs ++ [D]).map V.ref)) := by rw [upd_same, List.map_append]; rfl
        have hfs3 : ∀ (j : Nat) (f : Addr), (fs ++ [D])[j]? = some f → f ≠ fl ∧ upd H2 fl (.lst (fs.map V.ref ++ [V.ref D])) f = some (.lst (((lyr tr sn b j).map Prod.fst).map iv)) := fun j f h => by
          rcases get_snoc h with h | ⟨e1, rfl⟩
          · obtain ⟨g1, g2⟩ := hfs j f h
            exact ⟨g1, by rw [upd_ne g1]; exact sD _ _ g2⟩
          · exact ⟨Df, by rw [upd_ne Df, e1, hk]; exact hD2⟩
        have Ly3 : LY (upd H2 fl (.lst (fs.map V.ref ++ [V.ref D]))) ly es (lyr tr sn b kk) := by
          have l2 := Ly.same sD
          exact ⟨by rw [upd_ne lf]; exact l2.hl, l2.len, fun i p x a1 a2 => by rw [upd_ne (ne_of (l2.at_ i p x a1 a2) (sD _ _ hf1) (by intro z; cases z))]; exact l2.at_ i p x a1 a2⟩
        generalize upd H2 fl (.lst (fs.map V.ref ++ [V.ref D])) = H3 at s3 hf3 hfs3 Ly3
        clear sD hD2 Ly hfs hf1 s1 nD H2
        -- the next layer
        refine ⟨_, rfl, ly, rfl, ⟨_, SqL.of Ly3.hl⟩, fun E' nE => ?_⟩
        have Ef : E' ≠ fl := fun z => by rw [z, hf3] at nE; cases nE
        have sE := same_upd nE (.lst [])
        have nlen := lyr_len T (b := b) hs (kk + 1)
        refine ⟨fun i m H' => m = (es.map V.ref).length - i ∧ i ≤ (es.map V.ref).length ∧ ∃ es2, Same H3 H' ∧ LY H' E' es2 (((lyr tr sn b kk).take i).flatMap (nxt tr)), ⟨_, rfl, Nat.zero_le _, [], sE, ⟨upd_same, rfl, fun _ _ _ h => (nomatch h)⟩⟩, ?_⟩
        rintro i m H4 ⟨rfl, hi, es2, s4, Ly4⟩
        have q4 : SqL K H4 ly (es.map V.ref) := SqL.of (s4 _ _ Ly3.hl)
        by_cases hlt : i < (es.map V.ref).length
        · refine .inr ⟨⟨_, _, q4, List.getElem?_eq_getElem hlt⟩, fun H' => ∃ es2, Same H3 H' ∧ LY H' E' es2 (((lyr tr sn b kk).take (i + 1)).flatMap (nxt tr)), fun H' p' => ⟨(es.map V.ref).length - (i + 1), by omega, rfl, hlt, p'⟩, fun x G4 y => ?_⟩
          obtain ⟨e, y⟩ := y
          subst e
          obtain ⟨p, hp, rfl⟩ := map_got (y _ q4)
          have hil := (List.getElem?_eq_some_iff.mp hp).1
          rw [Ly3.len] at hil
          have hx := List.getElem?_eq_getElem hil
          have ha := s4 _ _ (Ly3.at_ i p _ hp hx)
          have hxle := (lyr_ms T hs kk _ (List.mem_of_getElem? hx)).2
          have pre : (((lyr tr sn b kk).take (i + 1)).flatMap (nxt tr)).length ≤ (lyr tr sn b (kk + 1)).length := by
            show _ ≤ ((lyr tr sn b kk).flatMap (nxt tr)).length
            rw [show (lyr tr sn b kk).flatMap (nxt tr) = ((lyr tr sn b kk).take (i + 1)).flatMap (nxt tr) ++ ((lyr tr sn b kk).drop (i + 1)).flatMap (nxt tr) by rw [← List.flatMap_append, List.take_append_drop], List.length_append]
            omega
          have enx : ((lyr tr sn b kk).take (i + 1)).flatMap (nxt tr) = ((lyr tr sn b kk).take i).flatMap (nxt tr) ++ nxt tr ((lyr tr sn b kk)[i]) := by
            rw [take_snoc hx, List.flatMap_append]
            simp
          generalize (lyr tr sn b kk)[i] = x at hx ha hxle enx
          obtain ⟨v, e⟩ := x
          have R4 := R.same (s3.trans s4)
          have h14 := (s3.trans s4) _ _ h1
          refine ⟨p, _, rfl, SqT.of ha, rfl, _, _, rfl, _, _, rfl, rfl, rfl, _, rfl, r, dx, _, rfl, h14, flR_no (by decide +kernel) (by decide +kernel) (by decide +kernel) (by decide +kernel), _, rfl, r, tr, v, rfl, R4, hxle, fun t ht => ?_⟩
          refine ⟨t, rfl, ⟨_, SqT.of ht⟩, ?_⟩
          have tE : t ≠ E' := ne_of ht Ly4.hl (by intro z; cases z)
          have toS : ∀ {H5 : Hp}, FrB E' G4 H5 → Same H3 H5 := fun {H5} F c o ec => F _ _ (s4 _ _ ec) (ne_of_none ec nE)
          have blen : (((lyr tr sn b kk).take i).flatMap (nxt tr)).length + (nb tr v).length ≤ 5000 := by
            have h9 : (((lyr tr sn b kk).take i).flatMap (nxt tr)).length ≤ (lyr tr sn b (kk + 1)).length := by
              have := congrArg List.length enx
              rw [List.length_append] at this
              omega
            have := nb_len tr v
            omega
          refine ⟨fun j m H' => m = ((nb tr v).map iv).length - j ∧ j ≤ ((nb tr v).map iv).length ∧ ∃ es2, FrB E' G4 H' ∧ LY H' E' es2 (((lyr tr sn b kk).take i).flatMap (nxt tr) ++ (((nb tr v).take j).filter fun w => decide (some w ≠ e)).map fun w => (w, some v)), ⟨_, rfl, Nat.zero_le _, es2, (fun _ _ z _ => z), by simpa using Ly4⟩, ?_⟩
          rintro j m H5 ⟨rfl, hj, es3, F5, Ly5⟩
          have q5 : SqT K H5 t ((nb tr v).map iv) := SqT.of (F5 _ _ ht tE)
          by_cases hlj : j < ((nb tr v).map iv).length
          · refine .inr ⟨⟨_, _, q5, List.getElem?_eq_getElem hlj⟩, fun H' => ∃ es2, FrB E' G4 H' ∧ LY H' E' es2 (((lyr tr sn b kk).take i).flatMap (nxt tr) ++ (((nb tr v).take (j + 1)).filter fun w => decide (some w ≠ e)).map fun w => (w, some v)), fun H' p' => ⟨((nb tr v).map iv).length - (j + 1), by omega, rfl, hlj, p'⟩, fun x H' y => ?_⟩
            obtain ⟨e1, y⟩ := y
            subst e1
            obtain ⟨nw, hw, rfl⟩ := map_got (y _ q5)
            have esp : (((nb tr v).take (j + 1)).filter fun w => decide (some w ≠ e)) = (((nb tr v).take j).filter fun w => decide (some w ≠ e)) ++ [nw].filter fun w => decide (some w ≠ e) := by
              rw [take_snoc hw, List.filter_append]
            have sc : scal (iv nw) (bv e) = true := by cases e <;> rfl
            have eqe : (iv nw = bv e) ↔ some nw = e := by
              cases e with
              | none => exact ⟨fun z => (nomatch z), fun z => (nomatch z)⟩
              | some n => exact ⟨fun z => congrArg some (iv_inj.mp z), fun z => iv_inj.mpr (Option.some.inj z)⟩
            refine ⟨rfl, _, rfl, _, rfl, sc, _, rfl, ?_⟩
            refine ite2 (fun hd => ?_) (fun hd => ?_)
            · have hne2 : some nw ≠ e := fun z => by
                rw [decide_eq_true (eqe.mpr z)] at hd
                cases hd
              refine ⟨_, rfl, _, rfl, two, fun u nu => ⟨es3.map V.ref, same_upd nu _ _ _ Ly5.hl, ?_, es3 ++ [u], ?_, ?_⟩⟩
              · rw [List.length_map, Ly5.len, List.length_append, List.length_map, sizeLine_eq]
                have h1 := List.length_filter_le (fun w => decide (some w ≠ e)) ((nb tr v).take j)
                rw [List.length_take] at h1
                omega
              · intro c o ec nc
                have h5 := F5 _ _ ec nc
                rw [upd_ne nc, upd_ne (ne_of_none h5 nu)]
                exact h5
              · have e4 : [nw].filter (fun w => decide (some w ≠ e)) = [nw] := by
                  rw [List.filter_cons_of_pos (by simp [hne2]), List.filter_nil]
                rw [esp, e4, List.map_append, ← List.append_assoc]
                exact Ly5.grow nu (x := (nw, some v))
            · have he2 : some nw = e := by
                by_cases c : some nw = e
                · exact c
                · exfalso
                  apply hd
                  rw [decide_eq_false (fun z => c (eqe.mp z))]
                  rfl
              have e3 : [nw].filter (fun w => decide (some w ≠ e)) = [] := by
                rw [List.filter_cons_of_neg (by simp [he2]), List.filter_nil]
              rw [esp, e3, List.append_nil]
              exact ⟨es3, F5, Ly5⟩
          · refine .inl ⟨⟨_, q5, by omega⟩, es3, toS F5, ?_⟩
            rw [enx]
            have e3 : (nb tr v).take j = nb tr v := List.take_of_length_le (by rw [List.length_map] at hlj; omega)
            rw [e3] at Ly5
            exact Ly5
        · refine .inl ⟨⟨_, q4, by omega⟩, ?_⟩
          have e3 : (lyr tr sn b kk).take i = lyr tr sn b kk := List.take_of_length_le (by rw [← Ly3.len]; rw [List.length_map] at hlt; omega)
          rw [e3] at Ly4
          exact ⟨E', es2, fs ++ [D], _, _, _, _, rfl, s3.trans s4, Ef, s4 _ _ hf3, by rw [List.length_append, hk]; rfl, fun j f h => ⟨(hfs3 j f h).1, s4 _ _ (hfs3 j f h).2⟩, fun j hj => (by
            by_cases c : j < kk
            · exact hne j c
            · have : j = kk := by omega
              rw [this]
              exact hk0), Ly4⟩
    · have he : lyr tr sn b kk = [] := by
        cases e : lyr tr sn b kk with
        | nil => rfl
        | cons x l =>
          exfalso
          apply hc
          have := Ly.len
          rw [e] at this
          cases es with
          | nil => cases this
          | cons a l => rfl
      exact ⟨_, rfl, k fl fs H1 s1 hf1 (fun j f h => (hfs j f h).2) (fun j hj => hne j (by omega)) (by rw [hk]; exact he)⟩
end
end TR

namespace TR
open PySem PySem.Spec PyProof.Rows L2 L2.TT L2.TW StX ClX GenW
/-- the standings of a length, as the generator yields them -/
def stRow (tr : List E2) (m s : Nat) : List E2 := (srt ((lyr tr s none m).map Prod.fst)).map fun g => (s, g)
def stAll (tr : List E2) (m n : Nat) : List E2 := (List.range n).flatMap (stRow tr m)
theorem stAll_succ (tr : List E2) (m n : Nat) : stAll tr m (n + 1) = stAll tr m n ++ stRow tr m n := by
  unfold stAll
  rw [List.range_succ, List.flatMap_append]
  simp
theorem srt_len (l : List Nat) : (srt l).length = l.length := (srt_perm l).length_eq
theorem stRow_len {tr : List E2} (T : TreeL tr) {m s : Nat} (hs : s ≤ tr.length) : (stRow tr m s).length ≤ tr.length + 1 := by
  unfold stRow
  rw [List.length_map, srt_len, List.length_map]
  exact lyr_len T hs m
theorem stAll_len {tr : List E2} (T : TreeL tr) {m : Nat} : ∀ n, n ≤ tr.length + 1 → (stAll tr m n).length ≤ n * (tr.length + 1)
  | 0, _ => by simp [stAll]
  | n + 1, h => by
    rw [stAll_succ, List.length_append, Nat.succ_mul]
    have := stAll_len T (m := m) n (by omega)
    have := stRow_len T (m := m) (s := n) (by omega)
    omega
theorem lyr_end {tr : List E2} {s : Nat} {b : Option Nat} {k : Nat} (h : lyr tr s b k = []) : ∀ j, lyr tr s b (k + j) = []
  | 0 => h
  | j + 1 => by
    show (lyr tr s b (k + j)).flatMap (nxt tr) = []
    rw [lyr_end h j]
    rfl
def spStds (C : Addr) : SpG := fun vs H Q _ => ∃ (r : Addr) (tr : List E2) (m : Nat), vs = [.ref r, iv m] ∧ RailAt C H r tr ∧ 1 ≤ m ∧ ∀ ps H', Same H H' → Prs H' ps (stAll tr m (tr.length + 1)) → Q (ps.map V.ref) H'
abbrev NSs : List Str := ["railway", "length", "head", "found", "tail"]
theorem sc_stds : GScope NSs ["railway", "length"] (defScope s_standings) := ⟨rfl, rfl, rfl, by decide +kernel, rfl, by decide +kernel, by decide +kernel⟩
section
variable {P : Program} {w : World} {K : PySem.W.Frag} {mg : Str → Option Value} {base : Heap}
theorem ok_stds {f fI fL C p g : Addr} {fd fdI fdL fdS : FuncData} (F : Fun K "standings" "standings" s_standings f fd) (N : Nm mg) (U : Use P w K mg base CX0 2 "check_length" fI fdI ["length"] spChkLen)
    (UL : Use P w K mg base CX0 6 "layers" fL fdL ["railway", "station", "barred"] (spLayers C)) (Z : SizeOf P w K mg base C p g fdS) : GFnW P w K mg base 7 f fd ["railway", "length"] (spStds C) := by
  refine F.okW sc_stds (fun vs H Q E h => ?_) (fun cdv A outer s H vs Q E pn hr h => ?_)
  · obtain ⟨r, tr, m, rfl, _⟩ := h
    rfl
  · obtain ⟨r, tr, m, rfl, R, hm, k⟩ := h
    refine ⟨_, dss_cons (ds_ps (ps_expr (pe_use U (hr.mono (by decide)) rfl (pa_cons (pv 1) pa_nil))))
      (dss_one (ds_for owns_gcx rfl (pi_range1 (by rfl) N.range (pa_cons (pe_prop (pv 0) Z.cl Z.hp Z.G (hr.mono (by decide)) Z.b .nil pass0 rfl) pa_nil)) (pg_name (i := 2) sc_stds.nd rfl (.inl rfl))
        (dss_cons (ds_ps (ps_set (i := 3) sc_stds.nd rfl (.inl rfl) (pe_use UL hr rfl (pa_cons (pv 0) (pa_cons (pv 2) (pa_cons pe_non pa_nil))))))
        (dss_one (ds_if (pt_cmpR op_lt (pv 1) (pe_callB call_len_seq (by rfl) N.len PySem.boot_len (pa_cons (pv 3) pa_nil)) (nomark _))
          (dss_one (ds_for owns_gcx rfl (pi_list (pe_callB (cs_K (K := K) rfl) (by rfl) N.sorted boot_sorted (pa_cons (pe_ix ix_list (pv 3) (pv 1) (fun _ _ => rfl)) pa_nil))) (pg_name (i := 4) sc_stds.nd rfl (.inl rfl))
            (dss_one (ds_yield (pe_tup (pa_cons (pv 2) (pa_cons (pv 4) pa_nil)))))))
          dss_nil))))), ?_⟩
    have few := R.few
    have T := R.T
    obtain ⟨_, _, dx, tt, na, Aa, L, ps0, ts0, h1, h2⟩ := id R
    refine ⟨_, rfl, m, rfl, hm, ?_⟩
    refine ⟨_, rfl, r, dx, _, rfl, h1, r, tr, rfl, R, ?_⟩
    have e62 : (2 : Int) ^ 62 = 4611686018427387904 := by decide
    have bound : ∀ i, i ≤ tr.length + 1 → (stAll tr m i).length ≤ 10000 := fun i hi => by
      have q := stAll_len T (m := m) i hi
      have q2 : i * (tr.length + 1) ≤ 100 * 100 := Nat.mul_le_mul (by omega) (by omega)
      omega
    refine ⟨_, rfl, by omega, by rw [e62]; omega, ?_⟩
    have en : ((tr.length : Int) + 1).toNat = tr.length + 1 := by omega
    refine gfor_range (lo := 0) (fun i zs σ H' => ∃ (ps : List Addr) (x2 x3 x4 : Option V), σ = [some (.ref r), some (iv m), x2, x3, x4] ∧ zs = ps.map V.ref ∧ Same H H' ∧ Prs H' ps (stAll tr m i)) ⟨[], none, none, none, rfl, rfl, Same.refl _, rfl, fun _ _ _ h => (nomatch h)⟩ ?_ ?_
    · rintro i zs σ H1 hi ⟨ps, x2, x3, x4, rfl, rfl, s1, hP⟩
      rw [en] at hi
      refine ⟨_, rfl, _, rfl, r, tr, i, none, ?_, R.same s1, by omega, fun fl fs H2 s2 hfl hfs hne hend => ?_⟩
      · rw [show ((0 : Int) + (i : Int)) = (i : Int) from Int.zero_add _]
        rfl
      have s12 := s1.trans s2
      refine ⟨_, rfl, _, rfl, fl, _, rfl, .inl (SqL.of hfl), _, _, rfl, rfl, _, rfl, ?_⟩
      rw [List.length_map]
      by_cases c : m < fs.length
      · rw [show decide ((m : Int) < (fs.length : Int)) = true from decide_eq_true (by omega)]
        refine iteT ?_
        obtain ⟨f0, hf0⟩ : ∃ f0, fs[m]? = some f0 := ⟨_, List.getElem?_eq_getElem c⟩
        have hr0 := hfs m f0 hf0
        refine ⟨_, rfl, _, rfl, fl, _, _, _, rfl, rfl, SqL.of hfl, atN (map_get hf0), f0, ((lyr tr i none m).map Prod.fst).map Int.ofNat, rfl, by rw [ints_map]; exact SqL.of hr0, fun ns' p hp hs np => ?_⟩
        have en' : ns'.map V.int = (srt ((lyr tr i none m).map Prod.fst)).map iv := by
          rw [srt_of hp hs, ints_map]
        rw [en']
        have s3 := same_upd np (.lst ((srt ((lyr tr i none m).map Prod.fst)).map iv))
        have hp3 := upd_same (H := H2) (a := p) (o := .lst ((srt ((lyr tr i none m).map Prod.fst)).map iv))
        generalize upd H2 p (.lst ((srt ((lyr tr i none m).map Prod.fst)).map iv)) = H3 at s3 hp3
        have hlen : (srt ((lyr tr i none m).map Prod.fst)).length ≤ tr.length + 1 := by
          rw [srt_len, List.length_map]
          exact lyr_len T (by omega) m
        refine ⟨p, rfl, ⟨_, SqL.of hp3⟩, ?_⟩
        refine gfor_list (K := K) (a := p) (xs := (srt ((lyr tr i none m).map Prod.fst)).map iv) (fun j zs σ H' => ∃ (qs : List Addr) (y4 : Option V), σ = [some (.ref r), some (iv m), some (iv i), some (.ref fl), y4] ∧ zs = qs.map V.ref ∧ Same H3 H' ∧ Prs H' qs (stAll tr m i ++ ((srt ((lyr tr i none m).map Prod.fst)).take j).map fun g => (i, g)))
          ⟨ps, x4, ?_, rfl, Same.refl _, ?_⟩ (fun j zs σ H' _ ⟨_, _, _, _, s4, _⟩ => s4.seq (SqL.of hp3)) ?_ ?_
        · rw [show ((0 : Int) + (i : Int)) = (i : Int) from Int.zero_add _]
          rfl
        · simpa using (hP.same s2).same s3
        · rintro j x zs σ H4 hx ⟨qs, y4, rfl, rfl, s4, hQ⟩
          obtain ⟨t, ht, rfl⟩ := map_got hx
          refine ⟨?_, _, rfl, _, rfl, by show 2 ≤ sizeLine; rw [sizeLine_eq]; decide, fun u nu => ?_⟩
          · rw [List.length_map, hQ.1, List.length_append, List.length_map, List.length_take, sizeLine_eq]
            have := bound i (by omega)
            omega
          · refine ⟨qs ++ [u], _, rfl, by rw [List.map_append]; rfl, s4.trans (same_upd nu _), ?_⟩
            rw [take_snoc ht, List.map_append, ← List.append_assoc]
            exact (hQ.same (same_upd nu _)).snoc upd_same
        · rintro zs σ H4 ⟨qs, y4, rfl, rfl, s4, hQ⟩
          refine ⟨qs, _, _, _, rfl, rfl, (s12.trans s3).trans s4, ?_⟩
          rw [stAll_succ]
          rw [List.take_of_length_le (by rw [List.length_map]; exact Nat.le_refl _)] at hQ
          exact hQ
      · rw [show decide ((m : Int) < (fs.length : Int)) = false from decide_eq_false (by omega)]
        refine iteF ?_
        refine ⟨ps, _, _, _, rfl, rfl, s12, ?_⟩
        have e0 : stRow tr m i = [] := by
          obtain ⟨d, rfl⟩ : ∃ d, m = fs.length + d := ⟨m - fs.length, by omega⟩
          unfold stRow
          rw [lyr_end hend d]
          simp [srt]
        rw [stAll_succ, e0, List.append_nil]
        exact hP.same s2
    · rintro zs σ H1 ⟨ps, x2, x3, x4, rfl, rfl, s1, hP⟩
      rw [en] at hP
      exact k ps H1 s1 hP
end
end TR

namespace TR
open PySem PySem.Spec PyProof.Rows L2 L2.TT L2.TW StX ClX GenW
def spPossX (C CS : Addr) (K : PySem.W.Frag) : SpG := fun vs H _ E => ∃ (r : Addr) (tr : List E2) (v : V), vs = [.ref r, v] ∧ RailAt C H r tr ∧ NoSt K H tr.length v ∧ Rz CS "value" v H E
def spStdsX (CL : Addr) (K : PySem.W.Frag) : SpG := fun vs H _ E => ∃ (v x : V), vs = [x, v] ∧ BadL K H v ∧ Rz CL "value" v H E
/-- the moves one by one: no standing -/
def spMsS (C CS : Addr) (K : PySem.W.Frag) : Sp := fun vs H _ E => ∃ (r : Addr) (tr : List E2) (v : V) (xs : List V), vs = .ref r :: v :: xs ∧ xs.length ≤ 1000 ∧ RailAt C H r tr ∧ NoSt K H tr.length v ∧ Rz CS "value" v H E
/-- .. no moves -/
def spMsM (C CM : Addr) (K : PySem.W.Frag) : Sp := fun vs H _ E => ∃ (r q : Addr) (tr : List E2) (l : List Nat) (xs : List V) (os : List (Option (V × V))) (i : Nat), vs = .ref r :: .ref q :: xs ∧ xs.length ≤ 1000 ∧ RailAt C H r tr ∧ H q = some (.tup [iv (hd0 l), iv (lt0 l)]) ∧ Bd tr l ∧ Paired (PV K H) xs os ∧ (∀ o ∈ os, flat1 o) ∧ badMv tr.length os = some i ∧ Rz CM "position" (iv i) H E
theorem badL_same {K : PySem.W.Frag} {H H' : Hp} {v : V} (h : BadL K H v) (s : Same H H') : BadL K H' v := by
  rcases h with (⟨b, rfl⟩ | ⟨n, t, kb⟩) | h
  · exact .inl (.inl ⟨b, rfl⟩)
  · exact .inl (.inr ⟨n, tyX_same t s, kb⟩)
  · exact .inr h
section
variable {P : Program} {w : World} {K : PySem.W.Frag} {mg : Str → Option Value} {base : Heap}
abbrev N_sc_possX : List Str := ["railway", "standing", "move", "_"]
theorem sc_possX : GScope N_sc_possX ["railway", "standing"] (defScope s_possible_moves) := ⟨rfl, rfl, rfl, by decide +kernel, rfl, by decide +kernel, by decide +kernel⟩
theorem ok_possX {f fS fB C CS : Addr} {fd fdS fdB : FuncData} (F : Fun K "possible_moves" "possible_moves" s_possible_moves f fd) (US : Use P w K mg base CX0 6 "steps_from" fS fdS ["railway", "body"] (spStp C)) (UB : UseX P w K mg base 6 "body_of" fB fdB ["railway", "standing"] (spS2 C CS K)) :
    GFnW P w K mg base 7 f fd ["railway", "standing"] (spPossX C CS K) := by
  refine F.okW sc_possX (fun vs H Q E h => ?_) (fun cdv A outer s H vs Q E pn hr h => ?_)
  · obtain ⟨r, tr, v, rfl, _⟩ := h
    rfl
  · obtain ⟨r, tr, v, rfl, R, hv, k⟩ := h
    refine ⟨_, dss_one (ds_for owns_gcx rfl (pi_list (pe_use US hr (by rfl) (pa_cons (pv 0) (pa_cons (pe_call UB.G (hr.mono (by decide)) (by rfl) UB.m UB.kp UB.b .nil (passes_call takes_gcx (fun _ _ _ _ h => h)) (pa_cons (pv 0) (pa_cons (pv 1) pa_nil))) pa_nil)))) (pg_tup rfl (pgs_cons (pg_name (i := 2) sc_possX.nd rfl (.inl rfl)) (pgs_cons (pg_name (i := 3) sc_possX.nd rfl (.inl rfl)) pgs_nil)))
      (dss_pss L2.pss_never)), ?_⟩
    exact ⟨_, rfl, _, rfl, _, rfl, r, tr, v, rfl, R, hv, k⟩
theorem ok_stdsX {f fI CL : Addr} {fd fdI : FuncData} (F : Fun K "standings" "standings" s_standings f fd) (U : UseX P w K mg base 3 "check_length" fI fdI ["length"] (spLnX CL K)) : GFnW P w K mg base 7 f fd ["railway", "length"] (spStdsX CL K) := by
  refine F.okW sc_stds (fun vs H Q E h => ?_) (fun cdv A outer s H vs Q E pn hr h => ?_)
  · obtain ⟨v, x, rfl, _⟩ := h
    rfl
  · obtain ⟨v, x, rfl, hv, k⟩ := h
    refine ⟨_, dss_cons (ds_ps (ps_expr (pe_call U.G (hr.mono (by decide)) (by rfl) U.m U.kp U.b .nil (passes_call takes_gcx (fun _ _ _ _ h => h)) (pa_cons (pv 1) pa_nil)))) (dss_pss L2.pss_never), ?_⟩
    exact ⟨_, rfl, v, rfl, hv, k⟩
abbrev N_sc_bpartL : List Str := ["railway", "standing", "length", "body"]
theorem sc_bpartL : FnScope N_sc_bpartL ["railway", "standing", "length"] (defScope s_body_for_part) := ⟨rfl, rfl, rfl, by decide +kernel, rfl, by decide +kernel, by decide +kernel⟩
theorem ok_bpartL {f fI fL C CL : Addr} {fd fdI fdL : FuncData} (F : Fun K "_body_for_part" "_body_for_part" s_body_for_part f fd) (N : Nm mg) (U : Use P w K mg base CX0 6 "body_of" fI fdI ["railway", "standing"] (spBody C)) (UL : Use P w K mg base CX0 2 "check_length" fL fdL ["length"] spChkLen) (UX : UseX P w K mg base 3 "check_length" fL fdL ["length"] (spLnX CL K))
    (Z : RzC P w K mg base "InvalidLength" CL "value") : FnOk P w K mg base (L2.CX P w) 7 f fd ["railway", "standing", "length"] (spL3 C CL K) := by
  refine L2.Fun.okX F sc_bpartL (fun vs H Q E h => ?_) (fun cdv A outer s H vs Q E hr h => ?_)
  · obtain ⟨r, q, tr, l, v, rfl, _⟩ := h
    rfl
  · obtain ⟨r, q, tr, l, v, rfl, R, hq, b, hv, k⟩ := h
    obtain ⟨fI', fdI', i1, i2, F1, b1⟩ := Z.ex
    have T := R.T
    rcases hv with hv | ⟨i, rfl, hi⟩
    · refine ⟨_, pss_cons (ps_set (i := 3) sc_bpartL.nd rfl (.inl rfl) (pe_use U (hr.mono (by decide)) (by rfl) (pa_cons (pv 0) (pa_cons (pv 1) pa_nil)))) (pss_cons (ps_expr (pe_call UX.G (hr.mono (by decide)) (by rfl) UX.m UX.kp UX.b .nil (passes_call (takes_of rfl rfl rfl rfl) (fun _ _ _ _ h => h)) (pa_cons (pv 2) pa_nil))) L2.pss_never), ?_⟩
      refine ⟨_, rfl, _, rfl, r, q, tr, hd0 l, lt0 l, rfl, R, hq, b.hle, b.lle, b.ne, fun l' p H1 sw s1 np hp => ?_⟩
      exact ⟨_, rfl, v, rfl, badL_same hv s1, k.later s1⟩
    · refine ⟨_, pss_cons (ps_set (i := 3) sc_bpartL.nd rfl (.inl rfl) (pe_use U (hr.mono (by decide)) (by rfl) (pa_cons (pv 0) (pa_cons (pv 1) pa_nil)))) (pss_cons (ps_expr (pe_use UL (hr.mono (by decide)) (by rfl) (pa_cons (pv 2) pa_nil))) (pss_cons (ps_if (pt_cmpR op_ge (pv 2) (pe_callB call_len_seq (by rfl) N.len PySem.boot_len (pa_cons (pv 3) pa_nil)) (nomark _)) (pss_one (ps_raise rfl (takes_of rfl rfl rfl rfl) (pmk_oxg Z.ox i1 i2 F1 (hr.mono (by decide)) b1 .nil pass0 rfl Z.mgC (pa_cons (pv 2) pa_nil)))) pss_nil) L2.pss_never)), ?_⟩
      refine ⟨_, rfl, _, rfl, r, q, tr, hd0 l, lt0 l, rfl, R, hq, b.hle, b.lle, b.ne, fun l' p H1 sw s1 np hp => ?_⟩
      cases SW.uniq T sw b.sw
      have b2 := b.two
      obtain ⟨m, rfl⟩ := Int.eq_ofNat_of_zero_le (show 0 ≤ i by omega)
      refine ⟨_, rfl, m, rfl, by omega, ?_⟩
      refine ⟨_, rfl, _, rfl, p, _, rfl, .inr (SqT.of hp), _, _, rfl, rfl, _, rfl, ?_⟩
      rw [List.length_map, show decide ((l.length : Int) ≤ (m : Int)) = true from decide_eq_true (by omega)]
      refine iteT ?_
      exact ⟨_, rfl, rz_end (k.later s1).at_⟩
abbrev N_sc_frontL : List Str := ["railway", "standing", "length", "body"]
theorem sc_frontL : FnScope N_sc_frontL ["railway", "standing", "length"] (defScope s_front_part) := ⟨rfl, rfl, rfl, by decide +kernel, rfl, by decide +kernel, by decide +kernel⟩
theorem ok_frontL {f fI C CL : Addr} {fd fdI : FuncData} (F : Fun K "front_part" "front_part" s_front_part f fd) (U : UseX P w K mg base 7 "_body_for_part" fI fdI ["railway", "standing", "length"] (spL3 C CL K)) : FnOk P w K mg base (L2.CX P w) 8 f fd ["railway", "standing", "length"] (spL3 C CL K) := by
  refine L2.Fun.okX F sc_frontL (fun vs H Q E h => ?_) (fun cdv A outer s H vs Q E hr h => ?_)
  · obtain ⟨r, q, tr, l, v, rfl, _⟩ := h
    rfl
  · obtain ⟨r, q, tr, l, v, rfl, R, hq, b, hv, k⟩ := h
    refine ⟨_, pss_cons (ps_set (i := 3) sc_frontL.nd rfl (.inl rfl) (pe_call U.G (hr.mono (by decide)) (by rfl) U.m U.kp U.b .nil (passes_call (takes_of rfl rfl rfl rfl) (fun _ _ _ _ h => h)) (pa_cons (pv 0) (pa_cons (pv 1) (pa_cons (pv 2) pa_nil))))) L2.pss_never, ?_⟩
    exact ⟨_, rfl, _, rfl, _, rfl, r, q, tr, l, v, rfl, R, hq, b, hv, k⟩
abbrev N_sc_rearL : List Str := ["railway", "standing", "length", "body"]
theorem sc_rearL : FnScope N_sc_rearL ["railway", "standing", "length"] (defScope s_rear_part) := ⟨rfl, rfl, rfl, by decide +kernel, rfl, by decide +kernel, by decide +kernel⟩
theorem ok_rearL {f fI C CL : Addr} {fd fdI : FuncData} (F : Fun K "rear_part" "rear_part" s_rear_part f fd) (U : UseX P w K mg base 7 "_body_for_part" fI fdI ["railway", "standing", "length"] (spL3 C CL K)) : FnOk P w K mg base (L2.CX P w) 8 f fd ["railway", "standing", "length"] (spL3 C CL K) := by
  refine L2.Fun.okX F sc_rearL (fun vs H Q E h => ?_) (fun cdv A outer s H vs Q E hr h => ?_)
  · obtain ⟨r, q, tr, l, v, rfl, _⟩ := h
    rfl
  · obtain ⟨r, q, tr, l, v, rfl, R, hq, b, hv, k⟩ := h
    refine ⟨_, pss_cons (ps_set (i := 3) sc_rearL.nd rfl (.inl rfl) (pe_call U.G (hr.mono (by decide)) (by rfl) U.m U.kp U.b .nil (passes_call (takes_of rfl rfl rfl rfl) (fun _ _ _ _ h => h)) (pa_cons (pv 0) (pa_cons (pv 1) (pa_cons (pv 2) pa_nil))))) L2.pss_never, ?_⟩
    exact ⟨_, rfl, _, rfl, _, rfl, r, q, tr, l, v, rfl, R, hq, b, hv, k⟩
abbrev N_sc_alongM : List Str := ["railway", "standing", "moves", "bodies", "index", "end", "station", "body", "old"]
theorem sc_alongM : FnScope N_sc_alongM ["railway", "standing", "moves"] (defScope s_bodies_along) := ⟨rfl, rfl, rfl, by decide +kernel, rfl, by decide +kernel, by decide +kernel⟩
theorem ok_alongM {f fB fC C CM : Addr} {fd fdB fdC : FuncData} (F : Fun K "bodies_along" "bodies_along" s_bodies_along f fd) (UB : Use P w K mg base CX0 6 "body_of" fB fdB ["railway", "standing"] (spBody C)) (UC : UseX P w K mg base 5 "check_moves" fC fdC ["railway", "moves"] (spChkMv C CM K)) :
    FnOk P w K mg base (L2.CX P w) 7 f fd ["railway", "standing", "moves"] (spM3 C CM K) := by
  refine L2.Fun.okX F sc_alongM (fun vs H Q E h => ?_) (fun cdv A outer s H vs Q E hr h => ?_)
  · obtain ⟨r, q, tr, l, v, y, rfl, _⟩ := h
    rfl
  · obtain ⟨r, q, tr, l, v, y, rfl, R, hq, b, hv, k⟩ := h
    have one : (1 : Nat) ≤ sizeLine := by rw [sizeLine_eq]; decide
    refine ⟨_, pss_cons (ps_set (i := 3) sc_alongM.nd rfl (.inl rfl) (pe_lst (pa_cons (pe_use UB (hr.mono (by decide)) (by rfl) (pa_cons (pv 0) (pa_cons (pv 1) pa_nil))) pa_nil))) (pss_cons (ps_expr (pe_call UC.G (hr.mono (by decide)) (by rfl) UC.m UC.kp UC.b .nil (passes_call (takes_of rfl rfl rfl rfl) (fun _ _ _ _ h => h)) (pa_cons (pv 0) (pa_cons (pv 2) pa_nil)))) L2.pss_never), ?_⟩
    refine ⟨_, rfl, _, rfl, r, q, tr, hd0 l, lt0 l, rfl, R, hq, b.hle, b.lle, b.ne, fun l' p H1 sw s1 np hp => ⟨one, fun D nD => ?_⟩⟩
    have s2 := s1.trans (same_upd nD (.lst [V.ref p]))
    have hv2 := hv.same s2
    have k2 := k.later s2
    refine ⟨_, rfl, _, rfl, r, tr, v, rfl, R.same s2, ?_⟩
    generalize upd H1 D (.lst [V.ref p]) = H2 at hv2 k2 ⊢
    cases hv2 with
    | @at_ t xs os i h pr f bm => exact .inl ⟨t, xs, os, rfl, h, pr, f, fun z => (by rw [bm] at z; cases z), fun j e d H' s n => (by rw [bm] at e; cases e; exact k2 d H' s n)⟩
    | no t kb => exact .inr ⟨⟨_, t, kb⟩, k2.at_⟩
abbrev N_sc_mvdM : List Str := ["railway", "standing", "moves", "body"]
theorem sc_mvdM : FnScope N_sc_mvdM ["railway", "standing", "moves"] (defScope s_moved_along) := ⟨rfl, rfl, rfl, by decide +kernel, rfl, by decide +kernel, by decide +kernel⟩
theorem ok_mvdM {f fI C CM : Addr} {fd fdI : FuncData} (F : Fun K "moved_along" "moved_along" s_moved_along f fd) (U : UseX P w K mg base 7 "bodies_along" fI fdI ["railway", "standing", "moves"] (spM3 C CM K)) : FnOk P w K mg base (L2.CX P w) 8 f fd ["railway", "standing", "moves"] (spM3 C CM K) := by
  refine L2.Fun.okX F sc_mvdM (fun vs H Q E h => ?_) (fun cdv A outer s H vs Q E hr h => ?_)
  · obtain ⟨r, q, tr, l, v, y, rfl, _⟩ := h
    rfl
  · obtain ⟨r, q, tr, l, v, y, rfl, R, hq, b, hv, k⟩ := h
    refine ⟨_, pss_cons (ps_set (i := 3) sc_mvdM.nd rfl (.inl rfl) (pe_ix ix_list (pe_call U.G (hr.mono (by decide)) (by rfl) U.m U.kp U.b .nil (passes_call (takes_of rfl rfl rfl rfl) (fun _ _ _ _ h => h)) (pa_cons (pv 0) (pa_cons (pv 1) (pa_cons (pv 2) pa_nil)))) (pe_un un_neg pe_int) (fun _ _ => rfl))) L2.pss_never, ?_⟩
    exact ⟨_, rfl, _, rfl, _, rfl, r, q, tr, l, v, y, rfl, R, hq, b, hv, k⟩
abbrev N_sc_opsM : List Str := ["railway", "standing", "moves", "bodies", "opposites", "end", "_", "body"]
theorem sc_opsM : FnScope N_sc_opsM ["railway", "standing", "moves"] (defScope s_opposite_moves) := ⟨rfl, rfl, rfl, by decide +kernel, rfl, by decide +kernel, by decide +kernel⟩
theorem ok_opsM {f fI C CM : Addr} {fd fdI : FuncData} (F : Fun K "opposite_moves" "opposite_moves" s_opposite_moves f fd) (U : UseX P w K mg base 7 "bodies_along" fI fdI ["railway", "standing", "moves"] (spM3 C CM K)) : FnOk P w K mg base (L2.CX P w) 8 f fd ["railway", "standing", "moves"] (spM3 C CM K) := by
  refine L2.Fun.okX F sc_opsM (fun vs H Q E h => ?_) (fun cdv A outer s H vs Q E hr h => ?_)
  · obtain ⟨r, q, tr, l, v, y, rfl, _⟩ := h
    rfl
  · obtain ⟨r, q, tr, l, v, y, rfl, R, hq, b, hv, k⟩ := h
    refine ⟨_, pss_cons (ps_set (i := 3) sc_opsM.nd rfl (.inl rfl) (pe_call U.G (hr.mono (by decide)) (by rfl) U.m U.kp U.b .nil (passes_call (takes_of rfl rfl rfl rfl) (fun _ _ _ _ h => h)) (pa_cons (pv 0) (pa_cons (pv 1) (pa_cons (pv 2) pa_nil))))) L2.pss_never, ?_⟩
    exact ⟨_, rfl, _, rfl, _, rfl, r, q, tr, l, v, y, rfl, R, hq, b, hv, k⟩
abbrev N_sc_mvX : List Str := ["railway", "standing", "moves"]
theorem sc_mvX : FnScope N_sc_mvX ((["railway", "standing"] : List Str) ++ (["moves"] : List Str)) (defScope s_moved) := ⟨rfl, rfl, rfl, by decide +kernel, rfl, by decide +kernel, by decide +kernel⟩
theorem body_mvX {f fM : Addr} {fdM : FuncData} {sp : Sp} (UM : UseX P w K mg base 8 "moved_along" fM fdM ["railway", "standing", "moves"] sp) (len : ∀ vs H Q E, sp vs H Q E → vs.length = 3) (cdv : Value) (A : Around) (outer : List Env) (s : Shared) (H : Hp) (vs : List V) (Q : VK) (E : XK)
    (hr : Room 8 (A.deeper (envOfC "moved" (defScope s_moved) s.heap.objs.size f cdv))) (h : sp vs H Q E) :
    ∃ t, PSs (cxOf (L2.CX P w) P w K mg base N_sc_mvX "moved" (defScope s_moved) f cdv A outer s H E) (defBody s_moved) t ∧ t { nx := fun _ H' => Q .non H', rt := Q } (L2.start N_sc_mvX vs) H := by
  obtain ⟨a, b, c, rfl⟩ : ∃ a b c, vs = [a, b, c] := by
    match vs, len vs H Q E h with
    | [a, b, c], _ => exact ⟨a, b, c, rfl⟩
  refine ⟨_, pss_one (ps_ret (pe_call UM.G hr (by rfl) UM.m UM.kp UM.b .nil (passes_call (takes_of rfl rfl rfl rfl) (fun _ _ _ _ h => h)) (pa_cons (pv 0) (pa_cons (pv 1) (pa_cons (pv 2) pa_nil))))), ?_⟩
  exact ⟨_, rfl, _, rfl, _, rfl, h⟩
theorem fn_mvS {f fM C CS : Addr} {fd fdM : FuncData} (F : Fun K "moved" "moved" s_moved f fd) (UM : UseX P w K mg base 8 "moved_along" fM fdM ["railway", "standing", "moves"] (spS3 C CS K)) : FnR P w K mg base (L2.CX P w) 9 f (spMsS C CS K) := by
  obtain ⟨oc, od, kV, doc, pm, an, cdv, ct, osl, rfl, lk, hcd⟩ := F.ex
  have G := fn_star (P := P) (w := w) (mg := mg) (base := base) (CX := L2.CX P w) (k := 8) (ps := ["railway", "standing"]) (pv := "moves") (N := N_sc_mvX) (sp := spS3 C CS K) lk hcd sc_mvX cxUp (bind_star2 (B := fun vs => bindArgs (PySem.W.fnOf "moved" "moved" (defArgs s_moved) (defBody s_moved) (defScope s_moved) .none kV doc pm an cdv ct) ⟨vs, []⟩) (p1 := "railway") (p2 := "standing") (pv := "moves") (fun a b => rfl) (fun a b r rs => rfl))
    (fun A outer s H vs Q E hr h => body_mvX (f := f) UM (fun vs H Q E h => by obtain ⟨r, tr, v, x, rfl, _⟩ := h; rfl) cdv A outer s H vs Q E hr h)
  refine G.imp fun vs H Q E h => ?_
  obtain ⟨r, tr, v, xs, rfl, hl, R, hv, k⟩ := h
  refine ⟨[.ref r, v], xs, rfl, rfl, by rw [sizeLine_eq]; omega, fun p np => ?_⟩
  have s0 := same_upd np (.tup xs)
  exact ⟨r, tr, v, .ref p, rfl, R.same s0, hv.same s0, k.later s0⟩
theorem fn_mvM {f fM C CM : Addr} {fd fdM : FuncData} (F : Fun K "moved" "moved" s_moved f fd) (UM : UseX P w K mg base 8 "moved_along" fM fdM ["railway", "standing", "moves"] (spM3 C CM K)) : FnR P w K mg base (L2.CX P w) 9 f (spMsM C CM K) := by
  obtain ⟨oc, od, kV, doc, pm, an, cdv, ct, osl, rfl, lk, hcd⟩ := F.ex
  have G := fn_star (P := P) (w := w) (mg := mg) (base := base) (CX := L2.CX P w) (k := 8) (ps := ["railway", "standing"]) (pv := "moves") (N := N_sc_mvX) (sp := spM3 C CM K) lk hcd sc_mvX cxUp (bind_star2 (B := fun vs => bindArgs (PySem.W.fnOf "moved" "moved" (defArgs s_moved) (defBody s_moved) (defScope s_moved) .none kV doc pm an cdv ct) ⟨vs, []⟩) (p1 := "railway") (p2 := "standing") (pv := "moves") (fun a b => rfl) (fun a b r rs => rfl))
    (fun A outer s H vs Q E hr h => body_mvX (f := f) UM (fun vs H Q E h => by obtain ⟨r, q, tr, l, v, y, rfl, _⟩ := h; rfl) cdv A outer s H vs Q E hr h)
  refine G.imp fun vs H Q E h => ?_
  obtain ⟨r, q, tr, l, xs, os, i, rfl, hl, R, hq, b, pr, fl, bm, k⟩ := h
  refine ⟨[.ref r, .ref q], xs, rfl, rfl, by rw [sizeLine_eq]; omega, fun p np => ?_⟩
  have s0 := same_upd np (.tup xs)
  exact ⟨r, q, tr, l, .ref p, iv i, rfl, R.same s0, s0 _ _ hq, b, .at_ upd_same (pvs_same s0 pr) fl bm, k.later s0⟩
end
end TR


namespace TR
open PySem PySem.Spec PyProof.Rows L2 L2.TT L2.TW StX ClX GenW
theorem noStopF {K : PySem.W.Frag} : NoStop K (fun _ _ _ => False) := fun _ _ _ h => h.elim
/-- a generator def -/
structure GenU (P : Program) (w : World) (K : PySem.W.Frag) (mg : Str → Option Value) (base : Heap) (k : Nat) (x : Str) (f : Addr) (fd : FuncData) (ps ks : List Str) (gg : List Value → List Value) (sp : SpG) : Prop where
  G : GFnW P w K mg base k f fd ps sp
  m : mg x = some (.ref f)
  kp : PySem.W.keepIn K (.ref f) = true
  b : Binds K fd ps []
  kb : ∀ (s : Shared) (ws : List Value), K.In s.heap → ws.length = ks.length → BindsTo s fd ⟨[], ks.zip ws⟩ (ps.zip (gg ws))
end TR

namespace TR
open PySem PySem.Spec PyProof.Rows L2 L2.TT L2.TW StX ClX L2.TL LamX GenW
theorem wd_word : ∀ i, Word (wd i)
  | 0 => ⟨by decide +kernel, by decide +kernel, by decide +kernel⟩
  | 1 => ⟨by decide +kernel, by decide +kernel, by decide +kernel⟩
  | 2 => ⟨by decide +kernel, by decide +kernel, by decide +kernel⟩
  | _ + 3 => ⟨by show (PyData.str "blocked").canLay0 = true; decide +kernel, by show (PyData.str "blocked").leavesShort 60 = true; decide +kernel, by show (PyData.str "blocked").weight ≤ 20; decide +kernel⟩
theorem pe_said {X : Cx} {g c P : Addr} {fd : FuncData} {CR CU CM CS CL CV CB CP CT : Addr} {T : List (Addr × Str)} {k : Nat} {params : Arguments} {body : Expr} {scope : Scope} {t : XK → TE} {p lpos pos : Pos}
    (S : Fun X.K "_law_said" "_law_said" s_law_said g fd) (hb : Binds X.K fd ["call"] []) (W : SayF X.K X.mg CR CU CM CS CL CV CB CP CT) (m : X.mg "_law_said" = some (.ref g)) (hg : Gl X "_law_said")
    (TB : TabB X.base X.mg c P) (hcode : X.env.code = .ref c) (hmT : (P, X.env.qual ++ "<lambda>") ∈ T) (hu : ∀ p ∈ T, p.1 = P → p.2 = X.env.qual ++ "<lambda>") (hr : Room (k + 4) X.A) (L : LamS X.env.scope scope) (hdef : defaultsOf params X.env = ([], []))
    (hbind : ∀ (q : Str) (cl : List (Str × Addr)) (pm cv ctv : Value), bindArgs (PySem.W.kla_fn "<lambda>" q params body scope cl pm cv ctv) ⟨[], []⟩ = pure [])
    (hbody : ∀ (A : Around) (outer : List Env) (s : Shared) (H : Hp) (E : XK) (f c' : Addr), Room (k + 2) (A.deeper (lamEnv X scope s.heap.objs.size f c')) → PE (lamCx X A outer s H E scope f c') body (t E)) :
    PE X (.Call (.Name "_law_said" p) [.Lambda params body scope lpos] [] pos) (tLam T (TSaid X.K CR CU CM CS CL CV CB CP CT) t) := by
  obtain ⟨oc, od, kV, doc, pm, an, cdv, ct, osl, rfl, lk, hcg⟩ := S.ex
  exact pe_lamcallS hg m S.kp lk hcg hb sc_said rfl (.inl rfl) (said_gives W) TB hcode hmT hu hr L hdef hbind hbody
/-- a call of a def with a star parameter -/
structure UseR (P : Program) (w : World) (K : PySem.W.Frag) (mg : Str → Option Value) (base : Heap) (k : Nat) (x : Str) (f : Addr) (sp : Sp) : Prop where
  g : FnR P w K mg base (L2.CX P w) k f sp
  m : mg x = some (.ref f)
  kp : PySem.W.keepIn K (.ref f) = true
/-- the classes of the words -/
structure SCs (K : PySem.W.Frag) (CR CU CM CS CL CV CB CP CT : Addr) : Prop where
  s : SCls K CR CU CM CS CL CV CB CP CT CS 0
  l : SCls K CR CU CM CS CL CV CB CP CT CL 1
  v : SCls K CR CU CM CS CL CV CB CP CT CV 2
  b : SCls K CR CU CM CS CL CV CB CP CT CB 3
  ns : PySem.W.subIn K (.ref CS) (.type "StopIteration") = some false
  nl : PySem.W.subIn K (.ref CL) (.type "StopIteration") = some false
theorem NoSt.keep {K : PySem.W.Frag} {dr : Addr} {H : Hp} {n : Nat} {v : V} (h : ∀ H', Kp dr H H' → NoSt K H' n v) {H1 : Hp} (k : Kp dr H H1) : ∀ H', Kp dr H1 H' → NoSt K H' n v := fun H' z => h H' (k.trans z)
abbrev qSt : Str := "_law_standings_right.<locals>.<lambda>"
section
variable {P : Program} {w : World} {K : PySem.W.Frag} {mg : Str → Option Value} {base : Heap}
def spStR (C dr : Addr) (K : PySem.W.Frag) (T : List (Addr × Str)) : Sp := fun vs H Q _ => ∃ (r : Addr) (tr : List E2) (o b : V) (d : PyData), vs = [.ref r, o, b] ∧ RailAt C H r tr ∧ Tabs T H ∧ OddV K dr H o d ∧ (∀ H', Kp dr H H' → NoSt K H' tr.length o) ∧
  ∀ H', ExtN H H' → Tabs T H' → Q (.bl true) H'
abbrev NStR : List Str := ["road", "odd", "bad", "told"]
theorem sc_str : FnScope NStR ["road", "odd", "bad"] (defScope s_law_standings_right) := ⟨rfl, rfl, rfl, by decide +kernel, rfl, by decide +kernel, by decide +kernel⟩
theorem ok_str {f c Pt g f1 f2 f3 f4 f5 f6 f7 f8 f9 C CR CU CM CS CL CV CB CP CT dr : Addr} {T : List (Addr × Str)} {fd fdg fd1 fd2 fd3 fd4 fd6 fd7 fd8 fd9 : FuncData} (F : FunC K "_law_standings_right" "_law_standings_right" s_law_standings_right f fd c) (TB : TabB base mg c Pt) (hmT : (Pt, qSt) ∈ T) (hu : ∀ p ∈ T, p.1 = Pt → p.2 = qSt)
    (N : Nm mg) (S : Fun K "_law_said" "_law_said" s_law_said g fdg) (hb : Binds K fdg ["call"] []) (W : SayF K mg CR CU CM CS CL CV CB CP CT) (m : mg "_law_said" = some (.ref g)) (Z : SCs K CR CU CM CS CL CV CB CP CT)
    (U1 : UseX P w K mg base 7 "length_of" f1 fd1 ["railway", "standing"] (spS2 C CS K)) (U2 : UseX P w K mg base 6 "body_of" f2 fd2 ["railway", "standing"] (spS2 C CS K)) (U3 : UseX P w K mg base 6 "turned" f3 fd3 ["railway", "standing"] (spS2 C CS K))
    (GP : GenU P w K mg base 7 "possible_moves" f4 fd4 ["railway", "standing"] ["standing", "railway"] swp (spPossX C CS K)) (M5 : UseR P w K mg base 9 "moved" f5 (spMsS C CS K)) (U6 : UseX P w K mg base 8 "moved_along" f6 fd6 ["railway", "standing", "moves"] (spS3 C CS K))
    (U7 : UseX P w K mg base 8 "opposite_moves" f7 fd7 ["railway", "standing", "moves"] (spS3 C CS K)) (U8 : UseX P w K mg base 8 "front_part" f8 fd8 ["railway", "standing", "length"] (spS3 C CS K)) (U9 : UseX P w K mg base 8 "rear_part" f9 fd9 ["railway", "standing", "length"] (spS3 C CS K)) :
    FnG P w K mg base CX0 15 f fd ["road", "odd", "bad"] (spStR C dr K T) := by
  refine FunC.okG F sc_str (fun vs H Q E h => ?_) (fun A outer s H vs Q E hG hr h => ?_)
  · obtain ⟨r, tr, o, b, d, rfl, _⟩ := h
    rfl
  · obtain ⟨r, tr, o, b, d, rfl, R, hT, od, bd, k⟩ := h
    have hu64 : (A.deeper (envOfC "_law_standings_right" (defScope s_law_standings_right) s.heap.objs.size f (.ref c))).units + 64 < cLine := hr.units
    refine ⟨_, pss_cons (ps_set (i := 3) sc_str.nd rfl (.inl rfl) (pe_lst (pa_cons (pe_said (k := 10) S hb W m (by rfl) TB rfl hmT hu hr (lamS_by (sc := defScope s_law_standings_right) (by decide +kernel)) rfl (fun _ _ _ _ _ => rfl) (fun A outer s H E f c' hr2 => (pe_call U1.G (hr2.mono (by decide)) (by rfl) U1.m U1.kp U1.b .nil (passes_call (takes_of rfl rfl rfl rfl) (fun _ _ _ _ h => h)) (pa_cons (pv 0) (pa_cons (pv 1) pa_nil))))) pa_nil)))
      (pss_cons (ps_expr (pe_bm PySem.F.plainAttrs_list PySem.F.slot_list_append PySem.F.type_list_append mt_append (pv 3) (pa_cons (pe_said (k := 10) S hb W m (by rfl) TB rfl hmT hu hr (lamS_by (sc := defScope s_law_standings_right) (by decide +kernel)) rfl (fun _ _ _ _ _ => rfl) (fun A outer s H E f c' hr2 => (pe_call U2.G (hr2.mono (by decide)) (by rfl) U2.m U2.kp U2.b .nil (passes_call (takes_of rfl rfl rfl rfl) (fun _ _ _ _ h => h)) (pa_cons (pv 0) (pa_cons (pv 1) pa_nil))))) pa_nil)))
      (pss_cons (ps_expr (pe_bm PySem.F.plainAttrs_list PySem.F.slot_list_append PySem.F.type_list_append mt_append (pv 3) (pa_cons (pe_said (k := 10) S hb W m (by rfl) TB rfl hmT hu hr (lamS_by (sc := defScope s_law_standings_right) (by decide +kernel)) rfl (fun _ _ _ _ _ => rfl) (fun A outer s H E f c' hr2 => (pe_call U3.G (hr2.mono (by decide)) (by rfl) U3.m U3.kp U3.b .nil (passes_call (takes_of rfl rfl rfl rfl) (fun _ _ _ _ h => h)) (pa_cons (pv 0) (pa_cons (pv 1) pa_nil))))) pa_nil)))
      (pss_cons (ps_expr (pe_bm PySem.F.plainAttrs_list PySem.F.slot_list_append PySem.F.type_list_append mt_append (pv 3) (pa_cons (pe_said (k := 10) S hb W m (by rfl) TB rfl hmT hu hr (lamS_by (sc := defScope s_law_standings_right) (by decide +kernel)) rfl (fun _ _ _ _ _ => rfl) (fun A outer s H E f c' hr2 => (pe_listG (PGenW.plain (pgenW_call (E := (fun cls d H' => E cls d H' ∧ cls = .ref CS)) GP.G (hr2.mono (by decide)) (by rfl) GP.m GP.kp GP.b (pa_cons (pv 0) (pa_cons (pv 1) pa_nil)))) (passes_call (takes_of rfl rfl rfl rfl) (fun _ _ _ _ h => h.1)) (fun cls d H' h => by rw [h.2]; exact Z.ns) (hr2.mono (by decide)) (by rfl) N.list PyProof.Rows.boot_list))) pa_nil)))
      (pss_cons (ps_expr (pe_bm PySem.F.plainAttrs_list PySem.F.slot_list_append PySem.F.type_list_append mt_append (pv 3) (pa_cons (pe_said (k := 10) S hb W m (by rfl) TB rfl hmT hu hr (lamS_by (sc := defScope s_law_standings_right) (by decide +kernel)) rfl (fun _ _ _ _ _ => rfl) (fun A outer s H E f c' hr2 => (pe_callR M5.g (hr2.mono (by decide)) M5.kp (by rfl) M5.m (passes_call (takes_of rfl rfl rfl rfl) (fun _ _ _ _ h => h)) (pa_cons (pv 0) (pa_cons (pv 1) pa_nil))))) pa_nil)))
      (pss_cons (ps_expr (pe_bm PySem.F.plainAttrs_list PySem.F.slot_list_append PySem.F.type_list_append mt_append (pv 3) (pa_cons (pe_said (k := 10) S hb W m (by rfl) TB rfl hmT hu hr (lamS_by (sc := defScope s_law_standings_right) (by decide +kernel)) rfl (fun _ _ _ _ _ => rfl) (fun A outer s H E f c' hr2 => (pe_callR M5.g (hr2.mono (by decide)) M5.kp (by rfl) M5.m (passes_call (takes_of rfl rfl rfl rfl) (fun _ _ _ _ h => h)) (pa_cons (pv 0) (pa_cons (pv 1) (pa_cons pe_non pa_nil)))))) pa_nil)))
      (pss_cons (ps_expr (pe_bm PySem.F.plainAttrs_list PySem.F.slot_list_append PySem.F.type_list_append mt_append (pv 3) (pa_cons (pe_said (k := 10) S hb W m (by rfl) TB rfl hmT hu hr (lamS_by (sc := defScope s_law_standings_right) (by decide +kernel)) rfl (fun _ _ _ _ _ => rfl) (fun A outer s H E f c' hr2 => (pe_call U6.G (hr2.mono (by decide)) (by rfl) U6.m U6.kp U6.b .nil (passes_call (takes_of rfl rfl rfl rfl) (fun _ _ _ _ h => h)) (pa_cons (pv 0) (pa_cons (pv 1) (pa_cons pe_non pa_nil)))))) pa_nil)))
      (pss_cons (ps_expr (pe_bm PySem.F.plainAttrs_list PySem.F.slot_list_append PySem.F.type_list_append mt_append (pv 3) (pa_cons (pe_said (k := 10) S hb W m (by rfl) TB rfl hmT hu hr (lamS_by (sc := defScope s_law_standings_right) (by decide +kernel)) rfl (fun _ _ _ _ _ => rfl) (fun A outer s H E f c' hr2 => (pe_call U7.G (hr2.mono (by decide)) (by rfl) U7.m U7.kp U7.b .nil (passes_call (takes_of rfl rfl rfl rfl) (fun _ _ _ _ h => h)) (pa_cons (pv 0) (pa_cons (pv 1) (pa_cons (pe_tup (pa_cons (pv 1) pa_nil)) pa_nil)))))) pa_nil)))
      (pss_cons (ps_expr (pe_bm PySem.F.plainAttrs_list PySem.F.slot_list_append PySem.F.type_list_append mt_append (pv 3) (pa_cons (pe_said (k := 10) S hb W m (by rfl) TB rfl hmT hu hr (lamS_by (sc := defScope s_law_standings_right) (by decide +kernel)) rfl (fun _ _ _ _ _ => rfl) (fun A outer s H E f c' hr2 => (pe_call U8.G (hr2.mono (by decide)) (by rfl) U8.m U8.kp U8.b .nil (passes_call (takes_of rfl rfl rfl rfl) (fun _ _ _ _ h => h)) (pa_cons (pv 0) (pa_cons (pv 1) (pa_cons (pv 2) pa_nil)))))) pa_nil)))
      (pss_cons (ps_expr (pe_bm PySem.F.plainAttrs_list PySem.F.slot_list_append PySem.F.type_list_append mt_append (pv 3) (pa_cons (pe_said (k := 10) S hb W m (by rfl) TB rfl hmT hu hr (lamS_by (sc := defScope s_law_standings_right) (by decide +kernel)) rfl (fun _ _ _ _ _ => rfl) (fun A outer s H E f c' hr2 => (pe_call U9.G (hr2.mono (by decide)) (by rfl) U9.m U9.kp U9.b .nil (passes_call (takes_of rfl rfl rfl rfl) (fun _ _ _ _ h => h)) (pa_cons (pv 0) (pa_cons (pv 1) (pa_cons (pv 2) pa_nil)))))) pa_nil)))
      (pss_one (ps_ret (pe_cmpR op_eq (pe_callB (call_reprS hG hu64) (by rfl) N.repr PyProof.Rows.boot_repr (pa_cons (pv 3) pa_nil)) (pe_callB (call_reprS hG hu64) (by rfl) N.repr PyProof.Rows.boot_repr (pa_cons (pe_op op_rep (pe_lst (pa_cons (pe_tup (pa_cons pe_str (pa_cons (pv 1) pa_nil))) pa_nil)) pe_int) pa_nil)) (nomark _))))))))))))), ?_⟩
    have one : (1 : Nat) ≤ sizeLine := by rw [sizeLine_eq]; decide
    have two : (2 : Nat) ≤ sizeLine := by rw [sizeLine_eq]; decide
    refine ⟨hT, fun H1 eN T1 E' Q' hE hQ => ?_⟩
    have e0 : ExtN H H1 := eN
    have R1 := rail_ex R e0
    have bd1 := bd H1 (Kp.ex e0)
    refine ⟨_, rfl, _, rfl, r, tr, o, rfl, R1, bd1, (fun dd Hx sx hd => hE CS dd 0 o _ (by decide) Z.s upd_same (fun tt HB s2 nt ht => ?_))⟩
    have sH := (sx.trans (same_upd hd (.xd [("value", o)]))).trans s2
    have T2 := T1.ext sH
    have e2 : ExtN H HB := e0.trans (ExtN.of sH)
    have od := od.keep (Kp.ex e2)
    have R := rail_ex R e2
    have bd := NoSt.keep bd (Kp.ex e2)
    have k : ∀ H', ExtN HB H' → Tabs T H' → Q (.bl true) H' := fun H' e t => k H' (e2.trans e) t
    refine ⟨one, fun tl ntl => ?_⟩
    have t1 := Tol.start ntl T2 (.inr ⟨tt, wd 0, o, d, rfl, rfl, wd_word 0, od.small, ht, fun H' e => od.sk e⟩)
    generalize upd HB tl (.lst [V.ref tt]) = G1 at t1 ⊢
    have okO : ∀ H', ExtN HB H' → SK K H' o d := fun H' e => od.sk e
    clear sH T2 e2 ht nt s2 sx hd T1 eN e0 R1 bd1 hE hQ ntl
    refine ⟨_, rfl, .inl ⟨rfl, _, SqL.of t1.tl⟩, t1.tabs, fun H1 eN T1 E' Q' hE hQ => ?_⟩
    have e0 := t1.ext.trans eN
    have R1 := rail_ex R e0
    have bd1 := bd H1 (Kp.ex e0)
    refine ⟨_, rfl, _, rfl, r, tr, o, rfl, R1, bd1, (fun dd Hx sx hd => hE CS dd 0 o _ (by decide) Z.s upd_same (fun tt H2 s2 nt ht => ?_))⟩
    have sH := (sx.trans (same_upd hd (.xd [("value", o)]))).trans s2
    have T2 := T1.ext sH
    have ta := (t1.mv eN T1).mv (ExtN.of sH) T2
    refine ⟨tl, _, _, rfl, rfl, ta.tl, by rw [sizeLine_eq]; show 1 < _; decide, ?_⟩
    have t2 := ta.add (.inr ⟨tt, wd 0, o, d, rfl, rfl, wd_word 0, od.small, ht, okO⟩)
    generalize upd _ tl _ = G2 at t2 ⊢
    clear ta t1 sH T2 ht nt s2 sx hd T1 eN e0 R1 bd1 hE hQ
    refine ⟨_, rfl, .inl ⟨rfl, _, SqL.of t2.tl⟩, t2.tabs, fun H1 eN T1 E' Q' hE hQ => ?_⟩
    have e0 := t2.ext.trans eN
    have R1 := rail_ex R e0
    have bd1 := bd H1 (Kp.ex e0)
    refine ⟨_, rfl, _, rfl, r, tr, o, rfl, R1, bd1, (fun dd Hx sx hd => hE CS dd 0 o _ (by decide) Z.s upd_same (fun tt H2 s2 nt ht => ?_))⟩
    have sH := (sx.trans (same_upd hd (.xd [("value", o)]))).trans s2
    have T2 := T1.ext sH
    have ta := (t2.mv eN T1).mv (ExtN.of sH) T2
    refine ⟨tl, _, _, rfl, rfl, ta.tl, by rw [sizeLine_eq]; show 2 < _; decide, ?_⟩
    have t3 := ta.add (.inr ⟨tt, wd 0, o, d, rfl, rfl, wd_word 0, od.small, ht, okO⟩)
    generalize upd _ tl _ = G3 at t3 ⊢
    clear ta t2 sH T2 ht nt s2 sx hd T1 eN e0 R1 bd1 hE hQ
    refine ⟨_, rfl, .inl ⟨rfl, _, SqL.of t3.tl⟩, t3.tabs, fun H1 eN T1 E' Q' hE hQ => ?_⟩
    have e0 := t3.ext.trans eN
    have R1 := rail_ex R e0
    have bd1 := bd H1 (Kp.ex e0)
    refine ⟨_, rfl, _, rfl, r, tr, o, rfl, R1, bd1, (fun dd Hx sx hd => ⟨hE CS dd 0 o _ (by decide) Z.s upd_same (fun tt H2 s2 nt ht => ?_), rfl⟩)⟩
    have sH := (sx.trans (same_upd hd (.xd [("value", o)]))).trans s2
    have T2 := T1.ext sH
    have ta := (t3.mv eN T1).mv (ExtN.of sH) T2
    refine ⟨tl, _, _, rfl, rfl, ta.tl, by rw [sizeLine_eq]; show 3 < _; decide, ?_⟩
    have t4 := ta.add (.inr ⟨tt, wd 0, o, d, rfl, rfl, wd_word 0, od.small, ht, okO⟩)
    generalize upd _ tl _ = G4 at t4 ⊢
    clear ta t3 sH T2 ht nt s2 sx hd T1 eN e0 R1 bd1 hE hQ
    refine ⟨_, rfl, .inl ⟨rfl, _, SqL.of t4.tl⟩, t4.tabs, fun H1 eN T1 E' Q' hE hQ => ?_⟩
    have e0 := t4.ext.trans eN
    have R1 := rail_ex R e0
    have bd1 := bd H1 (Kp.ex e0)
    refine ⟨_, rfl, _, rfl, r, tr, o, [], rfl, Nat.zero_le _, R1, bd1, (fun dd Hx sx hd => hE CS dd 0 o _ (by decide) Z.s upd_same (fun tt H2 s2 nt ht => ?_))⟩
    have sH := (sx.trans (same_upd hd (.xd [("value", o)]))).trans s2
    have T2 := T1.ext sH
    have ta := (t4.mv eN T1).mv (ExtN.of sH) T2
    refine ⟨tl, _, _, rfl, rfl, ta.tl, by rw [sizeLine_eq]; show 4 < _; decide, ?_⟩
    have t5 := ta.add (.inr ⟨tt, wd 0, o, d, rfl, rfl, wd_word 0, od.small, ht, okO⟩)
    generalize upd _ tl _ = G5 at t5 ⊢
    clear ta t4 sH T2 ht nt s2 sx hd T1 eN e0 R1 bd1 hE hQ
    refine ⟨_, rfl, .inl ⟨rfl, _, SqL.of t5.tl⟩, t5.tabs, fun H1 eN T1 E' Q' hE hQ => ?_⟩
    have e0 := t5.ext.trans eN
    have R1 := rail_ex R e0
    have bd1 := bd H1 (Kp.ex e0)
    refine ⟨_, rfl, _, rfl, r, tr, o, [.non], rfl, by decide, R1, bd1, (fun dd Hx sx hd => hE CS dd 0 o _ (by decide) Z.s upd_same (fun tt H2 s2 nt ht => ?_))⟩
    have sH := (sx.trans (same_upd hd (.xd [("value", o)]))).trans s2
    have T2 := T1.ext sH
    have ta := (t5.mv eN T1).mv (ExtN.of sH) T2
    refine ⟨tl, _, _, rfl, rfl, ta.tl, by rw [sizeLine_eq]; show 5 < _; decide, ?_⟩
    have t6 := ta.add (.inr ⟨tt, wd 0, o, d, rfl, rfl, wd_word 0, od.small, ht, okO⟩)
    generalize upd _ tl _ = G6 at t6 ⊢
    clear ta t5 sH T2 ht nt s2 sx hd T1 eN e0 R1 bd1 hE hQ
    refine ⟨_, rfl, .inl ⟨rfl, _, SqL.of t6.tl⟩, t6.tabs, fun H1 eN T1 E' Q' hE hQ => ?_⟩
    have e0 := t6.ext.trans eN
    have R1 := rail_ex R e0
    have bd1 := bd H1 (Kp.ex e0)
    refine ⟨_, rfl, _, rfl, r, tr, o, .non, rfl, R1, bd1, (fun dd Hx sx hd => hE CS dd 0 o _ (by decide) Z.s upd_same (fun tt H2 s2 nt ht => ?_))⟩
    have sH := (sx.trans (same_upd hd (.xd [("value", o)]))).trans s2
    have T2 := T1.ext sH
    have ta := (t6.mv eN T1).mv (ExtN.of sH) T2
    refine ⟨tl, _, _, rfl, rfl, ta.tl, by rw [sizeLine_eq]; show 6 < _; decide, ?_⟩
    have t7 := ta.add (.inr ⟨tt, wd 0, o, d, rfl, rfl, wd_word 0, od.small, ht, okO⟩)
    generalize upd _ tl _ = G7 at t7 ⊢
    clear ta t6 sH T2 ht nt s2 sx hd T1 eN e0 R1 bd1 hE hQ
    refine ⟨_, rfl, .inl ⟨rfl, _, SqL.of t7.tl⟩, t7.tabs, fun H1 eN T1 E' Q' hE hQ => ?_⟩
    have e0 := t7.ext.trans eN
    have R1 := rail_ex R e0
    have bd1 := bd H1 (Kp.ex e0)
    refine ⟨_, rfl, _, rfl, _, rfl, one, fun pt npt => ⟨r, tr, o, .ref pt, rfl, R1.same (same_upd npt _), bd1.same (same_upd npt _), (fun dd Hx sx hd => hE CS dd 0 o _ (by decide) Z.s upd_same (fun tt H2 s2 nt ht => ?_))⟩⟩
    have sH := ((same_upd npt (.tup [o])).trans sx).trans ((same_upd hd (.xd [("value", o)])).trans s2)
    have T2 := T1.ext sH
    have ta := (t7.mv eN T1).mv (ExtN.of sH) T2
    refine ⟨tl, _, _, rfl, rfl, ta.tl, by rw [sizeLine_eq]; show 7 < _; decide, ?_⟩
    have t8 := ta.add (.inr ⟨tt, wd 0, o, d, rfl, rfl, wd_word 0, od.small, ht, okO⟩)
    generalize upd _ tl _ = G8 at t8 ⊢
    clear ta t7 sH T2 ht nt s2 sx hd T1 eN e0 R1 bd1 hE hQ
    refine ⟨_, rfl, .inl ⟨rfl, _, SqL.of t8.tl⟩, t8.tabs, fun H1 eN T1 E' Q' hE hQ => ?_⟩
    have e0 := t8.ext.trans eN
    have R1 := rail_ex R e0
    have bd1 := bd H1 (Kp.ex e0)
    refine ⟨_, rfl, _, rfl, _, rfl, r, tr, o, b, rfl, R1, bd1, (fun dd Hx sx hd => hE CS dd 0 o _ (by decide) Z.s upd_same (fun tt H2 s2 nt ht => ?_))⟩
    have sH := (sx.trans (same_upd hd (.xd [("value", o)]))).trans s2
    have T2 := T1.ext sH
    have ta := (t8.mv eN T1).mv (ExtN.of sH) T2
    refine ⟨tl, _, _, rfl, rfl, ta.tl, by rw [sizeLine_eq]; show 8 < _; decide, ?_⟩
    have t9 := ta.add (.inr ⟨tt, wd 0, o, d, rfl, rfl, wd_word 0, od.small, ht, okO⟩)
    generalize upd _ tl _ = G9 at t9 ⊢
    clear ta t8 sH T2 ht nt s2 sx hd T1 eN e0 R1 bd1 hE hQ
    refine ⟨_, rfl, .inl ⟨rfl, _, SqL.of t9.tl⟩, t9.tabs, fun H1 eN T1 E' Q' hE hQ => ?_⟩
    have e0 := t9.ext.trans eN
    have R1 := rail_ex R e0
    have bd1 := bd H1 (Kp.ex e0)
    refine ⟨_, rfl, _, rfl, _, rfl, r, tr, o, b, rfl, R1, bd1, (fun dd Hx sx hd => hE CS dd 0 o _ (by decide) Z.s upd_same (fun tt H2 s2 nt ht => ?_))⟩
    have sH := (sx.trans (same_upd hd (.xd [("value", o)]))).trans s2
    have T2 := T1.ext sH
    have ta := (t9.mv eN T1).mv (ExtN.of sH) T2
    refine ⟨tl, _, _, rfl, rfl, ta.tl, by rw [sizeLine_eq]; show 9 < _; decide, ?_⟩
    have t10 := ta.add (.inr ⟨tt, wd 0, o, d, rfl, rfl, wd_word 0, od.small, ht, okO⟩)
    generalize upd _ tl _ = G10 at t10 ⊢
    clear ta t9 sH T2 ht nt s2 sx hd T1 eN e0 R1 bd1 hE hQ
    refine ⟨_, rfl, ?_⟩
    dsimp only [tNil]
    refine t10.repr (by show 10 ≤ 60; decide) ?_
    refine ⟨_, rfl, two, fun p1 n1 => ?_⟩
    have s1 := same_upd n1 (.tup [V.str "standing", o])
    have h1 := upd_same (H := G10) (a := p1) (o := .tup [V.str "standing", o])
    generalize upd G10 p1 (.tup [V.str "standing", o]) = J1 at s1 h1
    refine ⟨one, fun p2 n2 => ?_⟩
    have s2 := same_upd n2 (.lst [V.ref p1])
    have h2 := upd_same (H := J1) (a := p2) (o := .lst [V.ref p1])
    generalize upd J1 p2 (.lst [V.ref p1]) = J2 at s2 h2
    refine ⟨p2, _, _, rfl, rfl, h2, by decide, by decide, by rw [sizeLine_eq]; show 10 ≤ _; decide, fun p3 n3 => ?_⟩
    have s3 := same_upd n3 (.lst (List.replicate (10 : Int).toNat [V.ref p1]).flatten)
    have h3 : upd J2 p3 (.lst (List.replicate (10 : Int).toNat [V.ref p1]).flatten) p3 = some (.lst [V.ref p1, V.ref p1, V.ref p1, V.ref p1, V.ref p1, V.ref p1, V.ref p1, V.ref p1, V.ref p1, V.ref p1]) := upd_same
    generalize upd J2 p3 (.lst (List.replicate (10 : Int).toNat [V.ref p1]).flatten) = J3 at s3 h3 ⊢
    have sA := (s1.trans s2).trans s3
    have tA := t10.mv (ExtN.of sA) (t10.tabs.ext sA)
    have hh1 := (s2.trans s3) _ _ h1
    have iS : TIt K HB J3 (.ref p1) (.tuple [.str (wd 0), d]) := .inr ⟨p1, wd 0, o, d, rfl, rfl, wd_word 0, od.small, hh1, okO⟩
    dsimp only [tNil]
    refine due_repr tA.ext h3 (.cons iS (.cons iS (.cons iS (.cons iS (.cons iS (.cons iS (.cons iS (.cons iS (.cons iS (.cons iS (.nil))))))))))) (by show 10 ≤ 60; decide) ?_
    refine ⟨rfl, ?_⟩
    refine Eq.mpr (congrArg (fun b => Q (V.bl b) J3) (decide_eq_true ?_)) (k J3 tA.ext tA.tabs)
    rfl
end
end TR

namespace TR
open PySem PySem.Spec PyProof.Rows L2 L2.TT StX ClX
def spLen (C : Addr) : Sp := fun vs H Q _ => ∃ (r t : Addr) (tr : List E2) (a b : Nat), vs = [.ref r, .ref t] ∧ RailAt C H r tr ∧ H t = some (.tup [iv a, iv b]) ∧ a ≤ tr.length ∧ b ≤ tr.length ∧ a ≠ b ∧
  ∀ (l : List Nat) (H' : Hp), SW tr a b l → Same H H' → Q (.int ((l.length : Int) - 1)) H'
section
variable {P : Program} {w : World} {K : PySem.W.Frag} {mg : Str → Option Value} {base : Heap}
theorem sc_len : FnScope ["railway", "standing"] ["railway", "standing"] (defScope s_length_of) := ⟨rfl, rfl, rfl, by decide +kernel, rfl, by decide +kernel, by decide +kernel⟩
theorem ok_len {f fI C : Addr} {fd fdI : FuncData} (F : Fun K "length_of" "length_of" s_length_of f fd) (N : Nm mg) (U : Use P w K mg base CX0 6 "body_of" fI fdI ["railway", "standing"] (spBody C)) : FnOk P w K mg base CX0 7 f fd ["railway", "standing"] (spLen C) := by
  refine F.ok sc_len (fun vs H Q E h => ?_) (fun cdv A outer s H vs Q E hr h => ?_)
  · obtain ⟨r, t, tr, a, b, rfl, _⟩ := h
    rfl
  · obtain ⟨r, t, tr, a, b, rfl, R, ht, ha, hb, ne, k⟩ := h
    refine ⟨_, pss_one (ps_ret (pe_op op_sub (pe_callB call_len_seq (by rfl) N.len PySem.boot_len (pa_cons (pe_use U hr rfl (pa_cons (pv 0) (pa_cons (pv 1) pa_nil))) pa_nil)) pe_int)), ?_⟩
    refine ⟨_, rfl, _, rfl, r, t, tr, a, b, rfl, R, ht, ha, hb, ne, fun l p H' sw s1 np hp => ?_⟩
    refine ⟨p, _, rfl, .inr (SqT.of hp), _, _, rfl, rfl, ?_⟩
    have := k l H' sw s1
    rw [List.length_map]
    exact this
end
end TR

namespace TR
open PySem PySem.Spec PyProof.Rows L2 L2.TT L2.TW StX ClX L2.TL LamX GenW
abbrev qLnR : Str := "_law_lengths_right.<locals>.<lambda>"
/-- a def that may raise, by place and by name -/
structure UseKX (P : Program) (w : World) (K : PySem.W.Frag) (mg : Str → Option Value) (base : Heap) (k : Nat) (x : Str) (f : Addr) (fd : FuncData) (ps ks : List Str) (gg : List Value → List Value) (sp : Sp) : Prop extends UseX P w K mg base k x f fd ps sp where
  kb : ∀ (s : Shared) (ws : List Value), K.In s.heap → ws.length = ks.length → BindsTo s fd ⟨[], ks.zip ws⟩ (ps.zip (gg ws))
theorem ret_wd : Word (Str.ofString "returned") := ⟨by decide +kernel, by decide +kernel, by decide +kernel⟩
theorem iteF2 {c : Bool} {a b : Prop} (h : c = false) (k : b) : if c = true then a else b := by rw [h]; exact k
section
variable {P : Program} {w : World} {K : PySem.W.Frag} {mg : Str → Option Value} {base : Heap}
def spLnR (C dr : Addr) (K : PySem.W.Frag) (T : List (Addr × Str)) : Sp := fun vs H Q _ => ∃ (r p : Addr) (tr : List E2) (l : List Nat) (b : V) (d : PyData), vs = [.ref r, .ref p, b] ∧ RailAt C H r tr ∧ H p = some (.tup [iv (hd0 l), iv (lt0 l)]) ∧ Bd tr l ∧ Tabs T H ∧ OddV K dr H b d ∧ (∀ H', Kp dr H H' → BadL K H' b) ∧
  ∀ H', ExtN H H' → Tabs T H' → Q (.bl true) H'
abbrev NLnR : List Str := ["road", "pose", "bad", "told", "many"]
theorem sc_lnr : FnScope NLnR ["road", "pose", "bad"] (defScope s_law_lengths_right) := ⟨rfl, rfl, rfl, by decide +kernel, rfl, by decide +kernel, by decide +kernel⟩
theorem ok_lnr {f c Pt g f1 f2 f3 fL C CR CU CM CS CL CV CB CP CT dr : Addr} {T : List (Addr × Str)} {fd fdg fd1 fd2 fd3 fdL : FuncData} (F : FunC K "_law_lengths_right" "_law_lengths_right" s_law_lengths_right f fd c) (TB : TabB base mg c Pt) (hmT : (Pt, qLnR) ∈ T) (hu : ∀ p ∈ T, p.1 = Pt → p.2 = qLnR)
    (N : Nm mg) (S : Fun K "_law_said" "_law_said" s_law_said g fdg) (hb : Binds K fdg ["call"] []) (W : SayF K mg CR CU CM CS CL CV CB CP CT) (m : mg "_law_said" = some (.ref g)) (Z : SCs K CR CU CM CS CL CV CB CP CT)
    (GS : GenU P w K mg base 7 "standings" f1 fd1 ["railway", "length"] ["railway", "length"] id (spStdsX CL K)) (U2 : UseX P w K mg base 8 "front_part" f2 fd2 ["railway", "standing", "length"] (spL3 C CL K)) (U3 : UseKX P w K mg base 8 "rear_part" f3 fd3 ["railway", "standing", "length"] ["length", "standing", "railway"] rv3 (spL3 C CL K))
    (U4 : Use P w K mg base CX0 8 "front_part" f2 fd2 ["railway", "standing", "length"] (spFront C)) (UL : Use P w K mg base CX0 7 "length_of" fL fdL ["railway", "standing"] (spLen C)) :
    FnG P w K mg base CX0 15 f fd ["road", "pose", "bad"] (spLnR C dr K T) := by
  refine FunC.okG F sc_lnr (fun vs H Q E h => ?_) (fun A outer s H vs Q E hG hr h => ?_)
  · obtain ⟨r, p, tr, l, b, d, rfl, _⟩ := h
    rfl
  · obtain ⟨r, p, tr, l, b, d, rfl, R, hp, bd, hT, od, bl, k⟩ := h
    have hu64 : (A.deeper (envOfC "_law_lengths_right" (defScope s_law_lengths_right) s.heap.objs.size f (.ref c))).units + 64 < cLine := hr.units
    refine ⟨_, pss_cons (ps_set (i := 3) sc_lnr.nd rfl (.inl rfl) (pe_lst (pa_cons (pe_said (k := 10) S hb W m (by rfl) TB rfl hmT hu hr (lamS_by (sc := defScope s_law_lengths_right) (by decide +kernel)) rfl (fun _ _ _ _ _ => rfl) (fun A outer s H E f c' hr2 => (pe_listG (PGenW.plain (pgenW_call (E := (fun cls d H' => E cls d H' ∧ cls = .ref CL)) GS.G (hr2.mono (by decide)) (by rfl) GS.m GS.kp GS.b (pa_cons (pv 0) (pa_cons (pv 2) pa_nil)))) (passes_call (takes_of rfl rfl rfl rfl) (fun _ _ _ _ h => h.1)) (fun cls d H' h => by rw [h.2]; exact Z.nl) (hr2.mono (by decide)) (by rfl) N.list PyProof.Rows.boot_list))) pa_nil)))
      (pss_cons (ps_expr (pe_bm PySem.F.plainAttrs_list PySem.F.slot_list_append PySem.F.type_list_append mt_append (pv 3) (pa_cons (pe_said (k := 10) S hb W m (by rfl) TB rfl hmT hu hr (lamS_by (sc := defScope s_law_lengths_right) (by decide +kernel)) rfl (fun _ _ _ _ _ => rfl) (fun A outer s H E f c' hr2 => (pe_call U2.G (hr2.mono (by decide)) (by rfl) U2.m U2.kp U2.b .nil (passes_call (takes_of rfl rfl rfl rfl) (fun _ _ _ _ h => h)) (pa_cons (pv 0) (pa_cons (pv 1) (pa_cons (pv 2) pa_nil)))))) pa_nil)))
      (pss_cons (ps_expr (pe_bm PySem.F.plainAttrs_list PySem.F.slot_list_append PySem.F.type_list_append mt_append (pv 3) (pa_cons (pe_said (k := 10) S hb W m (by rfl) TB rfl hmT hu hr (lamS_by (sc := defScope s_law_lengths_right) (by decide +kernel)) rfl (fun _ _ _ _ _ => rfl) (fun A outer s H E f c' hr2 => (pe_callKW0 (hV := rv3) U3.G (hr2.mono (by decide)) U3.kb (fun hl r => rv3_vals hl r) (passes_call (takes_of rfl rfl rfl rfl) (fun _ _ _ _ h => h)) (by rfl) U3.m U3.kp (pk_cons (pv 2) (pk_cons (pv 1) (pk_cons (pv 0) pk_nil)))))) pa_nil)))
      (pss_cons (ps_if (pt_cmpR op_ne (pe_callB (call_reprS hG hu64) (by rfl) N.repr PyProof.Rows.boot_repr (pa_cons (pv 3) pa_nil)) (pe_callB (call_reprS hG hu64) (by rfl) N.repr PyProof.Rows.boot_repr (pa_cons (pe_op op_rep (pe_lst (pa_cons (pe_tup (pa_cons pe_str (pa_cons (pv 2) pa_nil))) pa_nil)) pe_int) pa_nil)) (nomark _)) (pss_one (ps_ret pe_bl)) pss_nil)
      (pss_cons (ps_set (i := 4) sc_lnr.nd rfl (.inr rfl) (pe_op op_add (pe_use UL (hr.mono (by decide)) (by rfl) (pa_cons (pv 0) (pa_cons (pv 1) pa_nil))) pe_int))
      (pss_cons (ps_set (i := 3) sc_lnr.nd rfl (.inl rfl) (pe_lst (pa_cons (pe_said (k := 10) S hb W m (by rfl) TB rfl hmT hu hr (lamS_by (sc := defScope s_law_lengths_right) (by decide +kernel)) rfl (fun _ _ _ _ _ => rfl) (fun A outer s H E f c' hr2 => (pe_call U2.G (hr2.mono (by decide)) (by rfl) U2.m U2.kp U2.b .nil (passes_call (takes_of rfl rfl rfl rfl) (fun _ _ _ _ h => h)) (pa_cons (pv 0) (pa_cons (pv 1) (pa_cons (pv 4) pa_nil)))))) pa_nil)))
      (pss_cons (ps_expr (pe_bm PySem.F.plainAttrs_list PySem.F.slot_list_append PySem.F.type_list_append mt_append (pv 3) (pa_cons (pe_said (k := 10) S hb W m (by rfl) TB rfl hmT hu hr (lamS_by (sc := defScope s_law_lengths_right) (by decide +kernel)) rfl (fun _ _ _ _ _ => rfl) (fun A outer s H E f c' hr2 => (pe_call U3.toUseX.G (hr2.mono (by decide)) (by rfl) U3.toUseX.m U3.toUseX.kp U3.toUseX.b .nil (passes_call (takes_of rfl rfl rfl rfl) (fun _ _ _ _ h => h)) (pa_cons (pv 0) (pa_cons (pv 1) (pa_cons (pe_op op_pow pe_int pe_int) pa_nil)))))) pa_nil)))
      (pss_cons (ps_expr (pe_bm PySem.F.plainAttrs_list PySem.F.slot_list_append PySem.F.type_list_append mt_append (pv 3) (pa_cons (pe_said (k := 10) S hb W m (by rfl) TB rfl hmT hu hr (lamS_by (sc := defScope s_law_lengths_right) (by decide +kernel)) rfl (fun _ _ _ _ _ => rfl) (fun A outer s H E f c' hr2 => (pe_use U4 (hr2.mono (by decide)) (by rfl) (pa_cons (pv 0) (pa_cons (pv 1) (pa_cons (pe_op op_sub (pv 4) pe_int) pa_nil)))))) pa_nil)))
      (pss_one (ps_ret (pe_cmpR op_eq (pe_callB (call_reprS hG hu64) (by rfl) N.repr PyProof.Rows.boot_repr (pa_cons (pv 3) pa_nil)) (pe_callB (call_reprS hG hu64) (by rfl) N.repr PyProof.Rows.boot_repr (pa_cons (pe_lst (pa_cons (pe_tup (pa_cons pe_str (pa_cons (pv 4) pa_nil))) (pa_cons (pe_tup (pa_cons pe_str (pa_cons (pe_op op_pow pe_int pe_int) pa_nil))) (pa_cons pe_str pa_nil)))) pa_nil)) (nomark _))))))))))), ?_⟩
    have one : (1 : Nat) ≤ sizeLine := by rw [sizeLine_eq]; decide
    have two : (2 : Nat) ≤ sizeLine := by rw [sizeLine_eq]; decide
    have few := R.few
    have TL := R.T
    have b2 := bd.two
    have l1k : l.length ≤ 1000 := by
      have := nd_len bd.sw.nd bd.le
      omega
    have e40 : (10 : Int) ^ (40 : Int).toNat = 10000000000000000000000000000000000000000 := by decide
    have e41 : (10 : Nat) ^ 41 = 100000000000000000000000000000000000000000 := by decide
    refine ⟨hT, fun H1 eN T1 E' Q' hE hQ => ?_⟩
    have e0 : ExtN H H1 := eN
    have R1 := rail_ex R e0
    have p1 := tup_ex e0 hp
    have bl1 := bl H1 (Kp.ex e0)
    refine ⟨_, rfl, _, rfl, b, .ref r, rfl, bl1, (fun dd Hx sx hd => ⟨hE CL dd 1 b _ (by decide) Z.l upd_same (fun tt HB s2 nt ht => ?_), rfl⟩)⟩
    have sH := (sx.trans (same_upd hd (.xd [("value", b)]))).trans s2
    have T2 := T1.ext sH
    have eHB : ExtN H HB := e0.trans (ExtN.of sH)
    refine ⟨one, fun tl ntl => ?_⟩
    have t1 := Tol.start ntl T2 (.inr ⟨tt, wd 1, b, d, rfl, rfl, wd_word 1, od.small, ht, fun H' e => od.sk (eHB.trans e)⟩)
    generalize upd HB tl (.lst [V.ref tt]) = G1 at t1 ⊢
    clear sH T2 ht nt s2 sx hd T1 eN e0 R1 p1 bl1 hE hQ ntl
    refine ⟨_, rfl, .inl ⟨rfl, _, SqL.of t1.tl⟩, t1.tabs, fun H1 eN T1 E' Q' hE hQ => ?_⟩
    have e0 := eHB.trans (t1.ext.trans eN)
    have R1 := rail_ex R e0
    have p1 := tup_ex e0 hp
    have bl1 := bl H1 (Kp.ex e0)
    refine ⟨_, rfl, _, rfl, _, rfl, r, p, tr, l, b, rfl, R1, p1, bd, .inl bl1, (fun dd Hx sx hd => hE CL dd 1 b _ (by decide) Z.l upd_same (fun tt H2 s2 nt ht => ?_))⟩
    have sH := (sx.trans (same_upd hd (.xd [("value", b)]))).trans s2
    have T2 := T1.ext sH
    have ta := (t1.mv eN T1).mv (ExtN.of sH) T2
    refine ⟨tl, _, _, rfl, rfl, ta.tl, by rw [sizeLine_eq]; show 1 < _; decide, ?_⟩
    have t2 := ta.add (.inr ⟨tt, wd 1, b, d, rfl, rfl, wd_word 1, od.small, ht, fun H' e => od.sk (eHB.trans e)⟩)
    generalize upd _ tl _ = G2 at t2 ⊢
    clear ta t1 sH T2 ht nt s2 sx hd T1 eN e0 R1 p1 bl1 hE hQ
    refine ⟨_, rfl, .inl ⟨rfl, _, SqL.of t2.tl⟩, t2.tabs, fun H1 eN T1 E' Q' hE hQ => ?_⟩
    have e0 := eHB.trans (t2.ext.trans eN)
    have R1 := rail_ex R e0
    have p1 := tup_ex e0 hp
    have bl1 := bl H1 (Kp.ex e0)
    refine ⟨_, rfl, _, rfl, _, rfl, rfl, r, p, tr, l, b, rfl, R1, p1, bd, .inl bl1, (fun dd Hx sx hd => hE CL dd 1 b _ (by decide) Z.l upd_same (fun tt H2 s2 nt ht => ?_))⟩
    have sH := (sx.trans (same_upd hd (.xd [("value", b)]))).trans s2
    have T2 := T1.ext sH
    have ta := (t2.mv eN T1).mv (ExtN.of sH) T2
    refine ⟨tl, _, _, rfl, rfl, ta.tl, by rw [sizeLine_eq]; show 2 < _; decide, ?_⟩
    have t3 := ta.add (.inr ⟨tt, wd 1, b, d, rfl, rfl, wd_word 1, od.small, ht, fun H' e => od.sk (eHB.trans e)⟩)
    generalize upd _ tl _ = G3 at t3 ⊢
    clear ta t2 sH T2 ht nt s2 sx hd T1 eN e0 R1 p1 bl1 hE hQ
    refine ⟨_, rfl, ?_⟩
    dsimp only [tNil]
    refine t3.repr (by show 3 ≤ 60; decide) ?_
    refine ⟨_, rfl, two, fun p1 n1 => ?_⟩
    have s1 := same_upd n1 (.tup [V.str "length", b])
    have h1 := upd_same (H := G3) (a := p1) (o := .tup [V.str "length", b])
    generalize upd G3 p1 (.tup [V.str "length", b]) = J1 at s1 h1
    refine ⟨one, fun p2 n2 => ?_⟩
    have s2 := same_upd n2 (.lst [V.ref p1])
    have h2 := upd_same (H := J1) (a := p2) (o := .lst [V.ref p1])
    generalize upd J1 p2 (.lst [V.ref p1]) = J2 at s2 h2
    refine ⟨p2, _, _, rfl, rfl, h2, by decide, by decide, by rw [sizeLine_eq]; show 3 ≤ _; decide, fun p3 n3 => ?_⟩
    have s3 := same_upd n3 (.lst (List.replicate (3 : Int).toNat [V.ref p1]).flatten)
    have h3 : upd J2 p3 (.lst (List.replicate (3 : Int).toNat [V.ref p1]).flatten) p3 = some (.lst [V.ref p1, V.ref p1, V.ref p1]) := upd_same
    generalize upd J2 p3 (.lst (List.replicate (3 : Int).toNat [V.ref p1]).flatten) = J3 at s3 h3 ⊢
    have sA := (s1.trans s2).trans s3
    have tA := t3.mv (ExtN.of sA) (t3.tabs.ext sA)
    have hh1 := (s2.trans s3) _ _ h1
    have iS : TIt K HB J3 (.ref p1) (.tuple [.str (wd 1), d]) := .inr ⟨p1, wd 1, b, d, rfl, rfl, wd_word 1, od.small, hh1, fun H' e => od.sk (eHB.trans e)⟩
    dsimp only [tNil]
    refine due_repr tA.ext h3 (.cons iS (.cons iS (.cons iS .nil))) (by show 3 ≤ 60; decide) ?_
    refine ⟨rfl, _, rfl, ?_⟩
    refine iteF2 ?_ ?_
    · exact congrArg (! ·) (decide_eq_true (by rfl))
    have eJ : ExtN H J3 := eHB.trans tA.ext
    have TJ := tA.tabs
    clear iS hh1 tA sA h3 s3 n3 h2 s2 n2 h1 s1 n1 t3
    have RJ := rail_ex R eJ
    refine ⟨_, rfl, _, rfl, r, p, tr, hd0 l, lt0 l, rfl, RJ, tup_ex eJ hp, bd.hle, bd.lle, bd.ne, ?_⟩
    refine fun l' J4 sw s4 => ⟨_, _, rfl, rfl, ?_⟩
    cases SW.uniq TL sw bd.sw
    rw [show (fun i j => V.int (i + j)) ((l.length : Int) - 1) (1 : Int) = iv l.length from by show V.int _ = V.int _; congr 1; omega]
    have eK := eJ.trans (ExtN.of s4)
    have TK := TJ.ext s4
    clear eJ TJ RJ s4 sw eHB
    have oL : OddV K dr H (iv l.length) (di l.length) := OddV.int (by rw [e41]; show ((l.length : Int)).natAbs < _; omega)
    have oP : OddV K dr H (V.int (10 ^ (40 : Int).toNat)) (.int (10 ^ (40 : Int).toNat)) := OddV.int (by rw [e40, e41]; decide)
    refine ⟨TK, fun H1 eN T1 E' Q' hE hQ => ?_⟩
    have e0 : ExtN H H1 := eK.trans eN
    have R1 := rail_ex R e0
    have p1 := tup_ex e0 hp
    have bl1 := trivial
    refine ⟨_, rfl, _, rfl, _, rfl, r, p, tr, l, iv l.length, rfl, R1, p1, bd, .inr ⟨_, rfl, by omega⟩, (fun dd Hx sx hd => hE CL dd 1 (iv l.length) _ (by decide) Z.l upd_same (fun tt HC s2 nt ht => ?_))⟩
    have sH := (sx.trans (same_upd hd (.xd [("value", (iv l.length))]))).trans s2
    have T2 := T1.ext sH
    have eHC : ExtN H HC := e0.trans (ExtN.of sH)
    refine ⟨one, fun tl ntl => ?_⟩
    have t1 := Tol.start ntl T2 (.inr ⟨tt, wd 1, iv l.length, di l.length, rfl, rfl, wd_word 1, oL.small, ht, fun H' e => oL.sk (eHC.trans e)⟩)
    generalize upd HC tl (.lst [V.ref tt]) = G1 at t1 ⊢
    clear sH T2 ht nt s2 sx hd T1 eN e0 R1 p1 bl1 hE hQ ntl
    refine ⟨_, rfl, .inl ⟨rfl, _, SqL.of t1.tl⟩, t1.tabs, fun H1 eN T1 E' Q' hE hQ => ?_⟩
    have e0 := eHC.trans (t1.ext.trans eN)
    have R1 := rail_ex R e0
    have p1 := tup_ex e0 hp
    have bl1 := trivial
    refine ⟨_, rfl, _, rfl, _, _, rfl, rfl, ⟨by decide, by decide, by decide⟩, r, p, tr, l, V.int (10 ^ (40 : Int).toNat), rfl, R1, p1, bd, .inr ⟨_, rfl, by rw [e40]; omega⟩, (fun dd Hx sx hd => hE CL dd 1 (V.int (10 ^ (40 : Int).toNat)) _ (by decide) Z.l upd_same (fun tt H2 s2 nt ht => ?_))⟩
    have sH := (sx.trans (same_upd hd (.xd [("value", (V.int (10 ^ (40 : Int).toNat)))]))).trans s2
    have T2 := T1.ext sH
    have ta := (t1.mv eN T1).mv (ExtN.of sH) T2
    refine ⟨tl, _, _, rfl, rfl, ta.tl, by rw [sizeLine_eq]; show 1 < _; decide, ?_⟩
    have t2 := ta.add (.inr ⟨tt, wd 1, V.int (10 ^ (40 : Int).toNat), .int (10 ^ (40 : Int).toNat), rfl, rfl, wd_word 1, oP.small, ht, fun H' e => oP.sk (eHC.trans e)⟩)
    generalize upd _ tl _ = G2 at t2 ⊢
    clear ta t1 sH T2 ht nt s2 sx hd T1 eN e0 R1 p1 bl1 hE hQ
    refine ⟨_, rfl, .inl ⟨rfl, _, SqL.of t2.tl⟩, t2.tabs, fun H1 eN T1 E' Q' hE hQ => ?_⟩
    have e0 := eHC.trans (t2.ext.trans eN)
    have R1 := rail_ex R e0
    have p1 := tup_ex e0 hp
    refine ⟨_, rfl, _, rfl, _, rfl, _, _, rfl, rfl, r, p, tr, hd0 l, lt0 l, l.length - 1, ?_, R1, p1, bd.hle, bd.lle, bd.ne, by omega, fun l' sw => (by cases SW.uniq TL sw bd.sw; omega), fun l' x pz H2 sw hx s2 nz hz => hQ _ _ ?_⟩
    · exact congrArg (fun z => [V.ref r, V.ref p, V.int z]) (show ((l.length : Nat) : Int) - 1 = ((l.length - 1 : Nat) : Int) by omega)
    have T2 := T1.ext s2
    have ta := (t2.mv eN T1).mv (ExtN.of s2) T2
    refine ⟨tl, _, _, rfl, rfl, ta.tl, by rw [sizeLine_eq]; show 2 < _; decide, ?_⟩
    have t3 := ta.add (x := V.str "returned") (.inl ⟨_, rfl, rfl, ret_wd, by show 0 ≤ 12; decide⟩)
    generalize upd _ tl _ = G3 at t3 ⊢
    clear ta t2 T2 s2 T1 eN e0 R1 p1 hE hQ
    refine ⟨_, rfl, ?_⟩
    dsimp only [tNil]
    refine t3.repr (by show 3 ≤ 60; decide) ?_
    refine ⟨_, rfl, two, fun p1 n1 => ?_⟩
    have s1 := same_upd n1 (.tup [V.str "length", iv l.length])
    have h1 := upd_same (H := G3) (a := p1) (o := .tup [V.str "length", iv l.length])
    generalize upd G3 p1 (.tup [V.str "length", iv l.length]) = J1 at s1 h1 ⊢
    refine ⟨_, _, rfl, rfl, ⟨by decide, by decide, by decide⟩, two, fun p2 n2 => ?_⟩
    have s2 := same_upd n2 (.tup [V.str "length", V.int (10 ^ (40 : Int).toNat)])
    have h2 := upd_same (H := J1) (a := p2) (o := .tup [V.str "length", V.int (10 ^ (40 : Int).toNat)])
    generalize upd J1 p2 (.tup [V.str "length", V.int (10 ^ (40 : Int).toNat)]) = J2 at s2 h2 ⊢
    refine ⟨by rw [sizeLine_eq]; show 3 ≤ _; decide, fun p3 n3 => ?_⟩
    have s3 := same_upd n3 (.lst [V.ref p1, V.ref p2, V.str "returned"])
    have h3 := upd_same (H := J2) (a := p3) (o := .lst [V.ref p1, V.ref p2, V.str "returned"])
    generalize upd J2 p3 (.lst [V.ref p1, V.ref p2, V.str "returned"]) = J3 at s3 h3 ⊢
    have sA := (s1.trans s2).trans s3
    have tA := t3.mv (ExtN.of sA) (t3.tabs.ext sA)
    have iL : TIt K HC J3 (.ref p1) (.tuple [.str (wd 1), di l.length]) := .inr ⟨p1, wd 1, iv l.length, _, rfl, rfl, wd_word 1, oL.small, (s2.trans s3) _ _ h1, fun H' e => oL.sk (eHC.trans e)⟩
    have iP : TIt K HC J3 (.ref p2) (.tuple [.str (wd 1), .int (10 ^ (40 : Int).toNat)]) := .inr ⟨p2, wd 1, _, _, rfl, rfl, wd_word 1, oP.small, s3 _ _ h2, fun H' e => oP.sk (eHC.trans e)⟩
    have iR : TIt K HC J3 (.str "returned") (.str "returned") := .inl ⟨_, rfl, rfl, ret_wd, by show 0 ≤ 12; decide⟩
    dsimp only [tNil]
    refine due_repr tA.ext h3 (.cons iL (.cons iP (.cons iR .nil))) (by show 3 ≤ 60; decide) ?_
    refine ⟨rfl, ?_⟩
    refine Eq.mpr (congrArg (fun b => Q (V.bl b) J3) (decide_eq_true ?_)) (k J3 (eHC.trans tA.ext) tA.tabs)
    rfl
end
end TR

namespace TR
open PySem PySem.Spec PyProof.Rows L2 L2.TT L2.TW StX ClX L2.TL LamX GenW
abbrev qMvR : Str := "_law_moves_right.<locals>.<lambda>"
/-- a value that is no move -/
def NoM (K : PySem.W.Frag) (H : Hp) (n : Nat) (v : V) : Prop := ∃ o, PV K H v o ∧ flat1 o ∧ isMv o n = false
theorem isMv_hd (n : Nat) : isMv (some (V.str "head", iv 0)) n = true := by
  show (inV (V.str "head") [.str "head", .str "tail"] && inR (iv 0) 0 n) = true
  rw [show inV (V.str "head") [.str "head", .str "tail"] = true by decide +kernel]
  show (decide ((0 : Int) ≤ ((0 : Nat) : Int)) && decide (((0 : Nat) : Int) ≤ (n : Int))) = true
  rw [decide_eq_true (by omega), decide_eq_true (by omega)]
  rfl
theorem isMv_tl {n : Nat} (h : 1 ≤ n) : isMv (some (V.str "tail", iv 1)) n = true := by
  show (inV (V.str "tail") [.str "head", .str "tail"] && inR (iv 1) 0 n) = true
  rw [show inV (V.str "tail") [.str "head", .str "tail"] = true by decide +kernel]
  show (decide ((0 : Int) ≤ ((1 : Nat) : Int)) && decide (((1 : Nat) : Int) ≤ (n : Int))) = true
  rw [decide_eq_true (by omega), decide_eq_true (by omega)]
  rfl
theorem bad_no {n : Nat} {o : Option (V × V)} {os : List (Option (V × V))} (h : isMv o n = false) : badMv n (o :: os) = some 0 := by
  show (if isMv o n = true then _ else _) = _
  rw [if_neg (by rw [h]; decide)]
theorem bad_ok {n i : Nat} {o : Option (V × V)} {os : List (Option (V × V))} (h : isMv o n = true) (k : badMv n os = some i) : badMv n (o :: os) = some (i + 1) := by
  show (if isMv o n = true then (badMv n os).map (· + 1) else some 0) = _
  rw [if_pos h, k]
  rfl
theorem flat_mv {x : Str} {y : V} : flat1 (some (V.str x, y)) := fun a b e => by
  cases e
  rfl
theorem mv_pv {K : PySem.W.Frag} {H : Hp} {a : Addr} {x : Str} {m : Nat} (h : H a = some (.tup [.str x, iv m])) : PV K H (.ref a) (some (V.str x, iv m)) := .two h (.inr .str) (.inl ⟨_, rfl⟩)
theorem flat_all {os : List (Option (V × V))} : (∀ o ∈ os, flat1 o) → ∀ {o}, flat1 o → ∀ z ∈ o :: os, flat1 z := fun h o ho z hz => by
  rcases List.mem_cons.mp hz with rfl | hz
  · exact ho
  · exact h z hz
theorem flat_nil : ∀ o ∈ ([] : List (Option (V × V))), flat1 o := fun o ho => (by cases ho)
theorem OddV.none {K : PySem.W.Frag} {dr : Addr} {H : Hp} : OddV K dr H .non .none := ⟨fun _ _ => .inl ⟨.non, rfl⟩, rfl, rfl, by decide, by decide⟩
theorem Tol.add2 {K : PySem.W.Frag} {T : List (Addr × Str)} {H0 H D : Hp} {tl : Addr} {xs : List V} {ds : List PyData} (t : Tol K T H0 H tl xs ds) {x : V} {d : PyData} (im : TIt K H0 H x d) (k : Kp tl D H) : Tol K T H0 (upd H tl (.lst (xs ++ [x]))) tl (xs ++ [x]) (ds ++ [d]) ∧ Kp tl D (upd H tl (.lst (xs ++ [x]))) :=
  ⟨t.add im, fun b o e n z => by rw [upd_ne n]; exact k b o e n z⟩
section
variable {P : Program} {w : World} {K : PySem.W.Frag} {mg : Str → Option Value} {base : Heap}
def spMvR (C dr : Addr) (K : PySem.W.Frag) (T : List (Addr × Str)) : Sp := fun vs H Q _ => ∃ (r p : Addr) (tr : List E2) (l : List Nat) (o b : V), vs = [.ref r, .ref p, o, b] ∧ RailAt C H r tr ∧ 1 ≤ tr.length ∧ H p = some (.tup [iv (hd0 l), iv (lt0 l)]) ∧ Bd tr l ∧ Tabs T H ∧ (∀ H', Kp dr H H' → NoM K H' tr.length o) ∧ (∀ H', Kp dr H H' → NoM K H' tr.length b) ∧
  ∀ H', ExtN H H' → Tabs T H' → Q (.bl true) H'
abbrev NMvR : List Str := ["road", "pose", "odd", "far", "step", "still", "told", "due"]
theorem sc_mvr : FnScope NMvR ["road", "pose", "odd", "far"] (defScope s_law_moves_right) := ⟨rfl, rfl, rfl, by decide +kernel, rfl, by decide +kernel, by decide +kernel⟩
theorem ok_mvr {f c Pt g f5 f6 f7 C CR CU CM CS CL CV CB CP CT dr : Addr} {T : List (Addr × Str)} {fd fdg fd6 fd7 : FuncData} (F : FunC K "_law_moves_right" "_law_moves_right" s_law_moves_right f fd c) (TB : TabB base mg c Pt) (hmT : (Pt, qMvR) ∈ T) (hu : ∀ p ∈ T, p.1 = Pt → p.2 = qMvR)
    (N : Nm mg) (S : Fun K "_law_said" "_law_said" s_law_said g fdg) (hb : Binds K fdg ["call"] []) (W : SayF K mg CR CU CM CS CL CV CB CP CT) (m : mg "_law_said" = some (.ref g)) (Z : SCs K CR CU CM CS CL CV CB CP CT)
    (M5 : UseR P w K mg base 9 "moved" f5 (spMsM C CV K)) (U6 : UseKX P w K mg base 8 "moved_along" f6 fd6 ["railway", "standing", "moves"] ["moves", "standing", "railway"] rv3 (spM3 C CV K)) (U7 : UseKX P w K mg base 8 "opposite_moves" f7 fd7 ["railway", "standing", "moves"] ["moves", "standing", "railway"] rv3 (spM3 C CV K)) :
    FnG P w K mg base CX0 15 f fd ["road", "pose", "odd", "far"] (spMvR C dr K T) := by
  refine FunC.okG F sc_mvr (fun vs H Q E h => ?_) (fun A outer s H vs Q E hG hr h => ?_)
  · obtain ⟨r, p, tr, l, o, b, rfl, _⟩ := h
    rfl
  · obtain ⟨r, p, tr, l, o, b, rfl, R, tr1, hp, bd, hT, no, nb, k⟩ := h
    have hu64 : (A.deeper (envOfC "_law_moves_right" (defScope s_law_moves_right) s.heap.objs.size f (.ref c))).units + 64 < cLine := hr.units
    refine ⟨_, pss_cons (ps_asg (pe_tup (pa_cons (pe_tup (pa_cons pe_str (pa_cons pe_int pa_nil))) (pa_cons (pe_tup (pa_cons pe_str (pa_cons pe_int pa_nil))) pa_nil))) (pg_tup rfl (pgs_cons (pg_name (i := 4) sc_mvr.nd rfl (.inr rfl)) (pgs_cons (pg_name (i := 5) sc_mvr.nd rfl (.inr rfl)) pgs_nil))))
      (pss_cons (ps_set (i := 6) sc_mvr.nd rfl (.inl rfl) (pe_lst (pa_cons (pe_said (k := 10) S hb W m (by rfl) TB rfl hmT hu hr (lamS_by (sc := defScope s_law_moves_right) (by decide +kernel)) rfl (fun _ _ _ _ _ => rfl) (fun A outer s H E f c' hr2 => (pe_callR M5.g (hr2.mono (by decide)) M5.kp (by rfl) M5.m (passes_call (takes_of rfl rfl rfl rfl) (fun _ _ _ _ h => h)) (pa_cons (pv 0) (pa_cons (pv 1) (pa_cons (pv 2) pa_nil)))))) pa_nil)))
      (pss_cons (ps_expr (pe_bm PySem.F.plainAttrs_list PySem.F.slot_list_append PySem.F.type_list_append mt_append (pv 6) (pa_cons (pe_said (k := 10) S hb W m (by rfl) TB rfl hmT hu hr (lamS_by (sc := defScope s_law_moves_right) (by decide +kernel)) rfl (fun _ _ _ _ _ => rfl) (fun A outer s H E f c' hr2 => (pe_callR M5.g (hr2.mono (by decide)) M5.kp (by rfl) M5.m (passes_call (takes_of rfl rfl rfl rfl) (fun _ _ _ _ h => h)) (pa_cons (pv 0) (pa_cons (pv 1) (pa_cons (pv 4) (pa_cons (pv 2) (pa_cons (pv 3) pa_nil)))))))) pa_nil)))
      (pss_cons (ps_expr (pe_bm PySem.F.plainAttrs_list PySem.F.slot_list_append PySem.F.type_list_append mt_append (pv 6) (pa_cons (pe_said (k := 10) S hb W m (by rfl) TB rfl hmT hu hr (lamS_by (sc := defScope s_law_moves_right) (by decide +kernel)) rfl (fun _ _ _ _ _ => rfl) (fun A outer s H E f c' hr2 => (pe_call U6.G (hr2.mono (by decide)) (by rfl) U6.m U6.kp U6.b .nil (passes_call (takes_of rfl rfl rfl rfl) (fun _ _ _ _ h => h)) (pa_cons (pv 0) (pa_cons (pv 1) (pa_cons (pe_tup (pa_cons (pv 4) (pa_cons (pv 5) (pa_cons (pv 4) (pa_cons (pv 2) pa_nil))))) pa_nil)))))) pa_nil)))
      (pss_cons (ps_expr (pe_bm PySem.F.plainAttrs_list PySem.F.slot_list_append PySem.F.type_list_append mt_append (pv 6) (pa_cons (pe_said (k := 10) S hb W m (by rfl) TB rfl hmT hu hr (lamS_by (sc := defScope s_law_moves_right) (by decide +kernel)) rfl (fun _ _ _ _ _ => rfl) (fun A outer s H E f c' hr2 => (pe_call U7.G (hr2.mono (by decide)) (by rfl) U7.m U7.kp U7.b .nil (passes_call (takes_of rfl rfl rfl rfl) (fun _ _ _ _ h => h)) (pa_cons (pv 0) (pa_cons (pv 1) (pa_cons (pe_tup (pa_cons (pv 2) (pa_cons (pv 3) pa_nil))) pa_nil)))))) pa_nil)))
      (pss_cons (ps_expr (pe_bm PySem.F.plainAttrs_list PySem.F.slot_list_append PySem.F.type_list_append mt_append (pv 6) (pa_cons (pe_said (k := 10) S hb W m (by rfl) TB rfl hmT hu hr (lamS_by (sc := defScope s_law_moves_right) (by decide +kernel)) rfl (fun _ _ _ _ _ => rfl) (fun A outer s H E f c' hr2 => (pe_call U7.G (hr2.mono (by decide)) (by rfl) U7.m U7.kp U7.b .nil (passes_call (takes_of rfl rfl rfl rfl) (fun _ _ _ _ h => h)) (pa_cons (pv 0) (pa_cons (pv 1) (pa_cons (pe_tup (pa_cons (pv 4) (pa_cons (pv 2) pa_nil))) pa_nil)))))) pa_nil)))
      (pss_cons (ps_set (i := 7) sc_mvr.nd rfl (.inl rfl) (pe_lst (pa_cons (pe_tup (pa_cons pe_str (pa_cons pe_int pa_nil))) (pa_cons (pe_tup (pa_cons pe_str (pa_cons pe_int pa_nil))) (pa_cons (pe_tup (pa_cons pe_str (pa_cons pe_int pa_nil))) (pa_cons (pe_tup (pa_cons pe_str (pa_cons pe_int pa_nil))) (pa_cons (pe_tup (pa_cons pe_str (pa_cons pe_int pa_nil))) pa_nil)))))))
      (pss_cons (ps_expr (pe_bm PySem.F.plainAttrs_list PySem.F.slot_list_append PySem.F.type_list_append mt_append (pv 6) (pa_cons (pe_said (k := 10) S hb W m (by rfl) TB rfl hmT hu hr (lamS_by (sc := defScope s_law_moves_right) (by decide +kernel)) rfl (fun _ _ _ _ _ => rfl) (fun A outer s H E f c' hr2 => (pe_call U6.G (hr2.mono (by decide)) (by rfl) U6.m U6.kp U6.b .nil (passes_call (takes_of rfl rfl rfl rfl) (fun _ _ _ _ h => h)) (pa_cons (pv 0) (pa_cons (pv 1) (pa_cons (pe_lst (pa_cons (pv 4) pa_nil)) pa_nil)))))) pa_nil)))
      (pss_cons (ps_expr (pe_bm PySem.F.plainAttrs_list PySem.F.slot_list_append PySem.F.type_list_append mt_append (pv 6) (pa_cons (pe_said (k := 10) S hb W m (by rfl) TB rfl hmT hu hr (lamS_by (sc := defScope s_law_moves_right) (by decide +kernel)) rfl (fun _ _ _ _ _ => rfl) (fun A outer s H E f c' hr2 => (pe_callKW0 (hV := rv3) U6.G (hr2.mono (by decide)) U6.kb (fun hl r => rv3_vals hl r) (passes_call (takes_of rfl rfl rfl rfl) (fun _ _ _ _ h => h)) (by rfl) U6.m U6.kp (pk_cons pe_non (pk_cons (pv 1) (pk_cons (pv 0) pk_nil)))))) pa_nil)))
      (pss_cons (ps_expr (pe_bm PySem.F.plainAttrs_list PySem.F.slot_list_append PySem.F.type_list_append mt_append (pv 6) (pa_cons (pe_said (k := 10) S hb W m (by rfl) TB rfl hmT hu hr (lamS_by (sc := defScope s_law_moves_right) (by decide +kernel)) rfl (fun _ _ _ _ _ => rfl) (fun A outer s H E f c' hr2 => (pe_call U7.G (hr2.mono (by decide)) (by rfl) U7.m U7.kp U7.b .nil (passes_call (takes_of rfl rfl rfl rfl) (fun _ _ _ _ h => h)) (pa_cons (pv 0) (pa_cons (pv 1) (pa_cons pe_str pa_nil)))))) pa_nil)))
      (pss_cons (ps_expr (pe_bm PySem.F.plainAttrs_list PySem.F.slot_list_append PySem.F.type_list_append mt_append (pv 6) (pa_cons (pe_said (k := 10) S hb W m (by rfl) TB rfl hmT hu hr (lamS_by (sc := defScope s_law_moves_right) (by decide +kernel)) rfl (fun _ _ _ _ _ => rfl) (fun A outer s H E f c' hr2 => (pe_callKW0 (hV := rv3) U7.G (hr2.mono (by decide)) U7.kb (fun hl r => rv3_vals hl r) (passes_call (takes_of rfl rfl rfl rfl) (fun _ _ _ _ h => h)) (by rfl) U7.m U7.kp (pk_cons pe_dnewK (pk_cons (pv 1) (pk_cons (pv 0) pk_nil)))))) pa_nil)))
      (pss_one (ps_ret (pe_cmpR op_eq (pe_callB (call_reprS hG hu64) (by rfl) N.repr PyProof.Rows.boot_repr (pa_cons (pv 6) pa_nil)) (pe_callB (call_reprS hG hu64) (by rfl) N.repr PyProof.Rows.boot_repr (pa_cons (pe_op op_cat (pv 7) (pe_op op_rep (pe_lst (pa_cons (pe_tup (pa_cons pe_str (pa_cons pe_non pa_nil))) pa_nil)) pe_int)) pa_nil)) (nomark _)))))))))))))), ?_⟩
    have one : (1 : Nat) ≤ sizeLine := by rw [sizeLine_eq]; decide
    have two : (2 : Nat) ≤ sizeLine := by rw [sizeLine_eq]; decide
    have four : (4 : Nat) ≤ sizeLine := by rw [sizeLine_eq]; decide
    have e41 : (10 : Nat) ^ 41 = 100000000000000000000000000000000000000000 := by decide
    refine ⟨two, fun q1 m1 => ⟨two, fun q2 m2 => ⟨two, fun q3 m3 => ?_⟩⟩⟩
    have z1 := same_upd m1 (.tup [V.str "head", V.int 0])
    have g1 : upd H q1 (.tup [V.str "head", V.int 0]) q1 = some (.tup [V.str "head", iv 0]) := upd_same
    generalize upd H q1 (.tup [V.str "head", V.int 0]) = Y1 at z1 g1 m2 m3 ⊢
    have z2 := same_upd m2 (.tup [V.str "tail", V.int 1])
    have g2 : upd Y1 q2 (.tup [V.str "tail", V.int 1]) q2 = some (.tup [V.str "tail", iv 1]) := upd_same
    generalize upd Y1 q2 (.tup [V.str "tail", V.int 1]) = Y2 at z2 g2 m3 ⊢
    have z3 := same_upd m3 (.tup [V.ref q1, V.ref q2])
    have g3 := upd_same (H := Y2) (a := q3) (o := .tup [V.ref q1, V.ref q2])
    generalize upd Y2 q3 (.tup [V.ref q1, V.ref q2]) = Y3 at z3 g3 ⊢
    have hs := (z2.trans z3) _ _ g1
    have ht := z3 _ _ g2
    have eY : ExtN H Y3 := ExtN.of ((z1.trans z2).trans z3)
    have TY := hT.ext ((z1.trans z2).trans z3)
    refine ⟨q3, _, rfl, SqT.of g3, rfl, _, _, rfl, _, _, rfl, rfl, ?_⟩
    clear z1 g1 z2 g2 z3 g3 m1 m2 m3
    have oi : ∀ i : Nat, i ≤ 3 → OddV K dr H (iv i) (di i) := fun i hi => OddV.int (by rw [e41]; omega)
    have oN : OddV K dr H .non .none := OddV.none
    refine ⟨TY, fun H1 eN T1 E' Q' hE hQ => ?_⟩
    have e1 : ExtN Y3 H1 := eN
    have e0 := eY.trans e1
    have R1 := rail_ex R e0
    have p1 := tup_ex e0 hp
    have hs1 := tup_ex e1 hs
    have ht1 := tup_ex e1 ht
    obtain ⟨o1, op, of, oz⟩ := no H1 (Kp.ex e0)
    obtain ⟨b1, bp, bf, bz⟩ := nb H1 (Kp.ex e0)
    refine ⟨_, rfl, _, rfl, _, rfl, r, p, tr, l, [o], [o1], 0, rfl, (by show 1 ≤ 1000; decide), R1, p1, bd, .cons op .nil, flat_all flat_nil of, bad_no oz, (fun dd Hx sx hd => hE CV dd 2 (iv 0) _ (by decide) Z.v upd_same (fun tt HB s2 nt ht2 => ?_))⟩
    have sH := (sx.trans (same_upd hd (.xd [("position", (iv 0))]))).trans s2
    have T2 := T1.ext sH
    have eHB : ExtN H HB := e0.trans (ExtN.of sH)
    have eYB : ExtN Y3 HB := e1.trans (ExtN.of sH)
    refine ⟨one, fun tl ntl => ?_⟩
    have t1 := Tol.start ntl T2 (.inr ⟨tt, wd 2, (iv 0), (di 0), rfl, rfl, wd_word 2, (oi 0 (by decide)).small, ht2, fun H' e => (oi 0 (by decide)).sk (eHB.trans e)⟩)
    generalize upd HB tl (.lst [V.ref tt]) = G1 at t1 ⊢
    clear sH T2 ht2 nt s2 sx hd T1 eN e0 e1 R1 p1 hs1 ht1 op of oz bp bf bz hE hQ ntl
    refine ⟨_, rfl, .inl ⟨rfl, _, SqL.of t1.tl⟩, t1.tabs, fun H1 eN T1 E' Q' hE hQ => ?_⟩
    have e0 := eHB.trans (t1.ext.trans eN)
    have e1 := eYB.trans (t1.ext.trans eN)
    have R1 := rail_ex R e0
    have p1 := tup_ex e0 hp
    have hs1 := tup_ex e1 hs
    have ht1 := tup_ex e1 ht
    obtain ⟨o1, op, of, oz⟩ := no H1 (Kp.ex e0)
    obtain ⟨b1, bp, bf, bz⟩ := nb H1 (Kp.ex e0)
    refine ⟨_, rfl, _, rfl, _, rfl, _, rfl, _, rfl, r, p, tr, l, [.ref q1, o, b], [(some (V.str "head", iv 0)), o1, b1], 1, rfl, (by show 3 ≤ 1000; decide), R1, p1, bd, .cons (mv_pv hs1) (.cons op (.cons bp .nil)), flat_all (flat_all (flat_all flat_nil bf) of) flat_mv, bad_ok (isMv_hd _) (bad_no oz), (fun dd Hx sx hd => hE CV dd 2 (iv 1) _ (by decide) Z.v upd_same (fun tt H2 s2 nt ht2 => ?_))⟩
    have sH := (sx.trans (same_upd hd (.xd [("position", (iv 1))]))).trans s2
    have T2 := T1.ext sH
    have ta := (t1.mv eN T1).mv (ExtN.of sH) T2
    refine ⟨tl, _, _, rfl, rfl, ta.tl, by rw [sizeLine_eq]; show 1 < _; decide, ?_⟩
    have t2 := ta.add (.inr ⟨tt, wd 2, (iv 1), (di 1), rfl, rfl, wd_word 2, (oi 1 (by decide)).small, ht2, fun H' e => (oi 1 (by decide)).sk (eHB.trans e)⟩)
    generalize upd _ tl _ = G2 at t2 ⊢
    clear sH T2 ht2 nt s2 sx hd T1 eN e0 e1 R1 p1 hs1 ht1 op of oz bp bf bz hE hQ ta t1
    refine ⟨_, rfl, .inl ⟨rfl, _, SqL.of t2.tl⟩, t2.tabs, fun H1 eN T1 E' Q' hE hQ => ?_⟩
    have e0 := eHB.trans (t2.ext.trans eN)
    have e1 := eYB.trans (t2.ext.trans eN)
    have R1 := rail_ex R e0
    have p1 := tup_ex e0 hp
    have hs1 := tup_ex e1 hs
    have ht1 := tup_ex e1 ht
    obtain ⟨o1, op, of, oz⟩ := no H1 (Kp.ex e0)
    obtain ⟨b1, bp, bf, bz⟩ := nb H1 (Kp.ex e0)
    refine ⟨_, rfl, _, rfl, _, rfl, _, rfl, _, rfl, _, rfl, four, fun pt npt => ⟨r, p, tr, l, .ref pt, iv 3, rfl, R1.same (same_upd npt _), (same_upd npt _) _ _ p1, bd, (NoMv.at_ (os := [(some (V.str "head", iv 0)), (some (V.str "tail", iv 1)), (some (V.str "head", iv 0)), o1]) upd_same (pvs_same (same_upd npt _) (.cons (mv_pv hs1) (.cons (mv_pv ht1) (.cons (mv_pv hs1) (.cons op .nil))))) (flat_all (flat_all (flat_all (flat_all flat_nil of) flat_mv) flat_mv) flat_mv) (bad_ok (isMv_hd _) (bad_ok (isMv_tl tr1) (bad_ok (isMv_hd _) (bad_no oz))))), (fun dd Hx sx hd => hE CV dd 2 (iv 3) _ (by decide) Z.v upd_same (fun tt H2 s2 nt ht2 => ?_))⟩⟩
    have sH := ((same_upd npt (.tup [V.ref q1, V.ref q2, V.ref q1, o])).trans sx).trans ((same_upd hd (.xd [("position", (iv 3))])).trans s2)
    have T2 := T1.ext sH
    have ta := (t2.mv eN T1).mv (ExtN.of sH) T2
    refine ⟨tl, _, _, rfl, rfl, ta.tl, by rw [sizeLine_eq]; show 2 < _; decide, ?_⟩
    have t3 := ta.add (.inr ⟨tt, wd 2, (iv 3), (di 3), rfl, rfl, wd_word 2, (oi 3 (by decide)).small, ht2, fun H' e => (oi 3 (by decide)).sk (eHB.trans e)⟩)
    generalize upd _ tl _ = G3 at t3 ⊢
    clear sH T2 ht2 nt s2 sx hd T1 eN e0 e1 R1 p1 hs1 ht1 op of oz bp bf bz hE hQ ta t2
    refine ⟨_, rfl, .inl ⟨rfl, _, SqL.of t3.tl⟩, t3.tabs, fun H1 eN T1 E' Q' hE hQ => ?_⟩
    have e0 := eHB.trans (t3.ext.trans eN)
    have e1 := eYB.trans (t3.ext.trans eN)
    have R1 := rail_ex R e0
    have p1 := tup_ex e0 hp
    have hs1 := tup_ex e1 hs
    have ht1 := tup_ex e1 ht
    obtain ⟨o1, op, of, oz⟩ := no H1 (Kp.ex e0)
    obtain ⟨b1, bp, bf, bz⟩ := nb H1 (Kp.ex e0)
    refine ⟨_, rfl, _, rfl, _, rfl, _, rfl, two, fun pt npt => ⟨r, p, tr, l, .ref pt, iv 0, rfl, R1.same (same_upd npt _), (same_upd npt _) _ _ p1, bd, (NoMv.at_ (os := [o1, b1]) upd_same (pvs_same (same_upd npt _) (.cons op (.cons bp .nil))) (flat_all (flat_all flat_nil bf) of) (bad_no oz)), (fun dd Hx sx hd => hE CV dd 2 (iv 0) _ (by decide) Z.v upd_same (fun tt H2 s2 nt ht2 => ?_))⟩⟩
    have sH := ((same_upd npt (.tup [o, b])).trans sx).trans ((same_upd hd (.xd [("position", (iv 0))])).trans s2)
    have T2 := T1.ext sH
    have ta := (t3.mv eN T1).mv (ExtN.of sH) T2
    refine ⟨tl, _, _, rfl, rfl, ta.tl, by rw [sizeLine_eq]; show 3 < _; decide, ?_⟩
    have t4 := ta.add (.inr ⟨tt, wd 2, (iv 0), (di 0), rfl, rfl, wd_word 2, (oi 0 (by decide)).small, ht2, fun H' e => (oi 0 (by decide)).sk (eHB.trans e)⟩)
    generalize upd _ tl _ = G4 at t4 ⊢
    clear sH T2 ht2 nt s2 sx hd T1 eN e0 e1 R1 p1 hs1 ht1 op of oz bp bf bz hE hQ ta t3
    refine ⟨_, rfl, .inl ⟨rfl, _, SqL.of t4.tl⟩, t4.tabs, fun H1 eN T1 E' Q' hE hQ => ?_⟩
    have e0 := eHB.trans (t4.ext.trans eN)
    have e1 := eYB.trans (t4.ext.trans eN)
    have R1 := rail_ex R e0
    have p1 := tup_ex e0 hp
    have hs1 := tup_ex e1 hs
    have ht1 := tup_ex e1 ht
    obtain ⟨o1, op, of, oz⟩ := no H1 (Kp.ex e0)
    obtain ⟨b1, bp, bf, bz⟩ := nb H1 (Kp.ex e0)
    refine ⟨_, rfl, _, rfl, _, rfl, _, rfl, two, fun pt npt => ⟨r, p, tr, l, .ref pt, iv 1, rfl, R1.same (same_upd npt _), (same_upd npt _) _ _ p1, bd, (NoMv.at_ (os := [(some (V.str "head", iv 0)), o1]) upd_same (pvs_same (same_upd npt _) (.cons (mv_pv hs1) (.cons op .nil))) (flat_all (flat_all flat_nil of) flat_mv) (bad_ok (isMv_hd _) (bad_no oz))), (fun dd Hx sx hd => hE CV dd 2 (iv 1) _ (by decide) Z.v upd_same (fun tt H2 s2 nt ht2 => ?_))⟩⟩
    have sH := ((same_upd npt (.tup [V.ref q1, o])).trans sx).trans ((same_upd hd (.xd [("position", (iv 1))])).trans s2)
    have T2 := T1.ext sH
    have ta := (t4.mv eN T1).mv (ExtN.of sH) T2
    refine ⟨tl, _, _, rfl, rfl, ta.tl, by rw [sizeLine_eq]; show 4 < _; decide, ?_⟩
    have t5 := ta.add (.inr ⟨tt, wd 2, (iv 1), (di 1), rfl, rfl, wd_word 2, (oi 1 (by decide)).small, ht2, fun H' e => (oi 1 (by decide)).sk (eHB.trans e)⟩)
    generalize upd _ tl _ = G5 at t5 ⊢
    clear sH T2 ht2 nt s2 sx hd T1 eN e0 e1 R1 p1 hs1 ht1 op of oz bp bf bz hE hQ ta t4
    refine ⟨two, fun u0 n0 => ⟨two, fun u1 n1 => ⟨two, fun u2 n2 => ⟨two, fun u3 n3 => ⟨two, fun u4 n4 => ⟨by rw [sizeLine_eq]; show 5 ≤ _; decide, fun du nu => ?_⟩⟩⟩⟩⟩⟩
    have c0 := same_upd n0 (.tup [V.str "move", V.int 0])
    have w0 : upd G5 u0 (.tup [V.str "move", V.int 0]) u0 = some (.tup [V.str "move", iv 0]) := upd_same
    generalize upd G5 u0 (.tup [V.str "move", V.int 0]) = D0 at c0 w0 n1 n2 n3 n4 nu ⊢
    have c1 := same_upd n1 (.tup [V.str "move", V.int 1])
    have w1 : upd D0 u1 (.tup [V.str "move", V.int 1]) u1 = some (.tup [V.str "move", iv 1]) := upd_same
    generalize upd D0 u1 (.tup [V.str "move", V.int 1]) = D1 at c1 w1 n2 n3 n4 nu ⊢
    have c2 := same_upd n2 (.tup [V.str "move", V.int 3])
    have w2 : upd D1 u2 (.tup [V.str "move", V.int 3]) u2 = some (.tup [V.str "move", iv 3]) := upd_same
    generalize upd D1 u2 (.tup [V.str "move", V.int 3]) = D2 at c2 w2 n3 n4 nu ⊢
    have c3 := same_upd n3 (.tup [V.str "move", V.int 0])
    have w3 : upd D2 u3 (.tup [V.str "move", V.int 0]) u3 = some (.tup [V.str "move", iv 0]) := upd_same
    generalize upd D2 u3 (.tup [V.str "move", V.int 0]) = D3 at c3 w3 n4 nu ⊢
    have c4 := same_upd n4 (.tup [V.str "move", V.int 1])
    have w4 : upd D3 u4 (.tup [V.str "move", V.int 1]) u4 = some (.tup [V.str "move", iv 1]) := upd_same
    generalize upd D3 u4 (.tup [V.str "move", V.int 1]) = D4 at c4 w4  nu ⊢
    have nDT : du ≠ tl := fun z => by rw [z, ((((c0.trans c1).trans c2).trans c3).trans c4) _ _ t5.tl] at nu; cases nu
    have cu := same_upd nu (.lst [V.ref u0, V.ref u1, V.ref u2, V.ref u3, V.ref u4])
    have hdu := upd_same (H := D4) (a := du) (o := .lst [V.ref u0, V.ref u1, V.ref u2, V.ref u3, V.ref u4])
    generalize upd D4 du (.lst [V.ref u0, V.ref u1, V.ref u2, V.ref u3, V.ref u4]) = D5 at cu hdu ⊢
    have sD := ((((c0.trans c1).trans c2).trans c3).trans c4).trans cu
    have t5 := t5.mv (ExtN.of sD) (t5.tabs.ext sD)
    have w0 := ((((c1.trans c2).trans c3).trans c4).trans cu) _ _ w0
    have w1 := (((c2.trans c3).trans c4).trans cu) _ _ w1
    have w2 := ((c3.trans c4).trans cu) _ _ w2
    have w3 := (c4.trans cu) _ _ w3
    have w4 := cu _ _ w4
    have kD : Kp tl D5 D5 := Kp.refl _ _
    have tl5 := t5.tl
    clear c0 c1 c2 c3 c4 cu sD n0 n1 n2 n3 n4 nu
    refine ⟨_, rfl, .inl ⟨rfl, _, SqL.of t5.tl⟩, t5.tabs, fun H1 eN T1 E' Q' hE hQ => ?_⟩
    have e0 := eHB.trans (t5.ext.trans eN)
    have e1 := eYB.trans (t5.ext.trans eN)
    have R1 := rail_ex R e0
    have p1 := tup_ex e0 hp
    have hs1 := tup_ex e1 hs
    have ht1 := tup_ex e1 ht
    obtain ⟨o1, op, of, oz⟩ := no H1 (Kp.ex e0)
    obtain ⟨b1, bp, bf, bz⟩ := nb H1 (Kp.ex e0)
    refine ⟨_, rfl, _, rfl, _, rfl, one, fun pt npt => ⟨r, p, tr, l, .ref pt, .non, rfl, R1.same (same_upd npt _), (same_upd npt _) _ _ p1, bd, (NoMv.no (m := "list") (.base (.lst upd_same)) (by decide +kernel)), (fun dd Hx sx hd => hE CV dd 2 .non _ (by decide) Z.v upd_same (fun tt H2 s2 nt ht2 => ?_))⟩⟩
    have sH := ((same_upd npt (.lst [V.ref q1])).trans sx).trans ((same_upd hd (.xd [("position", V.non)])).trans s2)
    have T2 := T1.ext sH
    have ta := (t5.mv eN T1).mv (ExtN.of sH) T2
    refine ⟨tl, _, _, rfl, rfl, ta.tl, by rw [sizeLine_eq]; show 5 < _; decide, ?_⟩
    obtain ⟨t6, kD⟩ := ta.add2 (.inr ⟨tt, wd 2, .non, .none, rfl, rfl, wd_word 2, (oN).small, ht2, fun H' e => (oN).sk (eHB.trans e)⟩) ((kD.trans (Kp.ex eN)).trans (Kp.sm sH))
    generalize upd _ tl _ = G6 at t6 kD ⊢
    clear sH T2 ht2 nt s2 sx hd T1 eN e0 e1 R1 p1 hs1 ht1 op of oz bp bf bz hE hQ ta t5
    refine ⟨_, rfl, .inl ⟨rfl, _, SqL.of t6.tl⟩, t6.tabs, fun H1 eN T1 E' Q' hE hQ => ?_⟩
    have e0 := eHB.trans (t6.ext.trans eN)
    have e1 := eYB.trans (t6.ext.trans eN)
    have R1 := rail_ex R e0
    have p1 := tup_ex e0 hp
    have hs1 := tup_ex e1 hs
    have ht1 := tup_ex e1 ht
    obtain ⟨o1, op, of, oz⟩ := no H1 (Kp.ex e0)
    obtain ⟨b1, bp, bf, bz⟩ := nb H1 (Kp.ex e0)
    refine ⟨_, rfl, _, rfl, rfl, r, p, tr, l, .non, .non, rfl, R1, p1, bd, (NoMv.no (m := "NoneType") (.base .non) (by decide +kernel)), (fun dd Hx sx hd => hE CV dd 2 .non _ (by decide) Z.v upd_same (fun tt H2 s2 nt ht2 => ?_))⟩
    have sH := (sx.trans (same_upd hd (.xd [("position", V.non)]))).trans s2
    have T2 := T1.ext sH
    have ta := (t6.mv eN T1).mv (ExtN.of sH) T2
    refine ⟨tl, _, _, rfl, rfl, ta.tl, by rw [sizeLine_eq]; show 6 < _; decide, ?_⟩
    obtain ⟨t7, kD⟩ := ta.add2 (.inr ⟨tt, wd 2, .non, .none, rfl, rfl, wd_word 2, (oN).small, ht2, fun H' e => (oN).sk (eHB.trans e)⟩) ((kD.trans (Kp.ex eN)).trans (Kp.sm sH))
    generalize upd _ tl _ = G7 at t7 kD ⊢
    clear sH T2 ht2 nt s2 sx hd T1 eN e0 e1 R1 p1 hs1 ht1 op of oz bp bf bz hE hQ ta t6
    refine ⟨_, rfl, .inl ⟨rfl, _, SqL.of t7.tl⟩, t7.tabs, fun H1 eN T1 E' Q' hE hQ => ?_⟩
    have e0 := eHB.trans (t7.ext.trans eN)
    have e1 := eYB.trans (t7.ext.trans eN)
    have R1 := rail_ex R e0
    have p1 := tup_ex e0 hp
    have hs1 := tup_ex e1 hs
    have ht1 := tup_ex e1 ht
    obtain ⟨o1, op, of, oz⟩ := no H1 (Kp.ex e0)
    obtain ⟨b1, bp, bf, bz⟩ := nb H1 (Kp.ex e0)
    refine ⟨_, rfl, _, rfl, r, p, tr, l, .str "head", .non, rfl, R1, p1, bd, (NoMv.no (m := "str") (.base (.str _)) (by decide +kernel)), (fun dd Hx sx hd => hE CV dd 2 .non _ (by decide) Z.v upd_same (fun tt H2 s2 nt ht2 => ?_))⟩
    have sH := (sx.trans (same_upd hd (.xd [("position", V.non)]))).trans s2
    have T2 := T1.ext sH
    have ta := (t7.mv eN T1).mv (ExtN.of sH) T2
    refine ⟨tl, _, _, rfl, rfl, ta.tl, by rw [sizeLine_eq]; show 7 < _; decide, ?_⟩
    obtain ⟨t8, kD⟩ := ta.add2 (.inr ⟨tt, wd 2, .non, .none, rfl, rfl, wd_word 2, (oN).small, ht2, fun H' e => (oN).sk (eHB.trans e)⟩) ((kD.trans (Kp.ex eN)).trans (Kp.sm sH))
    generalize upd _ tl _ = G8 at t8 kD ⊢
    clear sH T2 ht2 nt s2 sx hd T1 eN e0 e1 R1 p1 hs1 ht1 op of oz bp bf bz hE hQ ta t7
    refine ⟨_, rfl, .inl ⟨rfl, _, SqL.of t8.tl⟩, t8.tabs, fun H1 eN T1 E' Q' hE hQ => ?_⟩
    have e0 := eHB.trans (t8.ext.trans eN)
    have e1 := eYB.trans (t8.ext.trans eN)
    have R1 := rail_ex R e0
    have p1 := tup_ex e0 hp
    have hs1 := tup_ex e1 hs
    have ht1 := tup_ex e1 ht
    obtain ⟨o1, op, of, oz⟩ := no H1 (Kp.ex e0)
    obtain ⟨b1, bp, bf, bz⟩ := nb H1 (Kp.ex e0)
    refine fun pt npt => ⟨_, rfl, _, rfl, rfl, r, p, tr, l, .ref pt, .non, rfl, R1.same (same_upd npt _), (same_upd npt _) _ _ p1, bd, (NoMv.no (m := "dict") (.base (.dK upd_same)) (by decide +kernel)), (fun dd Hx sx hd => hE CV dd 2 .non _ (by decide) Z.v upd_same (fun tt H2 s2 nt ht2 => ?_))⟩
    have sH := ((same_upd npt (.dK [])).trans sx).trans ((same_upd hd (.xd [("position", V.non)])).trans s2)
    have T2 := T1.ext sH
    have ta := (t8.mv eN T1).mv (ExtN.of sH) T2
    refine ⟨tl, _, _, rfl, rfl, ta.tl, by rw [sizeLine_eq]; show 8 < _; decide, ?_⟩
    obtain ⟨t9, kD⟩ := ta.add2 (.inr ⟨tt, wd 2, .non, .none, rfl, rfl, wd_word 2, (oN).small, ht2, fun H' e => (oN).sk (eHB.trans e)⟩) ((kD.trans (Kp.ex eN)).trans (Kp.sm sH))
    generalize upd _ tl _ = G9 at t9 kD ⊢
    clear sH T2 ht2 nt s2 sx hd T1 eN e0 e1 R1 p1 hs1 ht1 op of oz bp bf bz hE hQ ta t8
    have gd : ∀ {a : Addr} {xs : List V}, D5 a = some (.tup xs) → G9 a = some (.tup xs) := fun {a xs} h => kD _ _ h (ne_of h tl5 (by intro z; cases z)) (fun _ z => by cases z)
    have w0 := gd w0
    have w1 := gd w1
    have w2 := gd w2
    have w3 := gd w3
    have w4 := gd w4
    have dn : du ≠ tl := nDT
    have hdu := kD _ _ hdu dn (fun _ z => by cases z)
    refine ⟨_, rfl, ?_⟩
    dsimp only [tNil]
    refine t9.repr (by show 9 ≤ 60; decide) ?_
    refine ⟨_, rfl, two, fun x1 k1 => ?_⟩
    have s1 := same_upd k1 (.tup [V.str "move", V.non])
    have h1 := upd_same (H := G9) (a := x1) (o := .tup [V.str "move", V.non])
    generalize upd G9 x1 (.tup [V.str "move", V.non]) = J1 at s1 h1 ⊢
    refine ⟨one, fun x2 k2 => ?_⟩
    have s2 := same_upd k2 (.lst [V.ref x1])
    have h2 := upd_same (H := J1) (a := x2) (o := .lst [V.ref x1])
    generalize upd J1 x2 (.lst [V.ref x1]) = J2 at s2 h2 ⊢
    refine ⟨x2, _, _, rfl, rfl, h2, by decide, by decide, by rw [sizeLine_eq]; show 4 ≤ _; decide, fun x3 k3 => ?_⟩
    have s3 := same_upd k3 (.lst (List.replicate (4 : Int).toNat [V.ref x1]).flatten)
    have h3 : upd J2 x3 (.lst (List.replicate (4 : Int).toNat [V.ref x1]).flatten) x3 = some (.lst [V.ref x1, V.ref x1, V.ref x1, V.ref x1]) := upd_same
    generalize upd J2 x3 (.lst (List.replicate (4 : Int).toNat [V.ref x1]).flatten) = J3 at s3 h3 ⊢
    have s13 := (s1.trans s2).trans s3
    refine ⟨du, x3, _, _, rfl, rfl, s13 _ _ hdu, h3, by rw [sizeLine_eq]; show 9 ≤ _; decide, fun x4 k4 => ?_⟩
    have s4 := same_upd k4 (.lst ([V.ref u0, V.ref u1, V.ref u2, V.ref u3, V.ref u4] ++ [V.ref x1, V.ref x1, V.ref x1, V.ref x1]))
    have h4 := upd_same (H := J3) (a := x4) (o := .lst ([V.ref u0, V.ref u1, V.ref u2, V.ref u3, V.ref u4] ++ [V.ref x1, V.ref x1, V.ref x1, V.ref x1]))
    generalize upd J3 x4 (.lst ([V.ref u0, V.ref u1, V.ref u2, V.ref u3, V.ref u4] ++ [V.ref x1, V.ref x1, V.ref x1, V.ref x1])) = J4 at s4 h4 ⊢
    have sA := s13.trans s4
    have tA := t9.mv (ExtN.of sA) (t9.tabs.ext sA)
    have im : ∀ {q : Addr} {i : Nat}, i ≤ 3 → G9 q = some (.tup [V.str "move", iv i]) → TIt K HB J4 (.ref q) (.tuple [.str (wd 2), di i]) := fun {q i} hi h => .inr ⟨q, wd 2, iv i, di i, rfl, rfl, wd_word 2, (oi i hi).small, sA _ _ h, fun H' e => (oi i hi).sk (eHB.trans e)⟩
    have iN : TIt K HB J4 (.ref x1) (.tuple [.str (wd 2), .none]) := .inr ⟨x1, wd 2, .non, .none, rfl, rfl, wd_word 2, oN.small, ((s2.trans s3).trans s4) _ _ h1, fun H' e => oN.sk (eHB.trans e)⟩
    dsimp only [tNil]
    refine due_repr tA.ext h4 (.cons (im (by decide) w0) (.cons (im (by decide) w1) (.cons (im (by decide) w2) (.cons (im (by decide) w3) (.cons (im (by decide) w4) (.cons iN (.cons iN (.cons iN (.cons iN .nil))))))))) (by show 9 ≤ 60; decide) ?_
    refine ⟨rfl, ?_⟩
    refine Eq.mpr (congrArg (fun b => Q (V.bl b) J4) (decide_eq_true ?_)) (k J4 (eHB.trans tA.ext) tA.tabs)
    rfl
end
end TR

namespace L2.TT
open PySem PySem.Spec PyProof.Rows L2
/-- the tuple at a beside the list at b, item by item in new pairs -/
def ItM (K : PySem.W.Frag) (a b : Addr) : It :=
  ⟨fun i H => ∃ (xs ys : List V) (x y : V), SqT K H a xs ∧ SqL K H b ys ∧ xs[i]? = some x ∧ ys[i]? = some y,
    fun i H v H' => ∃ T x y, v = .ref T ∧ H T = none ∧ H' = upd H T (.tup [x, y]) ∧ (∀ xs, SqT K H a xs → xs[i]? = some x) ∧ ∀ ys, SqL K H b ys → ys[i]? = some y,
    fun i H => ∃ xs ys : List V, SqT K H a xs ∧ SqL K H b ys ∧ i ≤ xs.length ∧ i ≤ ys.length ∧ (i = xs.length ∨ i = ys.length)⟩
def five (c z TI TO i1 i2 : Addr) : Prop := c = z ∨ c = TI ∨ c = TO ∨ c = i1 ∨ c = i2
theorem five_of {c z TI TO i1 i2 : Addr} (h : c ∈ [z, TI, TO, i1, i2]) : five c z TI TO i1 i2 := by
  unfold five
  simpa using h
theorem sep_of {z TI TO i1 i2 a b : Addr} (D : ZipApart z TI TO i1 i2 a b) : ZipSep2 z TI TO i1 i2 [i1, a] [i2, b] :=
  ⟨D.TIz, D.TOz, D.TITO, D.TIi1, by simp, by simp [D.i1z.symm, D.l1z.symm], by simp [D.TOi1, D.l1TO.symm], D.TIi2, by simp, by simp [D.i2z.symm, D.l2z.symm], by simp [D.TOi2, D.l2TO.symm], by simp [D.i12, D.l2i1.symm], by simp [D.i12.symm, D.l1i2.symm]⟩
theorem turn_zipM {P : Program} {w : World} {K : PySem.W.Frag} {elts : List Expr} {kk : Nat} {tpos : Pos} {a b z TI TO i1 i2 : Addr} (D : ZipApart z TI TO i1 i2 a b) :
    Turn P w K (.Tuple elts kk tpos) (ItM K a b) [z, TI, TO, i1, i2] z (fun i h => IsZip h z TI TO .none ∧ IsPair h TI (.ref i1) (.ref i2) ∧ (∃ x y, IsPair h TO x y) ∧ h.IsTupleIter i1 a i ∧ h.IsListIter i2 b i) where
  mem := List.mem_cons_self
  obj := fun i h st c hc => by
    obtain ⟨hz, hTI, ⟨x, y, hTO⟩, ⟨o1, e1, _, d1⟩, ⟨o2, e2, _, d2⟩⟩ := st
    rcases five_of hc with rfl | rfl | rfl | rfl | rfl
    · exact ⟨_, hz, fun _ q => nomatch q⟩
    · exact ⟨_, hTI, fun _ q => nomatch q⟩
    · exact ⟨_, hTO, fun _ q => nomatch q⟩
    · exact ⟨o1, e1, fun _ q => by rw [d1] at q; cases q⟩
    · exact ⟨o2, e2, fun _ q => by rw [d2] at q; cases q⟩
  keep := fun i h h' ⟨s1, s2, ⟨x, y, s3⟩, s4, s5⟩ k =>
    ⟨k _ (by simp) _ s1, k _ (by simp) _ s2, ⟨x, y, k _ (by simp) _ s3⟩, s4.at fun o q => k _ (by simp) o q, s5.at fun o q => k _ (by simp) o q⟩
  item := by
    intro X hP hw hK hc i pins s σ H E I hf st hg
    subst hP hw hK
    obtain ⟨hz, hTI, ⟨x0, y0, hTO⟩, h1, h2⟩ := st
    obtain ⟨xs, ys, x, y, hqx, hqy, hx, hy⟩ := hg
    obtain ⟨its, rv, p, _⟩ := I.tuple hqx
    obtain ⟨its2, rv2, p2, _⟩ := I.list hqy
    obtain ⟨u, hu, ru⟩ := rv.get hx
    obtain ⟨u2, hu2, ru2⟩ := rv2.get hy
    have hh : X.A.in1.handled = none := I.ok.hd hc
    have lz : z < s.heap.objs.size := Heap.lt_size hz
    have l1 : i < its.toArray.size := by simpa using (List.getElem?_eq_some_iff.mp hu).1
    have l2 : i < its2.toArray.size := by simpa using (List.getElem?_eq_some_iff.mp hu2).1
    refine wpAny_pyNext_zipD2_item (sep_of D) (Draws.tuple hh i1 a D.l1i1 its.toArray) (Draws.list hh i2 b D.l2i2 its2.toArray) hz hTI hTO ⟨h1, p⟩ ⟨h2, p2.isList⟩ l1 l2 fun v1 v2 h' tk' q1 q2 hz' hTO' st1 st2 hT hsz hk => ?_
    have ev1 : v1 = u := by
      have q1 : its.toArray[i]? = some v1 := q1
      rw [List.getElem?_toArray, hu] at q1
      exact (Option.some.inj q1).symm
    have ev2 : v2 = u2 := by
      have q2 : its2.toArray[i]? = some v2 := q2
      rw [List.getElem?_toArray, hu2] at q2
      exact (Option.some.inj q2).symm
    rw [ev1, ev2] at hT
    refine ⟨_, rfl, wpAny_letOwnedTupleGo_zip (s := { s with heap := h', toks := tk' }) hz' fun h'' z'' sb => ?_⟩
    have hT2 : h''.get? s.heap.objs.size = some { cls := .type "tuple", data := .seq #[u, u2] } := (sb.2 _ (Nat.ne_of_gt lz)).trans hT
    have new : ObjOk X.prog X.w (upd H s.heap.objs.size (.tup [x, y])) h'' s.heap.objs.size (.tup [x, y]) := ⟨by show 2 ≤ sizeLine; decide, [u, u2], .cons ru (.cons ru2 .nil), ⟨_, hT2, rfl, _, rfl⟩⟩
    have kp : ∀ c o, c ∉ [z, TI, TO, i1, i2] → s.heap.get? c = some o → h''.get? c = some o := fun c o hb q => by
      simp only [List.mem_cons, List.not_mem_nil, or_false, not_or] at hb
      exact (sb.2 c hb.1).trans (hk c o hb.1 hb.2.2.1 hb.2.2.2.1 hb.2.2.2.2 q)
    have I1 : Inv X pins σ (upd H s.heap.objs.size (.tup [x, y])) { s with heap := h'', toks := tk' } := I.turnedNew (t' := tk') (ch := [z, TI, TO, i1, i2]) kp hf (Nat.le_refl _) new
    refine ⟨.ref s.heap.objs.size, _, I1, rfl, ⟨_, x, y, rfl, I.hok.fresh (Nat.le_refl _), rfl, fun l hl => by rw [I.tuple_inj hl hqx]; exact hx, fun l hl => by rw [I.list_inj hl hqy]; exact hy⟩, ⟨z'', ?_, ⟨v1, v2, ?_⟩, ?_, ?_⟩, fun c hcm => ?_⟩
    · exact (sb.2 _ D.TIz).trans (hk _ _ D.TIz D.TITO D.TIi1 D.TIi2 hTI)
    · exact (sb.2 _ D.TOz).trans hTO'
    · exact st1.1.at fun o q => (sb.2 _ D.i1z).trans q
    · exact st2.1.at fun o q => (sb.2 _ D.i2z).trans q
    · have lt : c < s.heap.objs.size := by
        rcases five_of hcm with rfl | rfl | rfl | rfl | rfl
        · exact lz
        · exact Heap.lt_size hTI
        · exact Heap.lt_size hTO
        · obtain ⟨_, e1, _⟩ := h1; exact Heap.lt_size e1
        · obtain ⟨_, e2, _⟩ := h2; exact Heap.lt_size e2
      rw [upd_ne (Nat.ne_of_lt lt)]
      exact (hf c hcm).1
  done := by
    intro X hP hw hK hc i pins s σ H E I hf st hg
    subst hP hw hK
    obtain ⟨hz, hTI, ⟨x0, y0, hTO⟩, h1, h2⟩ := st
    obtain ⟨xs, ys, hqx, hqy, le1, le2, hend⟩ := hg
    obtain ⟨its, rv, p, _⟩ := I.tuple hqx
    obtain ⟨its2, rv2, p2, _⟩ := I.list hqy
    have hh : X.A.in1.handled = none := I.ok.hd hc
    have e1 : its.toArray.size = xs.length := by rw [List.size_toArray]; exact rv.length.symm
    have e2 : its2.toArray.size = ys.length := by rw [List.size_toArray]; exact rv2.length.symm
    refine wpAny_pyNext_zipD2_end (i := i) (sep_of D) (Draws.tuple hh i1 a D.l1i1 its.toArray) (Draws.list hh i2 b D.l2i2 its2.toArray) hz hTI hTO ⟨h1, p⟩ ⟨h2, p2.isList⟩ (by rw [e1]; exact le1) (by rw [e2]; exact le2) (by rw [e1, e2]; exact hend) fun h' tk' hk => ⟨rfl, I.turnedL (t' := tk') (ch := [z, TI, TO, i1, i2]) (fun c o hb q => ?_) hf⟩
    simp only [List.mem_cons, List.not_mem_nil, or_false, not_or] at hb
    exact hk c o hb.1 hb.2.2.1 hb.2.2.2.1 hb.2.2.2.2 q
  self := fun A i s Q E st h => wpAny_pyIter_zip st.1 h
/-! zip(t, l) -/
abbrev zm1 (h : Heap) (a : Addr) : Heap := h.push { cls := .type "tuple_iterator", data := .fields #[.ref a, .int 0 0] }
abbrev zm2 (h : Heap) (a b : Addr) : Heap := (zm1 h a).push { cls := .type "list_iterator", data := .fields #[.ref b, .int 0 0] }
abbrev zm3 (h : Heap) (a b : Addr) : Heap := (zm2 h a b).push { cls := .type "tuple", data := .seq #[.ref h.objs.size, .ref (zm1 h a).objs.size] }
abbrev zm4 (h : Heap) (a b : Addr) : Heap := (zm3 h a b).push { cls := .type "tuple", data := .seq #[.none, .none] }
abbrev zm5 (h : Heap) (a b : Addr) : Heap := (zm4 h a b).push { cls := .type "zip", data := .fields #[.none, .bool false, .bool false, .ref (zm2 h a b).objs.size, .ref (zm3 h a b).objs.size] }
theorem meets_zm (a b : Addr) (xs ys : Array Value) :
    Meets (Builtin.«zip.__new__» ⟨[.type "zip", .ref a, .ref b], []⟩) (fun _ R s => s.heap.IsTuple a xs ∧ s.heap.IsList b ys ∧ R (.ok (.ret (.ref (zm4 s.heap a b).objs.size))) { s with heap := zm5 s.heap a b }) :=
  .of_wp fun prog w A R s h => by
    obtain ⟨hp, g, d, tk, os⟩ := s
    obtain ⟨ha, hb, h⟩ := h
    have sub := sub_zip
    have ta : Heap.IsTuple (Shared.heap ⟨hp, g, d, tk, os⟩) a xs := ha
    have tb : Heap.IsList (Shared.heap ⟨zm1 hp a, g, d, tk, os⟩) b ys := Heap.IsList.push hb _
    wp_walk using wpAny_pyIter_tuple ta, wpAny_pyIter_list tb
    exact ⟨_, rfl, h⟩
theorem call_zm {prog : Program} {w : World} {A : Around} {E : Value → Shared → Prop} {s : Shared} {a b : Addr} {xs ys : Array Value} {Q : Value → Shared → Prop} (ha : s.heap.IsTuple a xs) (hb : s.heap.IsList b ys)
    (h : ∀ h', IsZip h' (s.heap.objs.size + 4) (s.heap.objs.size + 2) (s.heap.objs.size + 3) .none → IsPair h' (s.heap.objs.size + 2) (.ref s.heap.objs.size) (.ref (s.heap.objs.size + 1)) → IsPair h' (s.heap.objs.size + 3) .none .none →
      h'.IsTupleIter s.heap.objs.size a 0 → h'.IsListIter (s.heap.objs.size + 1) b 0 → (∀ c o, s.heap.get? c = some o → h'.get? c = some o) → Q (.ref (s.heap.objs.size + 4)) { s with heap := h' }) :
    wpAny (model prog w) A (call (.type "zip") [.ref a, .ref b]) Q E s := by
  refine callType_new F.called_zip (by decide) (F.typeCall_zip_2 _ _) (F.newCall_zip_2 _ _) (fun obj => F.args_object_init_3 obj _ _) F.entry_zip_new (meets_zm a b xs ys) ⟨ha, hb, ?_⟩
  have z1 : (zm1 s.heap a).objs.size = s.heap.objs.size + 1 := Heap.size_push ..
  have z2 : (zm2 s.heap a b).objs.size = s.heap.objs.size + 2 := by rw [Heap.size_push, z1]
  have z3 : (zm3 s.heap a b).objs.size = s.heap.objs.size + 3 := by rw [Heap.size_push, z2]
  have z4 : (zm4 s.heap a b).objs.size = s.heap.objs.size + 4 := by rw [Heap.size_push, z3]
  have up := fun (c : Addr) (o : Obj) (g : Heap) (q : Obj) (e : g.get? c = some o) => Heap.get?_push_of_some q e
  have g5 : (zm5 s.heap a b).get? (zm4 s.heap a b).objs.size = some _ := Heap.get?_push_size _ rfl
  have g4 : (zm5 s.heap a b).get? (zm3 s.heap a b).objs.size = some _ := up _ _ _ _ (Heap.get?_push_size _ rfl)
  have g3 : (zm5 s.heap a b).get? (zm2 s.heap a b).objs.size = some _ := up _ _ _ _ (up _ _ _ _ (Heap.get?_push_size _ rfl))
  have g2 : (zm5 s.heap a b).get? (zm1 s.heap a).objs.size = some _ := up _ _ _ _ (up _ _ _ _ (up _ _ _ _ (Heap.get?_push_size _ rfl)))
  have g1 : (zm5 s.heap a b).get? s.heap.objs.size = some _ := up _ _ _ _ (up _ _ _ _ (up _ _ _ _ (up _ _ _ _ (Heap.get?_push_size _ rfl))))
  show _ ∧ _
  rw [z2, z3, z4] at g5
  rw [z1, z2] at g3
  rw [z3] at g4
  rw [z1] at g2
  rw [z4]
  exact ⟨⟨_, g5, rfl⟩, h _ g5 g3 g4 ⟨_, g1, rfl, rfl⟩ ⟨_, g2, rfl, rfl⟩ fun c o x => up _ _ _ _ (up _ _ _ _ (up _ _ _ _ (up _ _ _ _ (up _ _ _ _ x))))⟩
def iZipM (K : PySem.W.Frag) (ta : TA) : TI := fun σ H R => ta σ H fun vs H1 => ∃ a b xs ys, vs = [.ref a, .ref b] ∧ SqT K H1 a xs ∧ SqL K H1 b ys ∧ R (ItM K a b) H1
theorem pi_zipM {X : Cx} {e e2 : Expr} {ta : TA} {p pos tpos : Pos} {elts : List Expr} {kk : Nat} (hg : Gl X "zip") (hm : X.mg "zip" = none) (ha : PA X [e, e2] ta)
    (hs : starEach [e, e2] X.env = (false, eval e X.env) :: starEach [e2] X.env := by rfl) (hpl : (backTo pos (starEach [e2] X.env)).any (·.1) = false := by rfl) :
    PI X (.Tuple elts kk tpos) (.Call (.Name "zip" p) [e, e2] [] pos) (iZipM X.K ta) := by
  refine ⟨fun pins s σ H R I h => ?_⟩
  refine Call_ (ld_blt I hg hm PyProof.Rows.boot_zip (PyProof.Rows.callWith_type1 (thn (ha.run pos pins s σ H _ I h) fun us s1 ⟨vs, H1, I1, r1, a, b, xs, ys, ex, hqx, hqy, q⟩ => ?_) hs hpl))
  subst ex
  obtain ⟨u1, u2, rfl, r1, r2⟩ := vals2 r1
  cases r1
  cases r2
  obtain ⟨its, rv, p1, _⟩ := I1.tuple hqx
  obtain ⟨its2, rv2, p2, _⟩ := I1.list hqy
  have la : a < s1.heap.objs.size := by obtain ⟨_, z, _⟩ := (show s1.heap.IsTuple a its.toArray from p1); exact Heap.lt_size z
  refine call_zm p1 p2.isList fun h' hz hTI hTO h1 h2 hk => wpAny_pyIter_zip hz ?_
  have I2 : Inv X pins σ H1 { s1 with heap := h' } := I1.kept (t' := s1.toks) hk
  refine ⟨s1.heap.objs.size + 4, [s1.heap.objs.size + 4, s1.heap.objs.size + 2, s1.heap.objs.size + 3, s1.heap.objs.size, s1.heap.objs.size + 1], _, _, H1, rfl, I2, turn_zipM (PySem.W.ktu_apart s1.heap.objs.size a b la p2.lt), ⟨hz, hTI, ⟨_, _, hTO⟩, h1, h2⟩, fun c hc => ?_, q⟩
  have le : s1.heap.objs.size ≤ c := by
    rcases five_of hc with rfl | rfl | rfl | rfl | rfl <;> omega
  exact I1.fpOk le (I1.hok.fresh le)
theorem pi_zipMK {X : Cx} {K : PySem.W.Frag} {e e2 : Expr} {ta : TA} {p pos tpos : Pos} {elts : List Expr} {kk : Nat} (hK : X.K = K) (hg : Gl X "zip") (hm : X.mg "zip" = none) (ha : PA X [e, e2] ta)
    (hs : starEach [e, e2] X.env = (false, eval e X.env) :: starEach [e2] X.env := by rfl) (hpl : (backTo pos (starEach [e2] X.env)).any (·.1) = false := by rfl) :
    PI X (.Tuple elts kk tpos) (.Call (.Name "zip" p) [e, e2] [] pos) (iZipM K ta) := by
  subst hK
  exact pi_zipM hg hm ha hs hpl
/-- a comprehension over zip(t, l), the tuple not longer than the list -/
theorem lc_zipM {K : PySem.W.Frag} {a b : Addr} {xs ys : List V} {g : TG} {tt : TT} {te : TE} {vs : List Nat} {σ : St} {H1 : Hp} {D : Addr} {Qd : Hp → Prop} (hle : xs.length ≤ ys.length) (Pv : Nat → Hp → Prop) (h0 : Pv 0 (upd H1 D (.lst []))) (hl : ∀ i H, Pv i H → SqT K H a xs ∧ SqL K H b ys)
    (hs : ∀ i x y T H, xs[i]? = some x → ys[i]? = some y → Pv i H → H T = none → g (.ref T) (wipe σ vs) (upd H T (.tup [x, y])) fun σ2 H2 => wipe σ2 vs = wipe σ vs ∧ tt σ2 H2 fun b H3 =>
      if b = true then te σ2 H3 fun y H4 => ∃ acc, H4 D = some (.lst acc) ∧ acc.length < sizeLine ∧ Pv (i + 1) (upd H4 D (.lst (acc ++ [y]))) else Pv (i + 1) H3) (hd : ∀ H, Pv xs.length H → Qd H) :
    ∃ W : Nat → Nat → Hp → Prop, (∃ m, W 0 m (upd H1 D (.lst []))) ∧ ∀ i m H, W i m H →
      ((ItM K a b).stop i H ∧ Qd H) ∨ ((ItM K a b).go i H ∧ ∃ Nx : Hp → Prop, (∀ H', Nx H' → ∃ m', m' < m ∧ W (i + 1) m' H') ∧ ∀ x H', (ItM K a b).yld i H x H' → g x (wipe σ vs) H' fun σ2 H2 => wipe σ2 vs = wipe σ vs ∧ tt σ2 H2 fun b H3 =>
        if b = true then te σ2 H3 fun y H4 => ∃ acc, H4 D = some (.lst acc) ∧ acc.length < sizeLine ∧ Nx (upd H4 D (.lst (acc ++ [y]))) else Nx H3) := by
  refine ⟨fun i m H => m = xs.length - i ∧ i ≤ xs.length ∧ Pv i H, ⟨_, rfl, Nat.zero_le _, h0⟩, ?_⟩
  rintro i m H ⟨rfl, hi, p⟩
  obtain ⟨qx, qy⟩ := hl i H p
  by_cases lt : i < xs.length
  · have lt2 : i < ys.length := by omega
    refine .inr ⟨⟨xs, ys, _, _, qx, qy, List.getElem?_eq_getElem lt, List.getElem?_eq_getElem lt2⟩, Pv (i + 1), fun H' p' => ⟨xs.length - (i + 1), by omega, rfl, lt, p'⟩, ?_⟩
    rintro x H' ⟨T, x', y', rfl, hT, rfl, f1, f2⟩
    exact hs i x' y' T H (f1 xs qx) (f2 ys qy) p hT
  · have e : i = xs.length := by omega
    subst e
    exact .inl ⟨⟨xs, ys, qx, qy, Nat.le_refl _, hle, .inl rfl⟩, hd H p⟩
end L2.TT

namespace TR
open PySem PySem.Spec PyProof.Rows L2 L2.TT StX ClX
def OppQ (CB : Addr) (tr : List E2) (l : List Nat) (ms : List Mv) (H : Hp) (Q : VK) (E : XK) : Prop :=
  (fstBad tr l ms = none → ∀ z qs H', Same H H' → H z = none → H' z = some (.tup (qs.map V.ref)) → Lay MvR H' qs (oppL l ms).reverse → Q (.ref z) H') ∧
  (∀ i, fstBad tr l ms = some i → ∀ d H', Same H H' → H' d = none → E (.ref CB) (some d) (upd H' d (.xd [("position", iv i)])))
theorem OppQ.later {CB : Addr} {tr : List E2} {l : List Nat} {ms : List Mv} {H H' : Hp} {Q : VK} {E : XK} (h : OppQ CB tr l ms H Q E) (s : Same H H') : OppQ CB tr l ms H' Q E :=
  ⟨fun e z qs H2 s2 nz hz => h.1 e z qs H2 (s.trans s2) (s.free nz) hz, fun i e d H2 s2 nd => h.2 i e d H2 (s.trans s2) nd⟩
def spOps (C CB : Addr) : Sp := fun vs H Q E => ∃ (r q t : Addr) (tr : List E2) (l : List Nat) (ps : List Addr) (ms : List Mv), vs = [.ref r, .ref q, .ref t] ∧ RailAt C H r tr ∧ H q = some (.tup [iv (hd0 l), iv (lt0 l)]) ∧ Bd tr l ∧
  H t = some (.tup (ps.map V.ref)) ∧ Lay MvR H ps ms ∧ (∀ m ∈ ms, m.2 ≤ tr.length) ∧ ms.length ≤ 1000 ∧ OppQ CB tr l ms H Q E
theorem oppL_take : ∀ (l : List Nat) (ms : List Mv) (i : Nat), (oppL l ms).take i = oppL l (ms.take i)
  | _, [], i => by simp [oppL]
  | _, _ :: _, 0 => rfl
  | l, m :: ms, i + 1 => by
    show oppM l m.1 :: (oppL (aft l m) ms).take i = oppM l m.1 :: oppL (aft l m) (ms.take i)
    rw [oppL_take]
section
variable {P : Program} {w : World} {K : PySem.W.Frag} {mg : Str → Option Value} {base : Heap}
abbrev N_sc_ops : List Str := ["railway", "standing", "moves", "bodies", "opposites", "end", "_", "body"]
theorem sc_ops : FnScope N_sc_ops ["railway", "standing", "moves"] (defScope s_opposite_moves) := ⟨rfl, rfl, rfl, by decide +kernel, rfl, by decide +kernel, by decide +kernel⟩
theorem ok_ops {f fA fO C CB : Addr} {fd fdA fdO : FuncData} (F : Fun K "opposite_moves" "opposite_moves" s_opposite_moves f fd) (N : Nm mg) (UA : UseX P w K mg base 7 "bodies_along" fA fdA ["railway", "standing", "moves"] (spAlong C CB)) (UO : Use P w K mg base CX0 1 "_opposite_move" fO fdO ["body", "end"] spOpp) :
    FnOk P w K mg base (L2.CX P w) 8 f fd ["railway", "standing", "moves"] (spOps C CB) := by
  refine L2.Fun.okX F sc_ops (fun vs H Q E h => ?_) (fun cdv A outer s H vs Q E hr h => ?_)
  · obtain ⟨r, q, t, tr, l, ps, ms, rfl, _⟩ := h
    rfl
  · obtain ⟨r, q, t, tr, l, ps, ms, rfl, R, hq, b, ht, LP, hm, hl, k1, k2⟩ := h
    have hr1 : Room 1 (A.deeper (envOfC "opposite_moves" (defScope s_opposite_moves) s.heap.objs.size f cdv)) := hr.mono (by decide)
    refine ⟨_, (pss_cons (ps_set (i := 3) sc_ops.nd rfl (.inl rfl) (pe_call UA.G hr (by rfl) UA.m UA.kp UA.b .nil (passes_call (takes_of rfl rfl rfl rfl) (fun _ _ _ _ h => h)) (pa_cons (pv 0) (pa_cons (pv 1) (pa_cons (pv 2) pa_nil)))))
        (pss_cons (ps_setLc (i := 4) (own := [("body", 7), ("end", 5), ("_", 6)]) (g := (gTup K 2 (gCons (gTup K 2 (gCons (gName 5) (gCons (gName 6) gNil))) (gCons (gName 7) gNil)))) (tt := tYes) (by rfl) sc_ops.nd rfl rfl (sw_true rfl rfl rfl (by decide +kernel)) (pi_zipMK (K := K) rfl (by rfl) N.zip (pa_cons (pv 2) (pa_cons (pv 3) pa_nil))) (blkOk_by (N := N_sc_ops) (sc := defScope s_opposite_moves) (by decide +kernel)) (fun _ _ _ _ _ => pg_tupK (K := K) (n := 2) (t := (gCons (gTup K 2 (gCons (gName 5) (gCons (gName 6) gNil))) (gCons (gName 7) gNil))) rfl rfl (pgs_cons (pg_tupK (K := K) (n := 2) (t := (gCons (gName 5) (gCons (gName 6) gNil))) rfl rfl (pgs_cons (pg_name (i := 5) sc_ops.nd rfl (Or.inl rfl)) (pgs_cons (pg_name (i := 6) sc_ops.nd rfl (Or.inl rfl)) pgs_nil)) rfl) (pgs_cons (pg_name (i := 7) sc_ops.nd rfl (Or.inl rfl)) pgs_nil)) rfl) (fun _ _ _ _ _ => pts_nil) (fun _ _ _ _ _ => (pe_use UO hr1 (by rfl) (pa_cons (pv 7) (pa_cons (pv 5) pa_nil)))))
        (pss_one (ps_ret (pe_callTy call_tuple_of (by rfl) N.tuple boot_tuple (pa_cons (pe_revL (pv 4)) pa_nil)))))), ?_⟩
    refine ⟨_, rfl, _, rfl, _, rfl, r, q, t, tr, l, ps, ms, rfl, R, hq, b, ht, LP, hm, hl, fun e Db bs H1 s1 hDb LB => ?_, k2⟩
    have hok := fstBad_none e
    have lb : bs.length = ms.length + 1 := by rw [LB.len, runM_len]
    refine ⟨_, rfl, _, rfl, t, Db, _, _, rfl, SqT.of (s1 _ _ ht), SqL.of hDb, fun D nD => ?_⟩
    refine lc_zipM (K := K) (a := t) (b := Db) (xs := ps.map V.ref) (ys := bs.map V.ref) (by rw [List.length_map, List.length_map, lb, LP.len]; omega) (fun i H' => ∃ qs, Acc MvR H1 H' D qs ((oppL l ms).take i)) ⟨[], .start nD⟩ (fun i H' ⟨_, a⟩ => ⟨SqT.of ((s1.trans a.sm) _ _ ht), SqL.of (a.sm _ _ hDb)⟩) ?_ ?_
    · rintro i x y T0 H2 hx hy ⟨qs, a⟩ nT
      obtain ⟨pm, m, rfl, hpm, hmi, hR⟩ := LP.get hx
      obtain ⟨pb, lc, rfl, hpb, hlc, hB⟩ := LB.get hy
      have lti : i < ms.length := (List.getElem?_eq_some_iff.mp hmi).1
      have elc : lc = endB l (ms.take i) := Option.some.inj (hlc.symm.trans (bodyAt_take l ms i (by omega)))
      have bi : Bd tr lc := by
        rw [elc]
        refine (b.run R.T (ms.take i) ?_).1
        have q : okM tr l (ms.take i ++ ms.drop i) = true := by rw [List.take_append_drop]; exact hok
        rw [okM_app, Bool.and_eq_true] at q
        exact q.1
      have emt : ms.take (i + 1) = ms.take i ++ [m] := take_snoc hmi
      have eo : (oppL l ms).take (i + 1) = (oppL l ms).take i ++ [oppM lc m.1] := by
        rw [oppL_take, oppL_take, emt, oppL_snoc, elc]
      have lq : qs.length < sizeLine := by
        have q1 := a.lay.len
        rw [List.length_take, oppL_len] at q1
        rw [sizeLine_eq]
        omega
      have sT := same_upd nT (.tup [V.ref pm, V.ref pb])
      have hT := upd_same (H := H2) (a := T0) (o := .tup [V.ref pm, V.ref pb])
      have a := a.later firmM sT
      generalize upd H2 T0 (.tup [V.ref pm, V.ref pb]) = H3 at sT hT a ⊢
      have hR := firmM _ _ _ _ (s1.trans a.sm) hR
      have hB := firmB _ _ _ _ a.sm hB
      refine ⟨T0, _, rfl, SqT.of hT, rfl, _, _, rfl, pm, _, rfl, SqT.of hR, rfl, _, _, rfl, _, _, rfl, rfl, _, _, rfl, rfl, ?_⟩
      refine ⟨rfl, _, rfl, _, rfl, pb, lc, m.1, rfl, hB, bi.two, fun q2 H4 s4 nq2 hq2 => ?_⟩
      rw [eo]
      exact ⟨_, s4 _ _ a.own, by rw [List.length_map]; exact lq, qs ++ [q2], a.push firmM tupyM nD s4 hq2⟩
    · rintro H2 ⟨qs, a⟩
      rw [List.length_map, LP.len, ← oppL_len l ms, List.take_length] at a
      refine ⟨_, rfl, D, _, rfl, SqL.of a.own, fun e2 ne2 => ⟨e2, _, rfl, .inl ⟨SqL.of upd_same, fun z nz => ?_⟩⟩⟩
      have s3 := same_upd ne2 (.lst (qs.map V.ref).reverse)
      have s4 := s3.trans (same_upd nz (.tup (qs.map V.ref).reverse))
      refine k1 e z qs.reverse _ ((s1.trans a.sm).trans s4) (((s1.trans a.sm).trans s3).free nz) ?_ (a.lay.rev.same firmM s4)
      rw [upd_same, List.map_reverse]
end
end TR


namespace TR
open PySem PySem.Spec PyProof.Rows L2 L2.TT L2.TW StX ClX L2.TL LamX GenW
abbrev qBlR : Str := "_law_blocked_right.<locals>.<lambda>"
theorem can_no {tr : List E2} {l : List Nat} {e : Bool} {z : Nat} (h : z ∈ l) : canM tr l (e, z) = false := by
  rw [can_iff]
  show (_ && decide (z ∉ l)) = false
  rw [show decide (z ∉ l) = false from decide_eq_false (fun n => n h), Bool.and_false]
theorem fst_no {tr : List E2} {l : List Nat} {m : Mv} {ms : List Mv} (h : canM tr l m = false) : fstBad tr l (m :: ms) = some 0 := by
  show (if canM tr l m = true then _ else some 0) = _
  rw [if_neg (by rw [h]; decide)]
theorem mvdq_no {CB : Addr} {tr : List E2} {l : List Nat} {ms : List Mv} {H : Hp} {Q : VK} {E : XK} (h : fstBad tr l ms = some 0) (k : ∀ d H', Same H H' → H' d = none → E (.ref CB) (some d) (upd H' d (.xd [("position", iv 0)]))) : MvdQ CB tr l ms H Q E :=
  ⟨fun z => (by rw [h] at z; cases z), fun i hi d H' s n => (by rw [h] at hi; cases hi; exact k d H' s n)⟩
theorem oppq_no {CB : Addr} {tr : List E2} {l : List Nat} {ms : List Mv} {H : Hp} {Q : VK} {E : XK} (h : fstBad tr l ms = some 0) (k : ∀ d H', Same H H' → H' d = none → E (.ref CB) (some d) (upd H' d (.xd [("position", iv 0)]))) : OppQ CB tr l ms H Q E :=
  ⟨fun z => (by rw [h] at z; cases z), fun i hi d H' s n => (by rw [h] at hi; cases hi; exact k d H' s n)⟩
section
variable {P : Program} {w : World} {K : PySem.W.Frag} {mg : Str → Option Value} {base : Heap}
def spBlR (C dr : Addr) (K : PySem.W.Frag) (T : List (Addr × Str)) : Sp := fun vs H Q _ => ∃ (r p : Addr) (tr : List E2) (l : List Nat), vs = [.ref r, .ref p] ∧ RailAt C H r tr ∧ H p = some (.tup [iv (hd0 l), iv (lt0 l)]) ∧ Bd tr l ∧ Tabs T H ∧
  ∀ H', ExtN H H' → Tabs T H' → Q (.bl true) H'
abbrev NBlR : List Str := ["road", "pose", "here", "told"]
theorem sc_blr : FnScope NBlR ["road", "pose"] (defScope s_law_blocked_right) := ⟨rfl, rfl, rfl, by decide +kernel, rfl, by decide +kernel, by decide +kernel⟩
theorem ok_blr {f c Pt g f5 f6 f7 fB C CR CU CM CS CL CV CB CP CT dr : Addr} {T : List (Addr × Str)} {fd fdg fd6 fd7 fdB : FuncData} (F : FunC K "_law_blocked_right" "_law_blocked_right" s_law_blocked_right f fd c) (TB : TabB base mg c Pt) (hmT : (Pt, qBlR) ∈ T) (hu : ∀ p ∈ T, p.1 = Pt → p.2 = qBlR)
    (N : Nm mg) (S : Fun K "_law_said" "_law_said" s_law_said g fdg) (hb : Binds K fdg ["call"] []) (W : SayF K mg CR CU CM CS CL CV CB CP CT) (m : mg "_law_said" = some (.ref g)) (Z : SCs K CR CU CM CS CL CV CB CP CT)
    (M5 : UseR P w K mg base 9 "moved" f5 (spMvs C CB)) (U6 : UseX P w K mg base 8 "moved_along" f6 fd6 ["railway", "standing", "moves"] (spMvd C CB)) (U7 : UseX P w K mg base 8 "opposite_moves" f7 fd7 ["railway", "standing", "moves"] (spOps C CB)) (UB : Use P w K mg base CX0 6 "body_of" fB fdB ["railway", "standing"] (spBody C)) :
    FnG P w K mg base CX0 15 f fd ["road", "pose"] (spBlR C dr K T) := by
  refine FunC.okG F sc_blr (fun vs H Q E h => ?_) (fun A outer s H vs Q E hG hr h => ?_)
  · obtain ⟨r, p, tr, l, rfl, _⟩ := h
    rfl
  · obtain ⟨r, p, tr, l, rfl, R, hp, bd, hT, k⟩ := h
    have hu64 : (A.deeper (envOfC "_law_blocked_right" (defScope s_law_blocked_right) s.heap.objs.size f (.ref c))).units + 64 < cLine := hr.units
    refine ⟨_, pss_cons (ps_set (i := 2) sc_blr.nd rfl (.inr rfl) (pe_lst (pa_cons (pe_tup (pa_cons pe_str (pa_cons (pe_ix ix_tup (pv 1) pe_int (fun _ _ => rfl)) pa_nil))) (pa_cons (pe_tup (pa_cons pe_str (pa_cons (pe_ix ix_tup (pv 1) pe_int (fun _ _ => rfl)) pa_nil))) (pa_cons (pe_tup (pa_cons pe_str (pa_cons (pe_ix ix_tup (pv 1) pe_int (fun _ _ => rfl)) pa_nil))) (pa_cons (pe_tup (pa_cons pe_str (pa_cons (pe_ix ix_tup (pe_use UB (hr.mono (by decide)) (by rfl) (pa_cons (pv 0) (pa_cons (pv 1) pa_nil))) (pe_un un_neg pe_int) (fun _ _ => rfl)) pa_nil))) pa_nil))))))
      (pss_cons (ps_set (i := 3) sc_blr.nd rfl (.inl rfl) (pe_lst (pa_cons (pe_said (k := 10) S hb W m (by rfl) TB rfl hmT hu hr (lamS_by (sc := defScope s_law_blocked_right) (by decide +kernel)) rfl (fun _ _ _ _ _ => rfl) (fun A outer s H E f c' hr2 => (pe_callR M5.g (hr2.mono (by decide)) M5.kp (by rfl) M5.m (passes_call (takes_of rfl rfl rfl rfl) (fun _ _ _ _ h => h)) (pa_cons (pv 0) (pa_cons (pv 1) (pa_cons (pe_ix (ix_K (K := K) rfl) (pv 2) pe_int (fun _ _ => rfl)) pa_nil)))))) pa_nil)))
      (pss_cons (ps_expr (pe_bm PySem.F.plainAttrs_list PySem.F.slot_list_append PySem.F.type_list_append mt_append (pv 3) (pa_cons (pe_said (k := 10) S hb W m (by rfl) TB rfl hmT hu hr (lamS_by (sc := defScope s_law_blocked_right) (by decide +kernel)) rfl (fun _ _ _ _ _ => rfl) (fun A outer s H E f c' hr2 => (pe_call U6.G (hr2.mono (by decide)) (by rfl) U6.m U6.kp U6.b .nil (passes_call (takes_of rfl rfl rfl rfl) (fun _ _ _ _ h => h)) (pa_cons (pv 0) (pa_cons (pv 1) (pa_cons (pe_tup (pa_cons (pe_ix (ix_K (K := K) rfl) (pv 2) pe_int (fun _ _ => rfl)) pa_nil)) pa_nil)))))) pa_nil)))
      (pss_cons (ps_expr (pe_bm PySem.F.plainAttrs_list PySem.F.slot_list_append PySem.F.type_list_append mt_append (pv 3) (pa_cons (pe_said (k := 10) S hb W m (by rfl) TB rfl hmT hu hr (lamS_by (sc := defScope s_law_blocked_right) (by decide +kernel)) rfl (fun _ _ _ _ _ => rfl) (fun A outer s H E f c' hr2 => (pe_call U7.G (hr2.mono (by decide)) (by rfl) U7.m U7.kp U7.b .nil (passes_call (takes_of rfl rfl rfl rfl) (fun _ _ _ _ h => h)) (pa_cons (pv 0) (pa_cons (pv 1) (pa_cons (pe_tup (pa_cons (pe_ix (ix_K (K := K) rfl) (pv 2) pe_int (fun _ _ => rfl)) (pa_cons (pe_ix (ix_K (K := K) rfl) (pv 2) pe_int (fun _ _ => rfl)) pa_nil))) pa_nil)))))) pa_nil)))
      (pss_cons (ps_expr (pe_bm PySem.F.plainAttrs_list PySem.F.slot_list_append PySem.F.type_list_append mt_append (pv 3) (pa_cons (pe_said (k := 10) S hb W m (by rfl) TB rfl hmT hu hr (lamS_by (sc := defScope s_law_blocked_right) (by decide +kernel)) rfl (fun _ _ _ _ _ => rfl) (fun A outer s H E f c' hr2 => (pe_callR M5.g (hr2.mono (by decide)) M5.kp (by rfl) M5.m (passes_call (takes_of rfl rfl rfl rfl) (fun _ _ _ _ h => h)) (pa_cons (pv 0) (pa_cons (pv 1) (pa_cons (pe_ix (ix_K (K := K) rfl) (pv 2) pe_int (fun _ _ => rfl)) pa_nil)))))) pa_nil)))
      (pss_one (ps_ret (pe_cmpR op_eq (pe_callB (call_reprS hG hu64) (by rfl) N.repr PyProof.Rows.boot_repr (pa_cons (pv 3) pa_nil)) (pe_callB (call_reprS hG hu64) (by rfl) N.repr PyProof.Rows.boot_repr (pa_cons (pe_op op_rep (pe_lst (pa_cons (pe_tup (pa_cons pe_str (pa_cons pe_int pa_nil))) pa_nil)) pe_int) pa_nil)) (nomark _)))))))), ?_⟩
    have one : (1 : Nat) ≤ sizeLine := by rw [sizeLine_eq]; decide
    have two : (2 : Nat) ≤ sizeLine := by rw [sizeLine_eq]; decide
    have e41 : (10 : Nat) ^ 41 = 100000000000000000000000000000000000000000 := by decide
    have TL := R.T
    have b2 := bd.two
    have mh : hd0 l ∈ l := List.mem_of_head? bd.sw.hd
    have mt : lt0 l ∈ l := List.mem_of_getLast? bd.sw.lt
    obtain ⟨z, hz⟩ : ∃ z, l[l.length - 1 - 1]? = some z := ⟨_, List.getElem?_eq_getElem (by omega)⟩
    have mz : z ∈ l := List.mem_of_getElem? hz
    refine ⟨_, rfl, p, _, _, _, rfl, rfl, SqT.of hp, rfl, two, fun q1 m1 => ?_⟩
    have z1 := same_upd m1 (.tup [V.str "head", iv (hd0 l)])
    have g1 := upd_same (H := H) (a := q1) (o := .tup [V.str "head", iv (hd0 l)])
    generalize upd H q1 (.tup [V.str "head", iv (hd0 l)]) = Y1 at z1 g1 ⊢
    refine ⟨_, rfl, p, _, _, _, rfl, rfl, SqT.of (z1 _ _ hp), rfl, two, fun q2 m2 => ?_⟩
    have z2 := same_upd m2 (.tup [V.str "head", iv (lt0 l)])
    have g2 := upd_same (H := Y1) (a := q2) (o := .tup [V.str "head", iv (lt0 l)])
    generalize upd Y1 q2 (.tup [V.str "head", iv (lt0 l)]) = Y2 at z2 g2 ⊢
    have z12 := z1.trans z2
    refine ⟨_, rfl, p, _, _, _, rfl, rfl, SqT.of (z12 _ _ hp), rfl, two, fun q3 m3 => ?_⟩
    have z3 := same_upd m3 (.tup [V.str "tail", iv (hd0 l)])
    have g3 := upd_same (H := Y2) (a := q3) (o := .tup [V.str "tail", iv (hd0 l)])
    generalize upd Y2 q3 (.tup [V.str "tail", iv (hd0 l)]) = Y3 at z3 g3 ⊢
    have z13 := z12.trans z3
    refine ⟨_, rfl, _, rfl, r, p, tr, hd0 l, lt0 l, rfl, R.same z13, z13 _ _ hp, bd.hle, bd.lle, bd.ne, fun l' bp Y4 sw z4 nb hb4 => ?_⟩
    cases SW.uniq TL sw bd.sw
    refine ⟨_, rfl, bp, _, _, _, rfl, rfl, SqT.of hb4, (show atI (l.map iv) (-2) = some (iv z) from atI_end (m := 1) (by omega) hz), two, fun q4 m4 => ?_⟩
    have z5 := same_upd m4 (.tup [V.str "tail", iv z])
    have g4 := upd_same (H := Y4) (a := q4) (o := .tup [V.str "tail", iv z])
    generalize upd Y4 q4 (.tup [V.str "tail", iv z]) = Y5 at z5 g4 ⊢
    refine ⟨by rw [sizeLine_eq]; show 4 ≤ _; decide, fun hl ml => ?_⟩
    have z6 := same_upd ml (.lst [V.ref q1, V.ref q2, V.ref q3, V.ref q4])
    have gl := upd_same (H := Y5) (a := hl) (o := .lst [V.ref q1, V.ref q2, V.ref q3, V.ref q4])
    generalize upd Y5 hl (.lst [V.ref q1, V.ref q2, V.ref q3, V.ref q4]) = Y6 at z6 gl ⊢
    have c1 : Y6 q1 = _ := ((((z2.trans z3).trans z4).trans z5).trans z6) _ _ g1
    have c2 : Y6 q2 = _ := (((z3.trans z4).trans z5).trans z6) _ _ g2
    have c3 : Y6 q3 = _ := ((z4.trans z5).trans z6) _ _ g3
    have c4 : Y6 q4 = _ := z6 _ _ g4
    have zA := ((z13.trans z4).trans z5).trans z6
    have eY : ExtN H Y6 := ExtN.of zA
    have TY := hT.ext zA
    clear z1 z2 z3 z4 z5 z6 z12 z13 zA g1 g2 g3 g4 m1 m2 m3 m4 ml hb4 nb sw
    have oi : OddV K dr H (iv 0) (di 0) := OddV.int (by rw [e41]; decide)
    have le : ∀ {y : Nat}, y ∈ l → y ≤ tr.length := fun h => bd.le _ h
    refine ⟨TY, fun H1 eN T1 E' Q' hE hQ => ?_⟩
    have e1 : ExtN Y6 H1 := eN
    have e0 := eY.trans e1
    have R1 := rail_ex R e0
    have p1 := tup_ex e0 hp
    have d1 := tup_ex e1 c1
    have d2 := tup_ex e1 c2
    have d3 := tup_ex e1 c3
    have d4 := tup_ex e1 c4
    have dl := lst_ex e1 gl
    refine ⟨_, rfl, _, rfl, _, rfl, hl, _, _, _, rfl, rfl, SqL.of dl, rfl, r, p, tr, l, [q1], [(true, hd0 l)], rfl, R1, p1, bd, .one d1, (fun m hm => by rw [List.mem_singleton.mp hm]; exact le mh), (by show 1 ≤ 1000; decide), (mvdq_no (fst_no (can_no mh)) (fun dd Hx sx hd => hE CB dd 3 (iv 0) _ (by decide) Z.b upd_same (fun tt HB s2 nt ht2 => ?_)))⟩
    have sH := (sx.trans (same_upd hd (.xd [("position", iv 0)]))).trans s2
    have T2 := T1.ext sH
    have eHB : ExtN H HB := e0.trans (ExtN.of sH)
    have eYB : ExtN Y6 HB := e1.trans (ExtN.of sH)
    refine ⟨one, fun tl ntl => ?_⟩
    have t1 := Tol.start ntl T2 (.inr ⟨tt, wd 3, iv 0, di 0, rfl, rfl, wd_word 3, oi.small, ht2, fun H' e => oi.sk (eHB.trans e)⟩)
    generalize upd HB tl (.lst [V.ref tt]) = G1 at t1 ⊢
    clear sH T2 ht2 nt s2 sx hd T1 eN e0 e1 R1 p1 d1 d2 d3 d4 dl hE hQ ntl
    refine ⟨_, rfl, .inl ⟨rfl, _, SqL.of t1.tl⟩, t1.tabs, fun H1 eN T1 E' Q' hE hQ => ?_⟩
    have e0 := eHB.trans (t1.ext.trans eN)
    have e1 := eYB.trans (t1.ext.trans eN)
    have R1 := rail_ex R e0
    have p1 := tup_ex e0 hp
    have d1 := tup_ex e1 c1
    have d2 := tup_ex e1 c2
    have d3 := tup_ex e1 c3
    have d4 := tup_ex e1 c4
    have dl := lst_ex e1 gl
    refine ⟨_, rfl, _, rfl, _, rfl, hl, _, _, _, rfl, rfl, SqL.of dl, rfl, one, fun pt npt => ⟨r, p, pt, tr, l, [q2], [(true, lt0 l)], rfl, R1.same (same_upd npt _), (same_upd npt _) _ _ p1, bd, upd_same, .one ((same_upd npt _) _ _ d2), (fun m hm => by rw [List.mem_singleton.mp hm]; exact le mt), (by show 1 ≤ 1000; decide), (mvdq_no (fst_no (can_no mt)) (fun dd Hx sx hd => hE CB dd 3 (iv 0) _ (by decide) Z.b upd_same (fun tt H2 s2 nt ht2 => ?_)))⟩⟩
    have sH := ((same_upd npt (.tup [V.ref q2])).trans sx).trans ((same_upd hd (.xd [("position", iv 0)])).trans s2)
    have T2 := T1.ext sH
    have ta := (t1.mv eN T1).mv (ExtN.of sH) T2
    refine ⟨tl, _, _, rfl, rfl, ta.tl, by rw [sizeLine_eq]; show 1 < _; decide, ?_⟩
    have t2 := ta.add (.inr ⟨tt, wd 3, iv 0, di 0, rfl, rfl, wd_word 3, oi.small, ht2, fun H' e => oi.sk (eHB.trans e)⟩)
    generalize upd _ tl _ = G2 at t2 ⊢
    clear sH T2 ht2 nt s2 sx hd T1 eN e0 e1 R1 p1 d1 d2 d3 d4 dl hE hQ ta t1
    refine ⟨_, rfl, .inl ⟨rfl, _, SqL.of t2.tl⟩, t2.tabs, fun H1 eN T1 E' Q' hE hQ => ?_⟩
    have e0 := eHB.trans (t2.ext.trans eN)
    have e1 := eYB.trans (t2.ext.trans eN)
    have R1 := rail_ex R e0
    have p1 := tup_ex e0 hp
    have d1 := tup_ex e1 c1
    have d2 := tup_ex e1 c2
    have d3 := tup_ex e1 c3
    have d4 := tup_ex e1 c4
    have dl := lst_ex e1 gl
    refine ⟨_, rfl, _, rfl, _, rfl, hl, _, _, _, rfl, rfl, SqL.of dl, rfl, _, rfl, hl, _, _, _, rfl, rfl, SqL.of dl, rfl, two, fun pt npt => ⟨r, p, pt, tr, l, [q3, q1], [(false, hd0 l), (true, hd0 l)], rfl, R1.same (same_upd npt _), (same_upd npt _) _ _ p1, bd, upd_same, (Lay.one ((same_upd npt _) _ _ d3)).snoc ((same_upd npt _) _ _ d1), (fun m hm => by rcases List.mem_cons.mp hm with rfl | hm <;> first | exact le mh | (rw [List.mem_singleton.mp hm]; exact le mh)), (by show 2 ≤ 1000; decide), (oppq_no (fst_no (can_no mh)) (fun dd Hx sx hd => hE CB dd 3 (iv 0) _ (by decide) Z.b upd_same (fun tt H2 s2 nt ht2 => ?_)))⟩⟩
    have sH := ((same_upd npt (.tup [V.ref q3, V.ref q1])).trans sx).trans ((same_upd hd (.xd [("position", iv 0)])).trans s2)
    have T2 := T1.ext sH
    have ta := (t2.mv eN T1).mv (ExtN.of sH) T2
    refine ⟨tl, _, _, rfl, rfl, ta.tl, by rw [sizeLine_eq]; show 2 < _; decide, ?_⟩
    have t3 := ta.add (.inr ⟨tt, wd 3, iv 0, di 0, rfl, rfl, wd_word 3, oi.small, ht2, fun H' e => oi.sk (eHB.trans e)⟩)
    generalize upd _ tl _ = G3 at t3 ⊢
    clear sH T2 ht2 nt s2 sx hd T1 eN e0 e1 R1 p1 d1 d2 d3 d4 dl hE hQ ta t2
    refine ⟨_, rfl, .inl ⟨rfl, _, SqL.of t3.tl⟩, t3.tabs, fun H1 eN T1 E' Q' hE hQ => ?_⟩
    have e0 := eHB.trans (t3.ext.trans eN)
    have e1 := eYB.trans (t3.ext.trans eN)
    have R1 := rail_ex R e0
    have p1 := tup_ex e0 hp
    have d1 := tup_ex e1 c1
    have d2 := tup_ex e1 c2
    have d3 := tup_ex e1 c3
    have d4 := tup_ex e1 c4
    have dl := lst_ex e1 gl
    refine ⟨_, rfl, _, rfl, _, rfl, hl, _, _, _, rfl, rfl, SqL.of dl, rfl, r, p, tr, l, [q4], [(false, z)], rfl, R1, p1, bd, .one d4, (fun m hm => by rw [List.mem_singleton.mp hm]; exact le mz), (by show 1 ≤ 1000; decide), (mvdq_no (fst_no (can_no mz)) (fun dd Hx sx hd => hE CB dd 3 (iv 0) _ (by decide) Z.b upd_same (fun tt H2 s2 nt ht2 => ?_)))⟩
    have sH := (sx.trans (same_upd hd (.xd [("position", iv 0)]))).trans s2
    have T2 := T1.ext sH
    have ta := (t3.mv eN T1).mv (ExtN.of sH) T2
    refine ⟨tl, _, _, rfl, rfl, ta.tl, by rw [sizeLine_eq]; show 3 < _; decide, ?_⟩
    have t4 := ta.add (.inr ⟨tt, wd 3, iv 0, di 0, rfl, rfl, wd_word 3, oi.small, ht2, fun H' e => oi.sk (eHB.trans e)⟩)
    generalize upd _ tl _ = G4 at t4 ⊢
    clear sH T2 ht2 nt s2 sx hd T1 eN e0 e1 R1 p1 d1 d2 d3 d4 dl hE hQ ta t3
    refine ⟨_, rfl, ?_⟩
    dsimp only [tNil]
    refine t4.repr (by show 4 ≤ 60; decide) ?_
    refine ⟨two, fun p1 n1 => ?_⟩
    have s1 := same_upd n1 (.tup [V.str "blocked", V.int 0])
    have h1 : upd G4 p1 (.tup [V.str "blocked", V.int 0]) p1 = some (.tup [V.str "blocked", iv 0]) := upd_same
    generalize upd G4 p1 (.tup [V.str "blocked", V.int 0]) = J1 at s1 h1 ⊢
    refine ⟨one, fun p2 n2 => ?_⟩
    have s2 := same_upd n2 (.lst [V.ref p1])
    have h2 := upd_same (H := J1) (a := p2) (o := .lst [V.ref p1])
    generalize upd J1 p2 (.lst [V.ref p1]) = J2 at s2 h2 ⊢
    refine ⟨p2, _, _, rfl, rfl, h2, by decide, by decide, by rw [sizeLine_eq]; show 4 ≤ _; decide, fun p3 n3 => ?_⟩
    have s3 := same_upd n3 (.lst (List.replicate (4 : Int).toNat [V.ref p1]).flatten)
    have h3 : upd J2 p3 (.lst (List.replicate (4 : Int).toNat [V.ref p1]).flatten) p3 = some (.lst [V.ref p1, V.ref p1, V.ref p1, V.ref p1]) := upd_same
    generalize upd J2 p3 (.lst (List.replicate (4 : Int).toNat [V.ref p1]).flatten) = J3 at s3 h3 ⊢
    have sA := (s1.trans s2).trans s3
    have tA := t4.mv (ExtN.of sA) (t4.tabs.ext sA)
    have iS : TIt K HB J3 (.ref p1) (.tuple [.str (wd 3), di 0]) := .inr ⟨p1, wd 3, iv 0, di 0, rfl, rfl, wd_word 3, oi.small, (s2.trans s3) _ _ h1, fun H' e => oi.sk (eHB.trans e)⟩
    dsimp only [tNil]
    refine due_repr tA.ext h3 (.cons iS (.cons iS (.cons iS (.cons iS .nil)))) (by show 4 ≤ 60; decide) ?_
    refine ⟨rfl, ?_⟩
    refine Eq.mpr (congrArg (fun b => Q (V.bl b) J3) (decide_eq_true ?_)) (k J3 (eHB.trans tA.ext) tA.tabs)
    rfl
end
end TR

namespace TR
open PySem PySem.Spec PyProof.Rows L2 L2.TT L2.TW StX ClX L2.TL LamX GenW
def spNoSt (K : PySem.W.Frag) : Sp := fun vs H Q _ => ∃ (dr cl : Addr) (n m : Nat), vs = [.ref dr, iv (m + 1)] ∧ DrawAt H dr cl n ∧ n ≤ 800000000 ∧ m ≤ 100 ∧
  ∀ (v : V) (d : PyData) (H' : Hp), DrawAt H' dr cl (n + 2) → Fr dr H H' → (∀ H2, Kp dr H' H2 → NoSt K H2 m v) → OddV K dr H' v d → Q v H'
structure Lf (d : PyData) : Prop where
  cl : d.canLay0 = true
  sh : d.showable = true
  lv : d.leavesShort 60 = true
  wt : d.weight ≤ 145
  dp : d.depth ≤ 3
theorem Lf.int {i : Int} (h : i.natAbs < 10 ^ 41) : Lf (.int i) := by
  have hl := log_40 h
  refine ⟨rfl, ?_, leaf_int h, ?_, ?_⟩
  · simp only [PyData.showable, decide_eq_true_eq]
    omega
  · simp only [PyData.weight]
    split <;> omega
  · simp only [PyData.depth]
    omega
theorem small_wt {i : Int} (h : i.natAbs < 1000) : (PyData.int i).weight ≤ 30 := by
  have hl : i.natAbs.log2 < 10 := by
    by_cases h0 : i.natAbs = 0
    · rw [h0]; decide
    · exact (Nat.log2_lt h0).mpr (by omega)
  simp only [PyData.weight]
  split <;> omega
theorem Lf.none : Lf .none := ⟨rfl, rfl, rfl, by decide, by decide⟩
theorem OddV.tup1 {K : PySem.W.Frag} {dr : Addr} {H : Hp} {t : Addr} {x : V} {d : PyData} (h : ∀ H', Kp dr H H' → H' t = some (.tup [x])) (i : ∀ H', Kp dr H H' → Dp K H' x d) (l : Lf d) : OddV K dr H (.ref t) (.tuple [d]) := by
  have h1 := l.cl
  have h2 := l.sh
  have h3 := l.lv
  have h4 := l.wt
  have h5 := l.dp
  refine ⟨fun H' z => .inl ⟨.tup (SqT.of (h H' z)) (.cons (i H' z) .nil), ?_⟩, ?_, ?_, ?_, ?_⟩
  · show (d.canLay0 && true) = true
    rw [h1]; rfl
  · show (d.showable && true) = true
    rw [h2]; rfl
  · show (d.leavesShort 60 && true) = true
    rw [h3]; rfl
  · show d.weight + 1 + 0 ≤ 200
    omega
  · show max d.depth 0 + 1 ≤ 10
    omega
theorem OddV.tup2 {K : PySem.W.Frag} {dr : Addr} {H : Hp} {t : Addr} {x y : V} {d e : PyData} (h : ∀ H', Kp dr H H' → H' t = some (.tup [x, y])) (i : ∀ H', Kp dr H H' → Dp K H' x d) (j : ∀ H', Kp dr H H' → Dp K H' y e) (l : Lf d) (l' : d.weight ≤ 30) (k : Lf e) : OddV K dr H (.ref t) (.tuple [d, e]) := by
  have h1 := l.cl
  have h2 := l.sh
  have h3 := l.lv
  have h4 := l.wt
  have h5 := l.dp
  have k1 := k.cl
  have k2 := k.sh
  have k3 := k.lv
  have k4 := k.wt
  have k5 := k.dp
  refine ⟨fun H' z => .inl ⟨.tup (SqT.of (h H' z)) (.cons (i H' z) (.cons (j H' z) .nil)), ?_⟩, ?_, ?_, ?_, ?_⟩
  · show (d.canLay0 && (e.canLay0 && true)) = true
    rw [h1, k1]; rfl
  · show (d.showable && (e.showable && true)) = true
    rw [h2, k2]; rfl
  · show (d.leavesShort 60 && (e.leavesShort 60 && true)) = true
    rw [h3, k3]; rfl
  · show d.weight + 1 + (e.weight + 1 + 0) ≤ 200
    omega
  · show max d.depth (max e.depth 0) + 1 ≤ 10
    omega
theorem isPr_x {x y : V} {n : Nat} (h : inR x 0 (((n : Int) + 1) - 1) = false) : isPr (some (x, y)) ((n : Int) + 1) = false := by
  show (inR x 0 (((n : Int) + 1) - 1) && inR y 0 (((n : Int) + 1) - 1) && decide (asInt x ≠ asInt y)) = false
  rw [h]; rfl
theorem isPr_y {x y : V} {n : Nat} (h : inR y 0 (((n : Int) + 1) - 1) = false) : isPr (some (x, y)) ((n : Int) + 1) = false := by
  show (inR x 0 (((n : Int) + 1) - 1) && inR y 0 (((n : Int) + 1) - 1) && decide (asInt x ≠ asInt y)) = false
  rw [h, Bool.and_false]; rfl
theorem isPr_eq {x : V} {n : Nat} : isPr (some (x, x)) ((n : Int) + 1) = false := by
  show (inR x 0 (((n : Int) + 1) - 1) && inR x 0 (((n : Int) + 1) - 1) && decide (asInt x ≠ asInt x)) = false
  rw [decide_eq_false (fun z => z rfl), Bool.and_false]
theorem inR_out {i k : Int} (h : k < i ∨ i < 0) : inR (.int i) 0 k = false := by
  show (decide ((0 : Int) ≤ i) && decide (i ≤ k)) = false
  rcases h with h | h
  · rw [show decide (i ≤ k) = false from decide_eq_false (by omega), Bool.and_false]
  · rw [show decide ((0 : Int) ≤ i) = false from decide_eq_false (by omega), Bool.false_and]
section
variable {P : Program} {w : World} {K : PySem.W.Frag} {mg : Str → Option Value} {base : Heap}
abbrev N_sc_nost : List Str := ["draw", "count", "spot", "some"]
theorem sc_nost : FnScope N_sc_nost ["draw", "count"] (defScope s_law_no_standing) := ⟨rfl, rfl, rfl, by decide +kernel, rfl, by decide +kernel, by decide +kernel⟩
theorem ok_nost {f fn : Addr} {fd fdn : FuncData} (F : Fun K "_law_no_standing" "_law_no_standing" s_law_no_standing f fd) (N : Nm mg) (U : Use P w K mg base CX0 2 "_law_next" fn fdn ["draw", "bound"] spNext) : FnOk P w K mg base CX0 3 f fd ["draw", "count"] (spNoSt K) := by
  refine F.ok sc_nost (fun vs H Q E h => ?_) (fun cdv A outer s H vs Q E hr h => ?_)
  · obtain ⟨dr, cl, n, m, rfl, _⟩ := h
    rfl
  · obtain ⟨dr, cl, n, m, rfl, D, hn, hm, k⟩ := h
    refine ⟨_, (pss_cons (ps_set (i := 2) sc_nost.nd rfl (.inl rfl) (pe_use U hr (by rfl) (pa_cons (pv 0) (pa_cons (pv 1) pa_nil))))
        (pss_cons (ps_set (i := 3) sc_nost.nd rfl (.inl rfl) (pe_lst (pa_cons pe_non (pa_cons pe_int (pa_cons pe_str (pa_cons (pe_tup pa_nil) (pa_cons (pe_tup (pa_cons (pv 2) pa_nil)) (pa_cons (pe_tup (pa_cons (pv 2) (pa_cons (pv 2) pa_nil))) (pa_cons (pe_lst (pa_cons pe_int (pa_cons pe_int pa_nil))) (pa_cons (pe_tup (pa_cons pe_int (pa_cons pe_int (pa_cons pe_int pa_nil)))) (pa_cons (pe_tup (pa_cons (pv 2) (pa_cons (pv 1) pa_nil))) (pa_cons (pe_tup (pa_cons (pe_op op_sub pe_int pe_int) (pa_cons (pv 2) pa_nil))) (pa_cons (pe_tup (pa_cons pe_bl (pa_cons pe_bl pa_nil))) pa_nil)))))))))))))
        (pss_cons (ps_set (i := 3) sc_nost.nd rfl (.inl rfl) (pe_op op_cat (pv 3) (pe_lst (pa_cons (pe_tup (pa_cons (pv 2) (pa_cons pe_non pa_nil))) (pa_cons (pe_tup (pa_cons pe_str (pa_cons pe_int pa_nil))) (pa_cons (pe_tup (pa_cons (pe_tup (pa_cons pe_int (pa_cons pe_int pa_nil))) pa_nil)) (pa_cons (pe_tup (pa_cons pe_int (pa_cons (pe_lst (pa_cons pe_int pa_nil)) pa_nil))) (pa_cons (pe_tup (pa_cons (pv 1) (pa_cons (pe_op op_add (pv 1) pe_int) pa_nil))) (pa_cons (pe_disp (pps_cons pe_int pe_int pps_nil) (by rfl) (by rfl) (fun z => by cases z) (by decide)) (pa_cons (pe_tup (pa_cons (pv 2) (pa_cons (pe_op op_pow pe_int pe_int) pa_nil))) pa_nil))))))))))
        (pss_one (ps_ret (pe_ix ix_list (pv 3) (pe_use U hr (by rfl) (pa_cons (pv 0) (pa_cons (pe_callB call_len_seq (by rfl) N.len boot_len (pa_cons (pv 3) pa_nil)) pa_nil))) (fun _ _ => rfl))))))), ?_⟩
    have one : (1 : Nat) ≤ sizeLine := by rw [sizeLine_eq]; decide
    have two : (2 : Nat) ≤ sizeLine := by rw [sizeLine_eq]; decide
    have big : (10 : Int) ^ (40 : Int).toNat = 10000000000000000000000000000000000000000 := by decide
    have e41 : (10 : Nat) ^ 41 = 100000000000000000000000000000000000000000 := by decide
    obtain ⟨kvd, hdd⟩ := D.some1
    refine ⟨_, rfl, _, rfl, dr, cl, _, n, rfl, D, by omega, by omega, by omega, fun rr H1 r0 r1 D1 k1 => ?_⟩
    obtain ⟨s, rfl⟩ := Int.eq_ofNat_of_zero_le r0
    have sm : s ≤ m := by omega
    obtain ⟨kv1, hd1⟩ := D1.some1
    clear r0 r1
    refine ⟨Nat.zero_le _, fun a1 na1 => ?_⟩
    have sa1 := same_upd na1 (.tup [])
    have fa1 := upd_same (H := H1) (a := a1) (o := .tup [])
    generalize upd H1 a1 (.tup []) = G1 at sa1 fa1 ⊢
    refine ⟨_, rfl, one, fun a2 na2 => ?_⟩
    have sa2 := same_upd na2 (.tup [iv s])
    have fa2 := upd_same (H := G1) (a := a2) (o := .tup [iv s])
    generalize upd G1 a2 (.tup [iv s]) = G2 at sa2 fa2 ⊢
    refine ⟨_, rfl, _, rfl, two, fun a3 na3 => ?_⟩
    have sa3 := same_upd na3 (.tup [iv s, iv s])
    have fa3 := upd_same (H := G2) (a := a3) (o := .tup [iv s, iv s])
    generalize upd G2 a3 (.tup [iv s, iv s]) = G3 at sa3 fa3 ⊢
    refine ⟨two, fun a4 na4 => ?_⟩
    have sa4 := same_upd na4 (.lst [V.int 0, V.int 1])
    have fa4 := upd_same (H := G3) (a := a4) (o := .lst [V.int 0, V.int 1])
    generalize upd G3 a4 (.lst [V.int 0, V.int 1]) = G4 at sa4 fa4 ⊢
    refine ⟨by rw [sizeLine_eq]; show 3 ≤ _; decide, fun a5 na5 => ?_⟩
    have sa5 := same_upd na5 (.tup [V.int 0, V.int 1, V.int 0])
    have fa5 := upd_same (H := G4) (a := a5) (o := .tup [V.int 0, V.int 1, V.int 0])
    generalize upd G4 a5 (.tup [V.int 0, V.int 1, V.int 0]) = G5 at sa5 fa5 ⊢
    refine ⟨_, rfl, _, rfl, two, fun a6 na6 => ?_⟩
    have sa6 := same_upd na6 (.tup [iv s, iv (m + 1)])
    have fa6 := upd_same (H := G5) (a := a6) (o := .tup [iv s, iv (m + 1)])
    generalize upd G5 a6 (.tup [iv s, iv (m + 1)]) = G6 at sa6 fa6 ⊢
    refine ⟨_, _, rfl, rfl, _, rfl, two, fun a7 na7 => ?_⟩
    have sa7 := same_upd na7 (.tup [V.int (0 - 1), iv s])
    have fa7 := upd_same (H := G6) (a := a7) (o := .tup [V.int (0 - 1), iv s])
    generalize upd G6 a7 (.tup [V.int (0 - 1), iv s]) = G7 at sa7 fa7 ⊢
    refine ⟨two, fun a8 na8 => ?_⟩
    have sa8 := same_upd na8 (.tup [V.bl true, V.bl false])
    have fa8 := upd_same (H := G7) (a := a8) (o := .tup [V.bl true, V.bl false])
    generalize upd G7 a8 (.tup [V.bl true, V.bl false]) = G8 at sa8 fa8 ⊢
    refine ⟨by rw [sizeLine_eq]; show 11 ≤ _; decide, fun L1 nL1 => ?_⟩
    have sL1 := same_upd nL1 (.lst [V.non, V.int 5, V.str "01", .ref a1, .ref a2, .ref a3, .ref a4, .ref a5, .ref a6, .ref a7, .ref a8])
    have fL1 := upd_same (H := G8) (a := L1) (o := .lst [V.non, V.int 5, V.str "01", .ref a1, .ref a2, .ref a3, .ref a4, .ref a5, .ref a6, .ref a7, .ref a8])
    generalize upd G8 L1 (.lst [V.non, V.int 5, V.str "01", .ref a1, .ref a2, .ref a3, .ref a4, .ref a5, .ref a6, .ref a7, .ref a8]) = G9 at sL1 fL1 ⊢
    refine ⟨_, rfl, _, rfl, two, fun b1 nb1 => ?_⟩
    have sb1 := same_upd nb1 (.tup [iv s, V.non])
    have fb1 := upd_same (H := G9) (a := b1) (o := .tup [iv s, V.non])
    generalize upd G9 b1 (.tup [iv s, V.non]) = G10 at sb1 fb1 ⊢
    refine ⟨two, fun b2 nb2 => ?_⟩
    have sb2 := same_upd nb2 (.tup [V.str "0", V.int 1])
    have fb2 := upd_same (H := G10) (a := b2) (o := .tup [V.str "0", V.int 1])
    generalize upd G10 b2 (.tup [V.str "0", V.int 1]) = G11 at sb2 fb2 ⊢
    refine ⟨two, fun c3 nc3 => ?_⟩
    have sc3 := same_upd nc3 (.tup [V.int 0, V.int 1])
    have fc3 := upd_same (H := G11) (a := c3) (o := .tup [V.int 0, V.int 1])
    generalize upd G11 c3 (.tup [V.int 0, V.int 1]) = G12 at sc3 fc3 ⊢
    refine ⟨one, fun b3 nb3 => ?_⟩
    have sb3 := same_upd nb3 (.tup [.ref c3])
    have fb3 := upd_same (H := G12) (a := b3) (o := .tup [.ref c3])
    generalize upd G12 b3 (.tup [.ref c3]) = G13 at sb3 fb3 ⊢
    refine ⟨one, fun c4 nc4 => ?_⟩
    have sc4 := same_upd nc4 (.lst [V.int 1])
    have fc4 := upd_same (H := G13) (a := c4) (o := .lst [V.int 1])
    generalize upd G13 c4 (.lst [V.int 1]) = G14 at sc4 fc4 ⊢
    refine ⟨two, fun b4 nb4 => ?_⟩
    have sb4 := same_upd nb4 (.tup [V.int 0, .ref c4])
    have fb4 := upd_same (H := G14) (a := b4) (o := .tup [V.int 0, .ref c4])
    generalize upd G14 b4 (.tup [V.int 0, .ref c4]) = G15 at sb4 fb4 ⊢
    refine ⟨_, rfl, _, rfl, _, _, rfl, rfl, two, fun b5 nb5 => ?_⟩
    have sb5 := same_upd nb5 (.tup [iv (m + 1), V.int (((m + 1 : Nat) : Int) + 1)])
    have fb5 := upd_same (H := G15) (a := b5) (o := .tup [iv (m + 1), V.int (((m + 1 : Nat) : Int) + 1)])
    generalize upd G15 b5 (.tup [iv (m + 1), V.int (((m + 1 : Nat) : Int) + 1)]) = G16 at sb5 fb5 ⊢
    refine fun b6 nb6 => ⟨upd_same, [(.inl 0, .int 1)], rfl, by show 1 ≤ 15; decide, ?_⟩
    rw [upd_upd]
    have sb6 := same_upd nb6 (.dK (mergeK [] [(.inl 0, .int 1)]))
    have fb6 := upd_same (H := G16) (a := b6) (o := .dK (mergeK [] [(.inl 0, .int 1)]))
    generalize upd G16 b6 (.dK (mergeK [] [(.inl 0, .int 1)])) = G17 at sb6 fb6 ⊢
    refine ⟨_, rfl, _, _, rfl, rfl, ⟨by decide, by decide, by decide⟩, two, fun b7 nb7 => ?_⟩
    have sb7 := same_upd nb7 (.tup [iv s, V.int (10 ^ (40 : Int).toNat)])
    have fb7 := upd_same (H := G17) (a := b7) (o := .tup [iv s, V.int (10 ^ (40 : Int).toNat)])
    generalize upd G17 b7 (.tup [iv s, V.int (10 ^ (40 : Int).toNat)]) = G18 at sb7 fb7 ⊢
    refine ⟨by rw [sizeLine_eq]; show 7 ≤ _; decide, fun L2 nL2 => ?_⟩
    have sL2 := same_upd nL2 (.lst [.ref b1, .ref b2, .ref b3, .ref b4, .ref b5, .ref b6, .ref b7])
    have fL2 := upd_same (H := G18) (a := L2) (o := .lst [.ref b1, .ref b2, .ref b3, .ref b4, .ref b5, .ref b6, .ref b7])
    generalize upd G18 L2 (.lst [.ref b1, .ref b2, .ref b3, .ref b4, .ref b5, .ref b6, .ref b7]) = G19 at sL2 fL2 ⊢
    have uL2 := sL2
    have ub7 := sb7.trans uL2
    have ub6 := sb6.trans ub7
    have ub5 := sb5.trans ub6
    have ub4 := sb4.trans ub5
    have uc4 := sc4.trans ub4
    have ub3 := sb3.trans uc4
    have uc3 := sc3.trans ub3
    have ub2 := sb2.trans uc3
    have ub1 := sb1.trans ub2
    have uL1 := sL1.trans ub1
    have ua8 := sa8.trans uL1
    have ua7 := sa7.trans ua8
    have ua6 := sa6.trans ua7
    have ua5 := sa5.trans ua6
    have ua4 := sa4.trans ua5
    have ua3 := sa3.trans ua4
    have ua2 := sa2.trans ua3
    have ua1 := sa1.trans ua2
    refine ⟨L1, L2, _, _, rfl, rfl, ub1 _ _ fL1, fL2, by rw [sizeLine_eq]; show 18 ≤ _; decide, fun L3 nL3 => ?_⟩
    obtain ⟨O, hO⟩ : ∃ O : List V, O = ([V.non, V.int 5, V.str "01", .ref a1, .ref a2, .ref a3, .ref a4, .ref a5, .ref a6, .ref a7, .ref a8] ++ [.ref b1, .ref b2, .ref b3, .ref b4, .ref b5, .ref b6, .ref b7]) := ⟨_, rfl⟩
    have lO : O.length = 18 := by rw [hO]; rfl
    rw [← hO]
    have sL3 := same_upd nL3 (.lst O)
    have fL3 := upd_same (H := G19) (a := L3) (o := .lst O)
    generalize upd G19 L3 (.lst O) = J at sL3 fL3 ⊢
    have uA := ua1.trans sL3
    have DJ := D1.same uA
    obtain ⟨kvj, hdj⟩ := DJ.some1
    refine ⟨_, rfl, _, rfl, _, rfl, L3, _, rfl, .inl (SqL.of fL3), dr, cl, _, n + 1, rfl, DJ, by omega, by rw [lO]; decide, by rw [lO]; decide, fun ri H2 r0 r1 D2 k2 => ?_⟩
    have fr2 := Fr.of k2
    obtain ⟨kv2, hd2⟩ := D2.some1
    have ga1 := fr2 _ _ ((ua2.trans sL3) _ _ fa1) (ne_of ((ua2.trans sL3) _ _ fa1) hdj (by intro z; cases z))
    have xa1 := ne_of ga1 hd2 (by intro z; cases z)
    have ga2 := fr2 _ _ ((ua3.trans sL3) _ _ fa2) (ne_of ((ua3.trans sL3) _ _ fa2) hdj (by intro z; cases z))
    have xa2 := ne_of ga2 hd2 (by intro z; cases z)
    have ga3 := fr2 _ _ ((ua4.trans sL3) _ _ fa3) (ne_of ((ua4.trans sL3) _ _ fa3) hdj (by intro z; cases z))
    have xa3 := ne_of ga3 hd2 (by intro z; cases z)
    have ga4 := fr2 _ _ ((ua5.trans sL3) _ _ fa4) (ne_of ((ua5.trans sL3) _ _ fa4) hdj (by intro z; cases z))
    have xa4 := ne_of ga4 hd2 (by intro z; cases z)
    have ga5 := fr2 _ _ ((ua6.trans sL3) _ _ fa5) (ne_of ((ua6.trans sL3) _ _ fa5) hdj (by intro z; cases z))
    have xa5 := ne_of ga5 hd2 (by intro z; cases z)
    have ga6 := fr2 _ _ ((ua7.trans sL3) _ _ fa6) (ne_of ((ua7.trans sL3) _ _ fa6) hdj (by intro z; cases z))
    have xa6 := ne_of ga6 hd2 (by intro z; cases z)
    have ga7 := fr2 _ _ ((ua8.trans sL3) _ _ fa7) (ne_of ((ua8.trans sL3) _ _ fa7) hdj (by intro z; cases z))
    have xa7 := ne_of ga7 hd2 (by intro z; cases z)
    have ga8 := fr2 _ _ ((uL1.trans sL3) _ _ fa8) (ne_of ((uL1.trans sL3) _ _ fa8) hdj (by intro z; cases z))
    have xa8 := ne_of ga8 hd2 (by intro z; cases z)
    have gb1 := fr2 _ _ ((ub2.trans sL3) _ _ fb1) (ne_of ((ub2.trans sL3) _ _ fb1) hdj (by intro z; cases z))
    have xb1 := ne_of gb1 hd2 (by intro z; cases z)
    have gb2 := fr2 _ _ ((uc3.trans sL3) _ _ fb2) (ne_of ((uc3.trans sL3) _ _ fb2) hdj (by intro z; cases z))
    have xb2 := ne_of gb2 hd2 (by intro z; cases z)
    have gc3 := fr2 _ _ ((ub3.trans sL3) _ _ fc3) (ne_of ((ub3.trans sL3) _ _ fc3) hdj (by intro z; cases z))
    have xc3 := ne_of gc3 hd2 (by intro z; cases z)
    have gb3 := fr2 _ _ ((uc4.trans sL3) _ _ fb3) (ne_of ((uc4.trans sL3) _ _ fb3) hdj (by intro z; cases z))
    have xb3 := ne_of gb3 hd2 (by intro z; cases z)
    have gc4 := fr2 _ _ ((ub4.trans sL3) _ _ fc4) (ne_of ((ub4.trans sL3) _ _ fc4) hdj (by intro z; cases z))
    have xc4 := ne_of gc4 hd2 (by intro z; cases z)
    have gb4 := fr2 _ _ ((ub5.trans sL3) _ _ fb4) (ne_of ((ub5.trans sL3) _ _ fb4) hdj (by intro z; cases z))
    have xb4 := ne_of gb4 hd2 (by intro z; cases z)
    have gb5 := fr2 _ _ ((ub6.trans sL3) _ _ fb5) (ne_of ((ub6.trans sL3) _ _ fb5) hdj (by intro z; cases z))
    have xb5 := ne_of gb5 hd2 (by intro z; cases z)
    have xb6 : b6 ≠ dr := fun z => by rw [z] at nb6; have := (sa1.trans (sa2.trans (sa3.trans (sa4.trans (sa5.trans (sa6.trans (sa7.trans (sa8.trans (sL1.trans (sb1.trans (sb2.trans (sc3.trans (sb3.trans (sc4.trans (sb4.trans (sb5)))))))))))))))) _ _ hd1; rw [nb6] at this; cases this
    have gb6 := fr2 _ _ ((ub7.trans sL3) _ _ fb6) xb6
    have gb7 := fr2 _ _ ((uL2.trans sL3) _ _ fb7) (ne_of ((uL2.trans sL3) _ _ fb7) hdj (by intro z; cases z))
    have xb7 := ne_of gb7 hd2 (by intro z; cases z)
    have gL3 := fr2 _ _ fL3 (ne_of fL3 hdj (by intro z; cases z))
    obtain ⟨odd, ho, hmem⟩ := pickAll (P := fun v => v ∈ O) (xs := O) r0 r1 (fun x h => h)
    refine ⟨L3, _, _, odd, rfl, rfl, SqL.of gL3, ho, ?_⟩
    have at_ : ∀ {t : Addr} {xs : List V}, H2 t = some (.tup xs) → t ≠ dr → ∀ H', Kp dr H2 H' → H' t = some (.tup xs) := fun h x H' z => z _ _ h x (fun _ z => by cases z)
    have li : ∀ {i : Int}, i.natAbs < 10 ^ 41 → Lf (.int i) := Lf.int
    have ls : Lf (di s) := li (by rw [e41]; omega)
    have lm : Lf (di (m + 1)) := li (by rw [e41]; omega)
    have ws : (di s).weight ≤ 30 := small_wt (by omega)
    have ii : ∀ (i : Int) H', Kp dr H2 H' → Dp K H' (.int i) (.int i) := fun i _ _ => .int i
    obtain ⟨d, hb, hd⟩ : ∃ d, (∀ H', Kp dr H2 H' → NoSt K H' m odd) ∧ OddV K dr H2 odd d := by
      rw [hO] at hmem
      simp only [List.cons_append, List.nil_append, List.mem_cons, List.not_mem_nil, or_false] at hmem
      rcases hmem with rfl | rfl | rfl | rfl | rfl | rfl | rfl | rfl | rfl | rfl | rfl | rfl | rfl | rfl | rfl | rfl | rfl | rfl
      · exact ⟨.none, fun H' _ => ⟨none, .no (n := "NoneType") (.base .non) (by decide +kernel), rfl⟩, fun _ _ => .inl ⟨.non, rfl⟩, rfl, rfl, by decide, by decide⟩
      · exact ⟨_, fun H' _ => ⟨none, .no (n := "int") (.base (.int _)) (by decide +kernel), rfl⟩, OddV.int (by rw [e41]; decide)⟩
      · exact ⟨.str "01", fun H' _ => ⟨none, .no (n := "str") (.base (.str _)) (by decide +kernel), rfl⟩, fun _ _ => .inl ⟨.str _, by decide +kernel⟩, rfl, by decide +kernel, by decide +kernel, by decide +kernel⟩
      · exact ⟨.tuple [], fun H' z => ⟨none, .tup (at_ ga1 xa1 H' z) (by decide), rfl⟩, fun H' z => .inl ⟨.tup (SqT.of (at_ ga1 xa1 H' z)) .nil, rfl⟩, by decide +kernel, by decide +kernel, by decide +kernel, by decide +kernel⟩
      · exact ⟨_, fun H' z => ⟨none, .tup (at_ ga2 xa2 H' z) (by show ¬ 1 = 2; decide), rfl⟩, OddV.tup1 (at_ ga2 xa2) (ii _) ls⟩
      · exact ⟨_, fun H' z => ⟨_, .two (at_ ga3 xa3 H' z) (.inl ⟨_, rfl⟩) (.inl ⟨_, rfl⟩), isPr_eq⟩, OddV.tup2 (at_ ga3 xa3) (ii _) (ii _) ls ws ls⟩
      · exact ⟨.list [.int 0, .int 1], fun H' z => ⟨none, .no (n := "list") (.base (.lst (z _ _ ga4 xa4 (fun _ z => by cases z)))) (by decide +kernel), rfl⟩, fun H' z => .inl ⟨.lst (SqL.of (z _ _ ga4 xa4 (fun _ z => by cases z))) (.cons (.int 0) (.cons (.int 1) .nil)), rfl⟩, by decide +kernel, by decide +kernel, by decide +kernel, by decide +kernel⟩
      · exact ⟨.tuple [.int 0, .int 1, .int 0], fun H' z => ⟨none, .tup (at_ ga5 xa5 H' z) (by show ¬ 3 = 2; decide), rfl⟩, fun H' z => .inl ⟨.tup (SqT.of (at_ ga5 xa5 H' z)) (.cons (.int 0) (.cons (.int 1) (.cons (.int 0) .nil))), rfl⟩, by decide +kernel, by decide +kernel, by decide +kernel, by decide +kernel⟩
      · exact ⟨_, fun H' z => ⟨_, .two (at_ ga6 xa6 H' z) (.inl ⟨_, rfl⟩) (.inl ⟨_, rfl⟩), isPr_y (inR_out (.inl (by omega)))⟩, OddV.tup2 (at_ ga6 xa6) (ii _) (ii _) ls ws lm⟩
      · exact ⟨_, fun H' z => ⟨_, .two (at_ ga7 xa7 H' z) (.inl ⟨_, rfl⟩) (.inl ⟨_, rfl⟩), isPr_x (inR_out (.inr (by decide)))⟩, OddV.tup2 (at_ ga7 xa7) (ii _) (ii _) (li (by rw [e41]; decide)) (small_wt (by decide)) ls⟩
      · exact ⟨.tuple [.bool true, .bool false], fun H' z => ⟨_, .two (at_ ga8 xa8 H' z) (.inr (.inl ⟨_, rfl⟩)) (.inr (.inl ⟨_, rfl⟩)), isPr_x rfl⟩, fun H' z => .inl ⟨.tup (SqT.of (at_ ga8 xa8 H' z)) (.cons (.bl _) (.cons (.bl _) .nil)), rfl⟩, by decide +kernel, by decide +kernel, by decide +kernel, by decide +kernel⟩
      · exact ⟨_, fun H' z => ⟨_, .two (at_ gb1 xb1 H' z) (.inl ⟨_, rfl⟩) (.inr NI.non), isPr_y rfl⟩, OddV.tup2 (at_ gb1 xb1) (ii _) (fun _ _ => .non) ls ws Lf.none⟩
      · exact ⟨.tuple [.str "0", .int 1], fun H' z => ⟨_, .two (at_ gb2 xb2 H' z) (.inr NI.str) (.inl ⟨_, rfl⟩), isPr_x rfl⟩, fun H' z => .inl ⟨.tup (SqT.of (at_ gb2 xb2 H' z)) (.cons (.str _) (.cons (.int 1) .nil)), by decide +kernel⟩, by decide +kernel, by decide +kernel, by decide +kernel, by decide +kernel⟩
      · exact ⟨.tuple [.tuple [.int 0, .int 1]], fun H' z => ⟨none, .tup (at_ gb3 xb3 H' z) (by show ¬ 1 = 2; decide), rfl⟩, fun H' z => .inl ⟨.tup (SqT.of (at_ gb3 xb3 H' z)) (.cons (.tup (SqT.of (at_ gc3 xc3 H' z)) (.cons (.int 0) (.cons (.int 1) .nil))) .nil), rfl⟩, by decide +kernel, by decide +kernel, by decide +kernel, by decide +kernel⟩
      · exact ⟨.tuple [.int 0, .list [.int 1]], fun H' z => ⟨_, .two (at_ gb4 xb4 H' z) (.inl ⟨_, rfl⟩) (.inr (NI.lst (z _ _ gc4 xc4 (fun _ z => by cases z)))), isPr_y rfl⟩, fun H' z => .inl ⟨.tup (SqT.of (at_ gb4 xb4 H' z)) (.cons (.int 0) (.cons (.lst (SqL.of (z _ _ gc4 xc4 (fun _ z => by cases z))) (.cons (.int 1) .nil)) .nil)), rfl⟩, by decide +kernel, by decide +kernel, by decide +kernel, by decide +kernel⟩
      · exact ⟨_, fun H' z => ⟨_, .two (at_ gb5 xb5 H' z) (.inl ⟨_, rfl⟩) (.inl ⟨_, rfl⟩), isPr_x (inR_out (.inl (by omega)))⟩, OddV.tup2 (at_ gb5 xb5) (ii _) (ii _) lm (small_wt (by omega)) (li (by rw [e41]; omega))⟩
      · exact ⟨.dict [(.int 0, .int 1)], fun H' z => ⟨none, .no (n := "dict") (.base (.dK (z _ _ gb6 xb6 (fun _ z => by cases z)))) (by decide +kernel), rfl⟩, fun H' z => .inr (.dic (z _ _ gb6 xb6 (fun _ z => by cases z)) (.cons ⟨rfl, .int 1⟩ .nil)), by decide +kernel, by decide +kernel, by decide +kernel, by decide +kernel⟩
      · exact ⟨_, fun H' z => ⟨_, .two (at_ gb7 xb7 H' z) (.inl ⟨_, rfl⟩) (.inl ⟨_, rfl⟩), isPr_y (inR_out (.inl (by rw [big]; omega)))⟩, OddV.tup2 (at_ gb7 xb7) (ii _) (ii _) ls ws (li (by rw [big, e41]; decide))⟩
    exact k odd d H2 D2 (((Fr.of k1).trans (Fr.sm uA)).trans fr2) hb hd
end
end TR


namespace TR
open PySem PySem.Spec PyProof.Rows L2 L2.TT L2.TW StX ClX L2.TL LamX GenW
def spNoLen (K : PySem.W.Frag) : Sp := fun vs H Q _ => ∃ (dr cl : Addr) (n : Nat), vs = [.ref dr] ∧ DrawAt H dr cl n ∧ n ≤ 800000000 ∧
  ∀ (v : V) (d : PyData) (H' : Hp), DrawAt H' dr cl (n + 1) → Fr dr H H' → (∀ H2, Kp dr H' H2 → BadL K H2 v) → OddV K dr H' v d → Q v H'
def spNoMv (K : PySem.W.Frag) : Sp := fun vs H Q _ => ∃ (dr cl : Addr) (n m : Nat), vs = [.ref dr, iv (m + 1)] ∧ DrawAt H dr cl n ∧ n ≤ 800000000 ∧ m ≤ 100 ∧
  ∀ (v : V) (H' : Hp), DrawAt H' dr cl (n + 1) → Fr dr H H' → (∀ H2, Kp dr H' H2 → NoM K H2 m v) → Q v H'
theorem same_put {H0 H : Hp} {tl : Addr} {o : HO} (e : Same H0 H) (n : H0 tl = none) : Same H0 (upd H tl o) := fun b u h => by
  rw [upd_ne (ne_of_none h n)]
  exact e b u h
theorem isMv_w {x y : V} {n : Nat} (h : inV x [.str "head", .str "tail"] = false) : isMv (some (x, y)) n = false := by
  show (inV x [.str "head", .str "tail"] && inR y 0 n) = false
  rw [h]; rfl
theorem isMv_p {x y : V} {n : Nat} (h : inR y 0 n = false) : isMv (some (x, y)) n = false := by
  show (inV x [.str "head", .str "tail"] && inR y 0 n) = false
  rw [h, Bool.and_false]
theorem nom_no {K : PySem.W.Frag} {H : Hp} {v : V} {n : Nat} (h : PV K H v none) : NoM K H n v := ⟨none, h, (fun _ _ z => by cases z), rfl⟩
theorem nom_two {K : PySem.W.Frag} {H : Hp} {a : Addr} {x y : V} {n : Nat} (h : H a = some (.tup [x, y])) (hx : IV K H x) (hy : IV K H y) (f : flatV x = true) (i : isMv (some (x, y)) n = false) : NoM K H n (.ref a) := ⟨_, .two h hx hy, (fun a b z => by cases z; exact f), i⟩
section
variable {P : Program} {w : World} {K : PySem.W.Frag} {mg : Str → Option Value} {base : Heap}
theorem sc_nolen : FnScope ["draw"] ["draw"] (defScope s_law_no_length) := ⟨rfl, rfl, rfl, by decide +kernel, rfl, by decide +kernel, by decide +kernel⟩
theorem ok_nolen {f fn : Addr} {fd fdn : FuncData} (F : Fun K "_law_no_length" "_law_no_length" s_law_no_length f fd) (U : Use P w K mg base CX0 2 "_law_next" fn fdn ["draw", "bound"] spNext) : FnOk P w K mg base CX0 3 f fd ["draw"] (spNoLen K) := by
  refine F.ok sc_nolen (fun vs H Q E h => ?_) (fun cdv A outer s H vs Q E hr h => ?_)
  · obtain ⟨dr, cl, n, rfl, _⟩ := h
    rfl
  · obtain ⟨dr, cl, n, rfl, D, hn, k⟩ := h
    refine ⟨_, pss_one (ps_ret (pe_ix ix_list (pe_lst (pa_cons pe_non (pa_cons pe_int (pa_cons (pe_un un_neg pe_int) (pa_cons pe_bl (pa_cons pe_bl (pa_cons pe_str (pa_cons (pe_tup (pa_cons pe_int pa_nil)) (pa_cons (pe_lst (pa_cons pe_int pa_nil)) (pa_cons pe_dnewK (pa_cons (pe_op op_sub pe_int (pe_op op_pow pe_int pe_int)) pa_nil)))))))))))
        (pe_use U hr (by rfl) (pa_cons (pv 0) (pa_cons pe_int pa_nil))) (fun _ _ => rfl))), ?_⟩
    have one : (1 : Nat) ≤ sizeLine := by rw [sizeLine_eq]; decide
    obtain ⟨kvd, hdd⟩ := D.some1
    refine ⟨_, rfl, one, fun a1 n1 => ?_⟩
    have s1 := same_upd n1 (.tup [V.int 1])
    have g1 := upd_same (H := H) (a := a1) (o := .tup [V.int 1])
    generalize upd H a1 (.tup [V.int 1]) = G1 at s1 g1
    refine ⟨one, fun a2 n2 => ?_⟩
    have s2 := same_upd n2 (.lst [V.int 2])
    have g2 := upd_same (H := G1) (a := a2) (o := .lst [V.int 2])
    generalize upd G1 a2 (.lst [V.int 2]) = G2 at s2 g2
    refine fun a3 n3 => ?_
    have s3 := same_upd n3 (.dK [])
    have g3 := upd_same (H := G2) (a := a3) (o := .dK [])
    generalize upd G2 a3 (.dK []) = G3 at s3 g3
    refine ⟨_, _, rfl, rfl, ⟨by decide, by decide, by decide⟩, _, _, rfl, rfl, by show 10 ≤ sizeLine; rw [sizeLine_eq]; decide, fun a5 n5 => ?_⟩
    obtain ⟨O, hO⟩ : ∃ O : List V, O = [V.non, V.int 0, V.int (-1), V.bl true, V.bl false, V.str (Str.ofString "1"), .ref a1, .ref a2, .ref a3, V.int (0 - 10 ^ (40 : Int).toNat)] := ⟨_, rfl⟩
    have s5 := same_upd n5 (.lst O)
    have g5 := upd_same (H := G3) (a := a5) (o := .lst O)
    have lO : O.length = 10 := by rw [hO]; rfl
    rw [← hO]
    generalize upd G3 a5 (.lst O) = G5 at s5 g5
    have t3 : Same G3 G5 := s5
    have t2 := s3.trans t3
    have t1 := s2.trans t2
    have t0 := s1.trans t1
    have D5 := D.same t0
    obtain ⟨kv5, hd5⟩ := D5.some1
    refine ⟨_, rfl, dr, cl, 10, n, rfl, D5, by omega, by decide, by decide, fun ri H2 r0 r1 D2 k2 => ?_⟩
    have fr2 := Fr.of k2
    have f1 := fr2 _ _ (t1 _ _ g1) (ne_of (t1 _ _ g1) hd5 (by intro z; cases z))
    have f2 := fr2 _ _ (t2 _ _ g2) (ne_of (t2 _ _ g2) hd5 (by intro z; cases z))
    have d3 : a3 ≠ dr := fun z => by rw [z, s2 _ _ (s1 _ _ hdd)] at n3; cases n3
    have f3 := fr2 _ _ (t3 _ _ g3) d3
    have f5 := fr2 _ _ g5 (ne_of g5 hd5 (by intro z; cases z))
    obtain ⟨kv2, hd2⟩ := D2.some1
    have n1' := ne_of f1 hd2 (by intro z; cases z)
    have n2' := ne_of f2 hd2 (by intro z; cases z)
    obtain ⟨odd, ho, hmem⟩ := pickAll (P := fun v => v ∈ O) (xs := O) r0 (by rw [lO]; exact r1) (fun x h => h)
    refine ⟨a5, _, _, odd, rfl, rfl, SqL.of f5, ho, ?_⟩
    have big : (10 : Int) ^ (40 : Int).toNat = 10000000000000000000000000000000000000000 := by decide
    have e41 : (10 : Nat) ^ 41 = 100000000000000000000000000000000000000000 := by decide
    obtain ⟨d, hb, hd⟩ : ∃ d, (∀ H', Kp dr H2 H' → BadL K H' odd) ∧ OddV K dr H2 odd d := by
      rw [hO] at hmem
      simp only [List.mem_cons, List.not_mem_nil, or_false] at hmem
      rcases hmem with rfl | rfl | rfl | rfl | rfl | rfl | rfl | rfl | rfl | rfl
      · exact ⟨.none, fun H' _ => .inl NI.non, fun _ _ => .inl ⟨.non, rfl⟩, rfl, rfl, by decide, by decide⟩
      · exact ⟨_, fun H' _ => .inr ⟨_, rfl, by decide⟩, OddV.int (by decide)⟩
      · exact ⟨_, fun H' _ => .inr ⟨_, rfl, by decide⟩, OddV.int (by decide)⟩
      · exact ⟨.bool true, fun H' _ => .inl (.inl ⟨_, rfl⟩), fun _ _ => .inl ⟨.bl _, rfl⟩, rfl, rfl, by decide, by decide⟩
      · exact ⟨.bool false, fun H' _ => .inl (.inl ⟨_, rfl⟩), fun _ _ => .inl ⟨.bl _, rfl⟩, rfl, rfl, by decide, by decide⟩
      · exact ⟨.str "1", fun H' _ => .inl NI.str, fun _ _ => .inl ⟨.str _, by decide +kernel⟩, rfl, by decide +kernel, by decide +kernel, by decide +kernel⟩
      · exact ⟨.tuple [.int 1], fun H' z => .inl (NI.tup (z _ _ f1 n1' (fun _ z => by cases z))), fun H' z => .inl ⟨.tup (SqT.of (z _ _ f1 n1' (fun _ z => by cases z))) (.cons (.int 1) .nil), rfl⟩, by decide +kernel, by decide +kernel, by decide +kernel, by decide +kernel⟩
      · exact ⟨.list [.int 2], fun H' z => .inl (NI.lst (z _ _ f2 n2' (fun _ z => by cases z))), fun H' z => .inl ⟨.lst (SqL.of (z _ _ f2 n2' (fun _ z => by cases z))) (.cons (.int 2) .nil), rfl⟩, by decide +kernel, by decide +kernel, by decide +kernel, by decide +kernel⟩
      · exact ⟨.dict [], fun H' z => .inl (NI.dK (z _ _ f3 d3 (fun _ z => by cases z))), fun H' z => .inr (.dic (z _ _ f3 d3 (fun _ z => by cases z)) .nil), by decide +kernel, by decide +kernel, by decide +kernel, by decide +kernel⟩
      · exact ⟨_, fun H' _ => .inr ⟨_, rfl, by rw [big]; decide⟩, OddV.int (by rw [big, e41]; decide)⟩
    exact k odd d H2 D2 ((Fr.sm t0).trans fr2) hb hd
abbrev N_sc_nom : List Str := ["draw", "count", "some"]
theorem sc_nom : FnScope N_sc_nom ["draw", "count"] (defScope s_law_no_move) := ⟨rfl, rfl, rfl, by decide +kernel, rfl, by decide +kernel, by decide +kernel⟩
theorem ok_nom {f fn : Addr} {fd fdn : FuncData} (F : Fun K "_law_no_move" "_law_no_move" s_law_no_move f fd) (N : Nm mg) (U : Use P w K mg base CX0 2 "_law_next" fn fdn ["draw", "bound"] spNext) : FnOk P w K mg base CX0 3 f fd ["draw", "count"] (spNoMv K) := by
  refine F.ok sc_nom (fun vs H Q E h => ?_) (fun cdv A outer s H vs Q E hr h => ?_)
  · obtain ⟨dr, cl, n, m, rfl, _⟩ := h
    rfl
  · obtain ⟨dr, cl, n, m, rfl, D, hn, hm, k⟩ := h
    refine ⟨_, (pss_cons (ps_set (i := 2) sc_nom.nd rfl (.inl rfl) (pe_lst (pa_cons pe_non (pa_cons pe_int (pa_cons pe_str (pa_cons (pe_tup pa_nil) (pa_cons (pe_tup (pa_cons pe_str pa_nil)) (pa_cons (pe_tup (pa_cons pe_str (pa_cons pe_int (pa_cons pe_int pa_nil)))) (pa_cons (pe_lst (pa_cons pe_str (pa_cons pe_int pa_nil))) (pa_cons (pe_tup (pa_cons pe_str (pa_cons pe_int pa_nil))) (pa_cons (pe_tup (pa_cons pe_int (pa_cons pe_str pa_nil))) (pa_cons (pe_tup (pa_cons pe_str (pa_cons (pv 1) pa_nil))) pa_nil))))))))))))
        (pss_cons (ps_set (i := 2) sc_nom.nd rfl (.inl rfl) (pe_op op_cat (pv 2) (pe_lst (pa_cons (pe_tup (pa_cons pe_str (pa_cons (pe_op op_sub pe_int pe_int) pa_nil))) (pa_cons (pe_tup (pa_cons pe_str (pa_cons pe_bl pa_nil))) (pa_cons (pe_tup (pa_cons pe_str (pa_cons pe_non pa_nil))) (pa_cons (pe_tup (pa_cons pe_str (pa_cons pe_str pa_nil))) (pa_cons (pe_tup (pa_cons (pe_tup (pa_cons pe_str (pa_cons pe_int pa_nil))) pa_nil)) (pa_cons (pe_tup (pa_cons pe_str (pa_cons pe_int pa_nil))) pa_nil)))))))))
        (pss_cons (ps_expr (pe_bm PySem.F.plainAttrs_list PySem.F.slot_list_append PySem.F.type_list_append mt_append (pv 2) (pa_cons (pe_tup (pa_cons pe_str (pa_cons (pe_lst (pa_cons pe_int pa_nil)) pa_nil))) pa_nil)))
        (pss_one (ps_ret (pe_ix ix_list (pv 2) (pe_use U hr (by rfl) (pa_cons (pv 0) (pa_cons (pe_callB call_len_seq (by rfl) N.len boot_len (pa_cons (pv 2) pa_nil)) pa_nil))) (fun _ _ => rfl))))))), ?_⟩
    have one : (1 : Nat) ≤ sizeLine := by rw [sizeLine_eq]; decide
    have two : (2 : Nat) ≤ sizeLine := by rw [sizeLine_eq]; decide
    obtain ⟨kvd, hdd⟩ := D.some1
    refine ⟨Nat.zero_le _, fun a1 na1 => ?_⟩
    have sa1 := same_upd na1 (.tup [])
    have fa1 := upd_same (H := H) (a := a1) (o := .tup [])
    generalize upd H a1 (.tup []) = G1 at sa1 fa1 ⊢
    refine ⟨one, fun a2 na2 => ?_⟩
    have sa2 := same_upd na2 (.tup [V.str "head"])
    have fa2 := upd_same (H := G1) (a := a2) (o := .tup [V.str "head"])
    generalize upd G1 a2 (.tup [V.str "head"]) = G2 at sa2 fa2 ⊢
    refine ⟨by rw [sizeLine_eq]; show 3 ≤ _; decide, fun a3 na3 => ?_⟩
    have sa3 := same_upd na3 (.tup [V.str "head", V.int 0, V.int 0])
    have fa3 := upd_same (H := G2) (a := a3) (o := .tup [V.str "head", V.int 0, V.int 0])
    generalize upd G2 a3 (.tup [V.str "head", V.int 0, V.int 0]) = G3 at sa3 fa3 ⊢
    refine ⟨two, fun a4 na4 => ?_⟩
    have sa4 := same_upd na4 (.lst [V.str "head", V.int 0])
    have fa4 := upd_same (H := G3) (a := a4) (o := .lst [V.str "head", V.int 0])
    generalize upd G3 a4 (.lst [V.str "head", V.int 0]) = G4 at sa4 fa4 ⊢
    refine ⟨two, fun a5 na5 => ?_⟩
    have sa5 := same_upd na5 (.tup [V.str "Head", V.int 0])
    have fa5 := upd_same (H := G4) (a := a5) (o := .tup [V.str "Head", V.int 0])
    generalize upd G4 a5 (.tup [V.str "Head", V.int 0]) = G5 at sa5 fa5 ⊢
    refine ⟨two, fun a6 na6 => ?_⟩
    have sa6 := same_upd na6 (.tup [V.int 0, V.str "head"])
    have fa6 := upd_same (H := G5) (a := a6) (o := .tup [V.int 0, V.str "head"])
    generalize upd G5 a6 (.tup [V.int 0, V.str "head"]) = G6 at sa6 fa6 ⊢
    refine ⟨_, rfl, two, fun a7 na7 => ?_⟩
    have sa7 := same_upd na7 (.tup [V.str "tail", iv (m + 1)])
    have fa7 := upd_same (H := G6) (a := a7) (o := .tup [V.str "tail", iv (m + 1)])
    generalize upd G6 a7 (.tup [V.str "tail", iv (m + 1)]) = G7 at sa7 fa7 ⊢
    refine ⟨by rw [sizeLine_eq]; show 10 ≤ _; decide, fun L1 nL1 => ?_⟩
    have sL1 := same_upd nL1 (.lst [V.non, V.int 5, V.str "head", .ref a1, .ref a2, .ref a3, .ref a4, .ref a5, .ref a6, .ref a7])
    have fL1 := upd_same (H := G7) (a := L1) (o := .lst [V.non, V.int 5, V.str "head", .ref a1, .ref a2, .ref a3, .ref a4, .ref a5, .ref a6, .ref a7])
    generalize upd G7 L1 (.lst [V.non, V.int 5, V.str "head", .ref a1, .ref a2, .ref a3, .ref a4, .ref a5, .ref a6, .ref a7]) = G8 at sL1 fL1 ⊢
    refine ⟨_, rfl, _, _, rfl, rfl, two, fun b1 nb1 => ?_⟩
    have sb1 := same_upd nb1 (.tup [V.str "tail", V.int (0 - 1)])
    have fb1 := upd_same (H := G8) (a := b1) (o := .tup [V.str "tail", V.int (0 - 1)])
    generalize upd G8 b1 (.tup [V.str "tail", V.int (0 - 1)]) = G9 at sb1 fb1 ⊢
    refine ⟨two, fun b2 nb2 => ?_⟩
    have sb2 := same_upd nb2 (.tup [V.str "head", V.bl true])
    have fb2 := upd_same (H := G9) (a := b2) (o := .tup [V.str "head", V.bl true])
    generalize upd G9 b2 (.tup [V.str "head", V.bl true]) = G10 at sb2 fb2 ⊢
    refine ⟨two, fun b3 nb3 => ?_⟩
    have sb3 := same_upd nb3 (.tup [V.str "tail", V.non])
    have fb3 := upd_same (H := G10) (a := b3) (o := .tup [V.str "tail", V.non])
    generalize upd G10 b3 (.tup [V.str "tail", V.non]) = G11 at sb3 fb3 ⊢
    refine ⟨two, fun b4 nb4 => ?_⟩
    have sb4 := same_upd nb4 (.tup [V.str "head", V.str "0"])
    have fb4 := upd_same (H := G11) (a := b4) (o := .tup [V.str "head", V.str "0"])
    generalize upd G11 b4 (.tup [V.str "head", V.str "0"]) = G12 at sb4 fb4 ⊢
    refine ⟨two, fun c5 nc5 => ?_⟩
    have sc5 := same_upd nc5 (.tup [V.str "head", V.int 0])
    have fc5 := upd_same (H := G12) (a := c5) (o := .tup [V.str "head", V.int 0])
    generalize upd G12 c5 (.tup [V.str "head", V.int 0]) = G13 at sc5 fc5 ⊢
    refine ⟨one, fun b5 nb5 => ?_⟩
    have sb5 := same_upd nb5 (.tup [.ref c5])
    have fb5 := upd_same (H := G13) (a := b5) (o := .tup [.ref c5])
    generalize upd G13 b5 (.tup [.ref c5]) = G14 at sb5 fb5 ⊢
    refine ⟨two, fun b6 nb6 => ?_⟩
    have sb6 := same_upd nb6 (.tup [V.str "", V.int 0])
    have fb6 := upd_same (H := G14) (a := b6) (o := .tup [V.str "", V.int 0])
    generalize upd G14 b6 (.tup [V.str "", V.int 0]) = G15 at sb6 fb6 ⊢
    refine ⟨by rw [sizeLine_eq]; show 6 ≤ _; decide, fun L2 nL2 => ?_⟩
    have sL2 := same_upd nL2 (.lst [.ref b1, .ref b2, .ref b3, .ref b4, .ref b5, .ref b6])
    have fL2 := upd_same (H := G15) (a := L2) (o := .lst [.ref b1, .ref b2, .ref b3, .ref b4, .ref b5, .ref b6])
    generalize upd G15 L2 (.lst [.ref b1, .ref b2, .ref b3, .ref b4, .ref b5, .ref b6]) = G16 at sL2 fL2 ⊢
    have uL2 := sL2
    have ub6 := sb6.trans uL2
    have ub5 := sb5.trans ub6
    have uc5 := sc5.trans ub5
    have ub4 := sb4.trans uc5
    have ub3 := sb3.trans ub4
    have ub2 := sb2.trans ub3
    have ub1 := sb1.trans ub2
    have uL1 := sL1.trans ub1
    have ua7 := sa7.trans uL1
    have ua6 := sa6.trans ua7
    have ua5 := sa5.trans ua6
    have ua4 := sa4.trans ua5
    have ua3 := sa3.trans ua4
    have ua2 := sa2.trans ua3
    have ua1 := sa1.trans ua2
    refine ⟨L1, L2, _, _, rfl, rfl, ub1 _ _ fL1, fL2, by rw [sizeLine_eq]; show 16 ≤ _; decide, fun L3 nL3 => ?_⟩
    have sL3 := same_upd nL3 (.lst ([V.non, V.int 5, V.str "head", .ref a1, .ref a2, .ref a3, .ref a4, .ref a5, .ref a6, .ref a7] ++ [.ref b1, .ref b2, .ref b3, .ref b4, .ref b5, .ref b6]))
    have fL3 := upd_same (H := G16) (a := L3) (o := .lst ([V.non, V.int 5, V.str "head", .ref a1, .ref a2, .ref a3, .ref a4, .ref a5, .ref a6, .ref a7] ++ [.ref b1, .ref b2, .ref b3, .ref b4, .ref b5, .ref b6]))
    generalize hX : upd G16 L3 (.lst ([V.non, V.int 5, V.str "head", .ref a1, .ref a2, .ref a3, .ref a4, .ref a5, .ref a6, .ref a7] ++ [.ref b1, .ref b2, .ref b3, .ref b4, .ref b5, .ref b6])) = X0 at sL3 fL3 ⊢
    refine ⟨_, rfl, .inl ⟨rfl, _, SqL.of fL3⟩, one, fun c7 nc7 => ?_⟩
    have sc7 := same_upd nc7 (.lst [V.int 0])
    have fc7 := upd_same (H := X0) (a := c7) (o := .lst [V.int 0])
    generalize upd X0 c7 (.lst [V.int 0]) = X1 at sc7 fc7 ⊢
    refine ⟨two, fun b7 nb7 => ?_⟩
    have sb7 := same_upd nb7 (.tup [V.str "head", V.ref c7])
    have fb7 := upd_same (H := X1) (a := b7) (o := .tup [V.str "head", V.ref c7])
    generalize upd X1 b7 (.tup [V.str "head", V.ref c7]) = X2 at sb7 fb7 ⊢
    have fL3' := (sc7.trans sb7) _ _ fL3
    refine ⟨L3, _, _, rfl, rfl, fL3', by rw [sizeLine_eq]; show 16 < _; decide, ?_⟩
    obtain ⟨O, hO⟩ : ∃ O : List V, O = [V.non, V.int 5, V.str "head", .ref a1, .ref a2, .ref a3, .ref a4, .ref a5, .ref a6, .ref a7] ++ [.ref b1, .ref b2, .ref b3, .ref b4, .ref b5, .ref b6] ++ [V.ref b7] := ⟨_, rfl⟩
    have lO : O.length = 17 := by rw [hO]; rfl
    rw [← hO]
    have sJ := same_put (tl := L3) (o := .lst O) (sL3.trans (sc7.trans sb7)) nL3
    have fJ := upd_same (H := X2) (a := L3) (o := .lst O)
    have gc7J : upd X2 L3 (.lst O) c7 = some (.lst [V.int 0]) := by
      rw [upd_ne (fun z => by rw [z, fL3] at nc7; cases nc7)]; exact sb7 _ _ fc7
    have gb7J : upd X2 L3 (.lst O) b7 = some (.tup [V.str "head", V.ref c7]) := by
      rw [upd_ne (fun z => by rw [z, sc7 _ _ fL3] at nb7; cases nb7)]; exact fb7
    generalize upd X2 L3 (.lst O) = J at sJ fJ gc7J gb7J ⊢
    have uA := ua1.trans sJ
    have DJ := D.same uA
    obtain ⟨kvj, hdj⟩ := DJ.some1
    refine ⟨_, rfl, _, rfl, _, rfl, L3, _, rfl, .inl (SqL.of fJ), dr, cl, _, n, rfl, DJ, by omega, by rw [lO]; decide, by rw [lO]; decide, fun ri H2 r0 r1 D2 k2 => ?_⟩
    have fr2 := Fr.of k2
    obtain ⟨kv2, hd2⟩ := D2.some1
    have ga1 := fr2 _ _ ((ua2.trans sJ) _ _ fa1) (ne_of ((ua2.trans sJ) _ _ fa1) hdj (by intro z; cases z))
    have xa1 := ne_of ga1 hd2 (by intro z; cases z)
    have ga2 := fr2 _ _ ((ua3.trans sJ) _ _ fa2) (ne_of ((ua3.trans sJ) _ _ fa2) hdj (by intro z; cases z))
    have xa2 := ne_of ga2 hd2 (by intro z; cases z)
    have ga3 := fr2 _ _ ((ua4.trans sJ) _ _ fa3) (ne_of ((ua4.trans sJ) _ _ fa3) hdj (by intro z; cases z))
    have xa3 := ne_of ga3 hd2 (by intro z; cases z)
    have ga4 := fr2 _ _ ((ua5.trans sJ) _ _ fa4) (ne_of ((ua5.trans sJ) _ _ fa4) hdj (by intro z; cases z))
    have xa4 := ne_of ga4 hd2 (by intro z; cases z)
    have ga5 := fr2 _ _ ((ua6.trans sJ) _ _ fa5) (ne_of ((ua6.trans sJ) _ _ fa5) hdj (by intro z; cases z))
    have xa5 := ne_of ga5 hd2 (by intro z; cases z)
    have ga6 := fr2 _ _ ((ua7.trans sJ) _ _ fa6) (ne_of ((ua7.trans sJ) _ _ fa6) hdj (by intro z; cases z))
    have xa6 := ne_of ga6 hd2 (by intro z; cases z)
    have ga7 := fr2 _ _ ((uL1.trans sJ) _ _ fa7) (ne_of ((uL1.trans sJ) _ _ fa7) hdj (by intro z; cases z))
    have xa7 := ne_of ga7 hd2 (by intro z; cases z)
    have gb1 := fr2 _ _ ((ub2.trans sJ) _ _ fb1) (ne_of ((ub2.trans sJ) _ _ fb1) hdj (by intro z; cases z))
    have xb1 := ne_of gb1 hd2 (by intro z; cases z)
    have gb2 := fr2 _ _ ((ub3.trans sJ) _ _ fb2) (ne_of ((ub3.trans sJ) _ _ fb2) hdj (by intro z; cases z))
    have xb2 := ne_of gb2 hd2 (by intro z; cases z)
    have gb3 := fr2 _ _ ((ub4.trans sJ) _ _ fb3) (ne_of ((ub4.trans sJ) _ _ fb3) hdj (by intro z; cases z))
    have xb3 := ne_of gb3 hd2 (by intro z; cases z)
    have gb4 := fr2 _ _ ((uc5.trans sJ) _ _ fb4) (ne_of ((uc5.trans sJ) _ _ fb4) hdj (by intro z; cases z))
    have xb4 := ne_of gb4 hd2 (by intro z; cases z)
    have gc5 := fr2 _ _ ((ub5.trans sJ) _ _ fc5) (ne_of ((ub5.trans sJ) _ _ fc5) hdj (by intro z; cases z))
    have xc5 := ne_of gc5 hd2 (by intro z; cases z)
    have gb5 := fr2 _ _ ((ub6.trans sJ) _ _ fb5) (ne_of ((ub6.trans sJ) _ _ fb5) hdj (by intro z; cases z))
    have xb5 := ne_of gb5 hd2 (by intro z; cases z)
    have gb6 := fr2 _ _ ((uL2.trans sJ) _ _ fb6) (ne_of ((uL2.trans sJ) _ _ fb6) hdj (by intro z; cases z))
    have xb6 := ne_of gb6 hd2 (by intro z; cases z)
    have gc7 := fr2 _ _ gc7J (ne_of gc7J hdj (by intro z; cases z))
    have xc7 := ne_of gc7 hd2 (by intro z; cases z)
    have gb7 := fr2 _ _ gb7J (ne_of gb7J hdj (by intro z; cases z))
    have xb7 := ne_of gb7 hd2 (by intro z; cases z)
    have gJ := fr2 _ _ fJ (ne_of fJ hdj (by intro z; cases z))
    obtain ⟨odd, ho, hmem⟩ := pickAll (P := fun v => v ∈ O) (xs := O) r0 r1 (fun x h => h)
    refine ⟨L3, _, _, odd, rfl, rfl, SqL.of gJ, ho, ?_⟩
    have at_ : ∀ {t : Addr} {xs : List V}, H2 t = some (.tup xs) → t ≠ dr → ∀ H', Kp dr H2 H' → H' t = some (.tup xs) := fun h x H' z => z _ _ h x (fun _ z => by cases z)
    have hb : ∀ H', Kp dr H2 H' → NoM K H' m odd := by
      rw [hO] at hmem
      simp only [List.cons_append, List.nil_append, List.mem_cons, List.not_mem_nil, or_false] at hmem
      rcases hmem with rfl | rfl | rfl | rfl | rfl | rfl | rfl | rfl | rfl | rfl | rfl | rfl | rfl | rfl | rfl | rfl | rfl
      · exact fun H' _ => nom_no (.no (n := "NoneType") (.base .non) (by decide +kernel))
      · exact fun H' _ => nom_no (.no (n := "int") (.base (.int _)) (by decide +kernel))
      · exact fun H' _ => nom_no (.no (n := "str") (.base (.str _)) (by decide +kernel))
      · exact fun H' z => nom_no (.tup (at_ ga1 xa1 H' z) (by show ¬ 0 = 2; decide))
      · exact fun H' z => nom_no (.tup (at_ ga2 xa2 H' z) (by show ¬ 1 = 2; decide))
      · exact fun H' z => nom_no (.tup (at_ ga3 xa3 H' z) (by show ¬ 3 = 2; decide))
      · exact fun H' z => nom_no (.no (n := "list") (.base (.lst (z _ _ ga4 xa4 (fun _ z => by cases z)))) (by decide +kernel))
      · exact fun H' z => nom_two (at_ ga5 xa5 H' z) (.inr NI.str) (.inl ⟨_, rfl⟩) rfl (isMv_w (by decide +kernel))
      · exact fun H' z => nom_two (at_ ga6 xa6 H' z) (.inl ⟨_, rfl⟩) (.inr NI.str) rfl (isMv_w (by decide +kernel))
      · exact fun H' z => nom_two (at_ ga7 xa7 H' z) (.inr NI.str) (.inl ⟨_, rfl⟩) rfl (isMv_p (inR_out (.inl (by omega))))
      · exact fun H' z => nom_two (at_ gb1 xb1 H' z) (.inr NI.str) (.inl ⟨_, rfl⟩) rfl (isMv_p (inR_out (.inr (by decide))))
      · exact fun H' z => nom_two (at_ gb2 xb2 H' z) (.inr NI.str) (.inr (.inl ⟨_, rfl⟩)) rfl (isMv_p rfl)
      · exact fun H' z => nom_two (at_ gb3 xb3 H' z) (.inr NI.str) (.inr NI.non) rfl (isMv_p rfl)
      · exact fun H' z => nom_two (at_ gb4 xb4 H' z) (.inr NI.str) (.inr NI.str) rfl (isMv_p rfl)
      · exact fun H' z => nom_no (.tup (at_ gb5 xb5 H' z) (by show ¬ 1 = 2; decide))
      · exact fun H' z => nom_two (at_ gb6 xb6 H' z) (.inr NI.str) (.inl ⟨_, rfl⟩) rfl (isMv_w (by decide +kernel))
      · exact fun H' z => nom_two (at_ gb7 xb7 H' z) (.inr NI.str) (.inr (NI.lst (z _ _ gc7 xc7 (fun _ z => by cases z)))) rfl (isMv_p rfl)
    exact k odd H2 D2 ((Fr.sm uA).trans fr2) hb
end
end TR


namespace TR
open PySem PySem.Spec PyProof.Rows L2 L2.TT StX ClX
theorem eqD_K {X : Cx} {K : PySem.W.Frag} (h : X.K = K) (hu : X.A.units + 64 < cLine) : OpR X (compareOp .Eq) (rEqD K) := by
  subst h
  exact op_eqD hu
theorem neD_K {X : Cx} {K : PySem.W.Frag} (h : X.K = K) (hu : X.A.units + 64 < cLine) : OpR X (compareOp .NotEq) (rNeD K) := by
  subst h
  exact op_neD hu
theorem pi_keysK {X : Cx} {K : PySem.W.Frag} {tg e : Expr} {td : TE} (h : X.K = K) (he : PE X e td) : PI X tg e (iKeys td) := pi_keys he
theorem pi_listK {X : Cx} {K : PySem.W.Frag} {tg l : Expr} {tl : TE} (hK : X.K = K) (hl : PE X l tl) : PI X tg l (iList K tl) := by
  subst hK
  exact pi_list hl
/-- behind a lock all else stands as before -/
theorem lock_same {H H' : Hp} {d : Addr} {u : HO} {od : Obj} (hd : H d = some u) (s : Same (upd H d (.frz od u)) H') : Same H (upd H' d u) := fun b o hb => by
  by_cases c : b = d
  · subst c
    rw [hd] at hb
    cases hb
    exact upd_same
  · rw [upd_ne c]
    exact s _ _ (by rw [upd_ne c]; exact hb)
/-- objects of no kind that is locked -/
theorem frz_at {H : Hp} {d b : Addr} {ks : List (List Key × V)} {od : Obj} {o : HO} (hd : H d = some (.dT ks)) (hb : H b = some o) (hk : ∀ ks', o ≠ .dT ks') : upd H d (.frz od (.dT ks)) b = some o := by
  rw [upd_ne (fun e => by rw [e, hd] at hb; exact hk ks (Option.some.inj hb).symm)]
  exact hb
theorem RailAt.frz {C : Addr} {H : Hp} {r d : Addr} {tr : List E2} {ks : List (List Key × V)} {x : HO} (R : RailAt C H r tr) (hd : H d = some (.dT ks)) : RailAt C (upd H d x) r tr := by
  have ne : ∀ {b o}, H b = some o → (∀ ks', o ≠ .dT ks') → upd H d x b = some o := fun {b o} hb hk => by
    rw [upd_ne (fun e => by rw [e, hd] at hb; exact hk ks (Option.some.inj hb).symm)]
    exact hb
  obtain ⟨T, few, dx, tt, na, A, L, ps, ts, h1, h2, h3, h4, h5, h6, h7, h8⟩ := R
  exact ⟨T, few, dx, tt, na, A, L, ps, ts, ne h1 (fun _ z => by cases z), ne h2 (fun _ z => by cases z), ⟨h3.1, fun i p e a b => ne (h3.2 i p e a b) (fun _ z => by cases z)⟩, ne h4 (fun _ z => by cases z), h5, fun v t h => ne (h6 v t h) (fun _ z => by cases z), ne h7 (fun _ z => by cases z), ne h8 (fun _ z => by cases z)⟩
/-- for k in d, d locked, its keys tuples -/
theorem for_keysT {d : Addr} {od : Obj} {kvs : List (List Key × V)} {g : TG} {tb : TS} {D : Ends} {σ : L2.St} {H : Hp} (Pv : Nat → L2.St → Hp → Prop) (h0 : Pv 0 σ H) (hl : ∀ i σ H, i ≤ kvs.length → Pv i σ H → H d = some (.frz od (.dT kvs)))
    (hs : ∀ i k v q σ H, kvs[i]? = some (k, v) → Pv i σ H → H q = some (.tup (k.map kV)) → g (.ref q) σ H fun σ2 H2 => tb { D with nx := Pv (i + 1), ct := Pv (i + 1), bk := D.nx } σ2 H2) (hd : ∀ σ H, Pv kvs.length σ H → D.nx σ H) :
    ∃ W : Nat → Nat → L2.St → Hp → Prop, (∃ m, W 0 m σ H) ∧ ∀ i m σ H, W i m σ H →
      ((Itkt d od kvs).stop i H ∧ D.nx σ H) ∨ ((Itkt d od kvs).go i H ∧ ∃ N : L2.St → Hp → Prop, (∀ σ' H', N σ' H' → ∃ m', m' < m ∧ W (i + 1) m' σ' H') ∧ ∀ x H', (Itkt d od kvs).yld i H x H' → g x σ H' fun σ2 H2 => tb { D with nx := N, ct := N, bk := D.nx } σ2 H2) := by
  refine ⟨fun i m σ H => m = kvs.length - i ∧ i ≤ kvs.length ∧ Pv i σ H, ⟨kvs.length, by simp, Nat.zero_le _, h0⟩, ?_⟩
  rintro i m σ H ⟨rfl, hi, p⟩
  have q := hl i σ H hi p
  by_cases hlt : i < kvs.length
  · refine .inr ⟨⟨q, hlt⟩, Pv (i + 1), fun σ' H' p' => ⟨kvs.length - (i + 1), by omega, rfl, hlt, p'⟩, fun x H' y => ?_⟩
    obtain ⟨rfl, k, v, b, e1, rfl, e3⟩ := y
    exact hs i k v b σ _ e1 p e3
  · have e : i = kvs.length := by omega
    subst e
    exact .inl ⟨⟨q, Nat.le_refl _⟩, hd σ H p⟩
theorem lc_keysT {d : Addr} {od : Obj} {kvs : List (List Key × V)} {g : TG} {tt : TT} {te : TE} {vs : List Nat} {σ : L2.St} {H1 : Hp} {D : Addr} {Qd : Hp → Prop} (Pv : Nat → Hp → Prop) (h0 : Pv 0 (upd H1 D (.lst []))) (hl : ∀ i H, i ≤ kvs.length → Pv i H → H d = some (.frz od (.dT kvs)))
    (hs : ∀ i k v q H, kvs[i]? = some (k, v) → Pv i H → H q = some (.tup (k.map kV)) → g (.ref q) (wipe σ vs) H fun σ2 H2 => wipe σ2 vs = wipe σ vs ∧ tt σ2 H2 fun b H3 =>
      if b = true then te σ2 H3 fun y H4 => ∃ acc, H4 D = some (.lst acc) ∧ acc.length < sizeLine ∧ Pv (i + 1) (upd H4 D (.lst (acc ++ [y]))) else Pv (i + 1) H3) (hd : ∀ H, Pv kvs.length H → Qd H) :
    ∃ W : Nat → Nat → Hp → Prop, (∃ m, W 0 m (upd H1 D (.lst []))) ∧ ∀ i m H, W i m H →
      ((Itkt d od kvs).stop i H ∧ Qd H) ∨ ((Itkt d od kvs).go i H ∧ ∃ Nx : Hp → Prop, (∀ H', Nx H' → ∃ m', m' < m ∧ W (i + 1) m' H') ∧ ∀ x H', (Itkt d od kvs).yld i H x H' → g x (wipe σ vs) H' fun σ2 H2 => wipe σ2 vs = wipe σ vs ∧ tt σ2 H2 fun b H3 =>
        if b = true then te σ2 H3 fun y H4 => ∃ acc, H4 D = some (.lst acc) ∧ acc.length < sizeLine ∧ Nx (upd H4 D (.lst (acc ++ [y]))) else Nx H3) := by
  refine ⟨fun i m H => m = kvs.length - i ∧ i ≤ kvs.length ∧ Pv i H, ⟨kvs.length, by simp, Nat.zero_le _, h0⟩, ?_⟩
  rintro i m H ⟨rfl, hi, p⟩
  have q := hl i H hi p
  by_cases hlt : i < kvs.length
  · refine .inr ⟨⟨q, hlt⟩, Pv (i + 1), fun H' p' => ⟨kvs.length - (i + 1), by omega, rfl, hlt, p'⟩, fun x H' y => ?_⟩
    obtain ⟨rfl, k, v, b, e1, rfl, e3⟩ := y
    exact hs i k v b _ e1 p e3
  · have e : i = kvs.length := by omega
    subst e
    exact .inl ⟨⟨q, Nat.le_refl _⟩, hd H p⟩
end TR

namespace TR
open PySem PySem.Spec PyProof.Rows L2 L2.TT StX ClX
def spPTr : Sp := fun vs H Q _ => ∃ (dr cl : Addr) (m : Int) (n : Nat), vs = [.ref dr, .int m] ∧ DrawAt H dr cl n ∧ n ≤ 700000000 ∧ 1 < m ∧ m ≤ 100 ∧
  ∀ (a : Addr) (ps : List Addr) (tr : List E2) (H' : Hp), DrawAt H' dr cl (n + 401) → Fr dr H H' → H' a = some (.tup (ps.map V.ref)) → Prs H' ps tr → TreeL tr → 1 ≤ tr.length → (tr.length : Int) < m → Q (.ref a) H'
section
variable {P : Program} {w : World} {K : PySem.W.Frag} {mg : Str → Option Value} {base : Heap}
abbrev N_sc_ptr : List Str := ["draw", "most", "tracks"]
theorem sc_ptr : FnScope N_sc_ptr ["draw", "most"] (defScope s_law_pair_tracks) := ⟨rfl, rfl, rfl, by decide +kernel, rfl, by decide +kernel, by decide +kernel⟩
theorem ok_ptr {f fT fn : Addr} {fd fdT fdn : FuncData} (F : Fun K "_law_pair_tracks" "_law_pair_tracks" s_law_pair_tracks f fd) (N : Nm mg) (UT : Use P w K mg base CX0 3 "_law_tracks" fT fdT ["draw", "most"] spTracks) (Un : Use P w K mg base CX0 2 "_law_next" fn fdn ["draw", "bound"] spNext) : FnOk P w K mg base CX0 4 f fd ["draw", "most"] spPTr := by
  refine F.ok sc_ptr (fun vs H Q E h => ?_) (fun cdv A outer s H vs Q E hr h => ?_)
  · obtain ⟨dr, cl, m, n, rfl, _⟩ := h
    rfl
  · obtain ⟨dr, cl, m, n, rfl, D, hn, m1, m2, k⟩ := h
    refine ⟨_, (pss_cons (ps_set (i := 2) sc_ptr.nd rfl (.inl rfl) (pe_use UT hr (by rfl) (pa_cons (pv 0) (pa_cons (pe_op op_sub (pv 1) pe_int) pa_nil))))
        (pss_one (ps_ret (pe_op op_catTA (pv 2) (pe_tup (pa_cons (pe_tup (pa_cons (pe_use Un (hr.mono (by decide)) (by rfl) (pa_cons (pv 0) (pa_cons (pe_op op_add (pe_callB call_len_seq (by rfl) N.len boot_len (pa_cons (pv 2) pa_nil)) pe_int) pa_nil))) (pa_cons (pe_op op_add (pe_callB call_len_seq (by rfl) N.len boot_len (pa_cons (pv 2) pa_nil)) pe_int) pa_nil))) pa_nil)))))), ?_⟩
    refine ⟨_, rfl, _, rfl, _, _, rfl, rfl, dr, cl, m - 1, n, rfl, D, by omega, by omega, by omega, fun a ps tr H1 D1 F1 ha hp T hl => ?_⟩
    have big : tr.length ≤ 98 := by omega
    refine ⟨_, rfl, _, rfl, _, rfl, a, _, rfl, .inr (SqT.of ha), _, _, rfl, rfl, dr, cl, ((ps.map V.ref).length : Int) + 1, n + 400, rfl, D1, by omega, by omega, by rw [List.length_map, hp.1]; omega, fun r H2 r0 r1 D2 F2 => ?_⟩
    obtain ⟨kv1, hd1⟩ := D1.some1
    have ne : a ≠ dr := fun z => by rw [z, hd1] at ha; cases ha
    have ha2 : H2 a = some (.tup (ps.map V.ref)) := by rw [F2 a ne]; exact ha
    have two : (2 : Nat) ≤ sizeLine := by rw [sizeLine_eq]; decide
    have one : (1 : Nat) ≤ sizeLine := by rw [sizeLine_eq]; decide
    have F12 : Fr dr H1 H2 := Fr.of F2
    have pl2 : (ps.map V.ref).length = tr.length := by rw [List.length_map, hp.1]
    obtain ⟨v, rfl⟩ : ∃ v : Nat, r = (v : Int) := ⟨r.toNat, by omega⟩
    have hv : v ≤ tr.length := by rw [pl2] at r1; omega
    refine ⟨_, rfl, a, _, rfl, .inr (SqT.of ha2), _, _, rfl, rfl, two, fun p np => ⟨one, fun q nq => ?_⟩⟩
    have s2 := same_upd np (.tup [V.int v, V.int ((ps.map V.ref).length + 1)])
    have hp2 := upd_same (H := H2) (a := p) (o := .tup [V.int v, V.int ((ps.map V.ref).length + 1)])
    generalize upd H2 p (.tup [V.int v, V.int ((ps.map V.ref).length + 1)]) = H3 at s2 hp2 nq
    have s3 := same_upd nq (.tup [V.ref p])
    have hq3 := upd_same (H := H3) (a := q) (o := .tup [V.ref p])
    refine catTA_uni ((s2.trans s3) _ _ ha2) hq3 (by rw [pl2, sizeLine_eq]; simp; omega) fun z H4 s4 hz => ?_
    have s5 := (s2.trans s3).trans s4
    refine k z (ps ++ [p]) (tr ++ [(v, tr.length + 1)]) H4 (D2.same s5) (F1.trans (F12.trans (Fr.sm s5))) (by rw [hz, List.map_append]; rfl) ?_ (T.push hv) (by simp) (by simp; omega)
    refine ((hp.fr F12 hd1).same s5).snoc ((s3.trans s4) _ _ (by rw [hp2, pl2]; rfl))
end
end TR


namespace TR
open PySem PySem.Spec PyProof.Rows L2 L2.TT StX ClX
def spStand : Sp := fun vs H Q _ => ∃ (dr cl : Addr) (c : Nat) (n : Nat), vs = [.ref dr, iv c] ∧ DrawAt H dr cl n ∧ n ≤ 800000000 ∧ 2 ≤ c ∧ c ≤ 1000 ∧
  ∀ (x y : Nat) (p : Addr) (H' : Hp), x < c → y < c → x ≠ y → DrawAt H' dr cl (n + 2) → Fr dr H H' → H p = none → H' p = some (.tup [iv x, iv y]) → Q (.ref p) H'
end TR

namespace TR
open PySem PySem.Spec PyProof.Rows L2 L2.TT StX ClX
section
variable {P : Program} {w : World} {K : PySem.W.Frag} {mg : Str → Option Value} {base : Heap}
theorem sc_stand : FnScope ["draw", "count", "head", "tail"] ["draw", "count"] (defScope s_law_standing) := ⟨rfl, rfl, rfl, by decide +kernel, rfl, by decide +kernel, by decide +kernel⟩
theorem ok_stand {f fn : Addr} {fd fdn : FuncData} (F : Fun K "_law_standing" "_law_standing" s_law_standing f fd) (N : Nm mg) (U : Use P w K mg base CX0 2 "_law_next" fn fdn ["draw", "bound"] spNext) : FnOk P w K mg base CX0 3 f fd ["draw", "count"] spStand := by
  refine F.ok sc_stand (fun vs H Q E h => ?_) (fun cdv A outer s H vs Q E hr h => ?_)
  · obtain ⟨dr, cl, c, n, rfl, _⟩ := h
    rfl
  · obtain ⟨dr, cl, c, n, rfl, D, hn, hc0, hc1, k⟩ := h
    refine ⟨_, pss_cons (ps_set (i := 2) sc_stand.nd rfl (.inl rfl) (pe_use U hr rfl (pa_cons (pv 0) (pa_cons (pv 1) pa_nil))))
      (pss_cons (ps_set (i := 3) sc_stand.nd rfl (.inl rfl) (pe_use U hr rfl (pa_cons (pv 0) (pa_cons (pe_op op_sub (pv 1) pe_int) pa_nil))))
      (pss_one (ps_ret (pe_tup (pa_cons (pv 2) (pa_cons (pe_op op_add (pv 3) (pe_callTy call_int1 (by rfl) N.int boot_int (pa_cons (pe_cmpR op_ge (pv 3) (pv 2) (nomark _)) pa_nil))) pa_nil)))))), ?_⟩
    obtain ⟨kvs0, hd0⟩ := D.some1
    refine ⟨_, rfl, _, rfl, dr, cl, c, n, rfl, D, by omega, by omega, by omega, fun x Ha x0 x1 Da ka => ?_⟩
    refine ⟨_, rfl, _, rfl, _, _, rfl, rfl, dr, cl, _, _, rfl, Da, by omega, by omega, by omega, fun y Hb y0 y1 Db kb => ?_⟩
    have frb : Fr dr H Hb := (Fr.of ka).trans (Fr.of kb)
    obtain ⟨kvb, hdb⟩ := Db.some1
    refine ⟨_, rfl, _, rfl, _, rfl, _, rfl, _, _, rfl, rfl, .inr ⟨_, rfl, _, _, rfl, rfl, by show 2 ≤ sizeLine; rw [sizeLine_eq]; decide, fun p np => ?_⟩⟩
    have pd : p ≠ dr := fun z => by rw [z, hdb] at np; cases np
    obtain ⟨m, rfl⟩ := Int.eq_ofNat_of_zero_le x0
    obtain ⟨q, rfl⟩ := Int.eq_ofNat_of_zero_le y0
    by_cases hq : (m : Int) ≤ (q : Int)
    · refine k m (q + 1) p _ (by omega) (by omega) (by omega) (Db.same (same_upd np _)) (frb.trans (Fr.sm (same_upd np _))) (frb.free pd np) ?_
      rw [upd_same]
      simp [hq, iv]
    · refine k m q p _ (by omega) (by omega) (by omega) (Db.same (same_upd np _)) (frb.trans (Fr.sm (same_upd np _))) (frb.free pd np) ?_
      rw [upd_same]
      simp [hq, iv]
end
end TR

namespace TR
open PySem PySem.Spec PyProof.Rows L2 L2.TT StX ClX
/-- the facts of one class, each read off the written part -/
structure ClsK (K : PySem.W.Frag) (C fI : Addr) (bm : List Value) (newId : String) (f : Str) : Prop where
  ini : PySem.W.excInitIn K C bm newId = true
  ovr : PySem.W.excOver K C bm = true
  sa : PySem.W.findIn K (.ref C) "__setattr__" = some (some (.builtin "object.__setattr__"))
  ga : PySem.W.findIn K (.ref C) "__getattribute__" = some (some (.builtin "BaseException.__getattribute__"))
  gg : PySem.W.findIn K (.ref C) "__getattr__" = some none
  sub : PySem.W.subIn K (.ref C) (.type "BaseException") = some true
  hd : PySem.W.hasDictIn K C = true
  kp : PySem.W.keepIn K (.ref C) = true
  ca : PySem.W.findIn K (.ref C) "__class__" = some (some (.builtin "object.__class__"))
  ob : PySem.W.mroIn K C (.type "object") = some true
  nF : PySem.W.findIn K (.ref C) f = some none
  tI : PySem.W.typeIn K (.ref fI) = some (.type "function")
  typ : PySem.W.typeIn K (.ref C) = some (.type "type")
theorem ClsK.xc {K : PySem.W.Frag} {C fI : Addr} {bm : List Value} {newId : String} {f : Str} (z : ClsK K C fI bm newId f) : XC K C bm newId := ⟨z.ini, z.ovr, z.sa, z.ga, z.gg, z.sub, z.hd, z.kp, z.ca, z.ob⟩
/-- what is read of an error's class x with its field f, and of the three families -/
structure WdG (P : Program) (w : World) (K : PySem.W.Frag) (mg : Str → Option Value) (base : Heap) (x f : Str) (CI CR CU CM : Addr) (bR bU bM : Bool) : Prop where
  z : RzC P w K mg base x CI f
  mR : mg "RailError" = some (.ref CR)
  mU : mg "RunError" = some (.ref CU)
  mM : mg "MissingError" = some (.ref CM)
  ea : PySem.W.exmAny K (.ref CI) [.ref CR, .ref CU, .ref CM] = some true
  kc : KCls K
  xc : ∃ bmB newId, XC K CI bmB newId
  nv : PySem.W.findIn K (.ref CI) f = some none
  kR : PySem.W.kitOne K (.ref CI) (.ref CR) = some bR
  kU : PySem.W.kitOne K (.ref CI) (.ref CU) = some bU
  kM : PySem.W.kitOne K (.ref CI) (.ref CM) = some bM
structure UseXX (P : Program) (w : World) (K : PySem.W.Frag) (mg : Str → Option Value) (base : Heap) (k : Nat) (x : Str) (f : Addr) (fd : FuncData) (ps : List Str) (sp : Sp) : Prop where
  G : FnOk P w K mg base (L2.CX P w) k f fd ps sp
  m : mg x = some (.ref f)
  kp : PySem.W.keepIn K (.ref f) = true
  b : Binds K fd ps []
/-- a def of the module whose promise asks that no repr is under way -/
structure UseG (P : Program) (w : World) (K : PySem.W.Frag) (mg : Str → Option Value) (base : Heap) (k : Nat) (x : Str) (f : Addr) (fd : FuncData) (ps : List Str) (sp : Sp) : Prop where
  G : FnG P w K mg base CX0 k f fd ps sp
  m : mg x = some (.ref f)
  kp : PySem.W.keepIn K (.ref f) = true
  b : Binds K fd ps []
def spLaw (K : PySem.W.Frag) : Sp := fun vs H Q _ => ∃ (a : Addr) (ns : List Int), vs = [.ref a] ∧ SqL K H a (ns.map V.int) ∧ ns.length ≤ 63 ∧ ∀ H', Q (.bl true) H'
end TR

namespace TR
open PySem PySem.Spec PyProof.Rows L2 L2.TT L2.TW StX ClX L2.TL LamX GenW
def spStRE (C : Addr) (K : PySem.W.Frag) (T : List (Addr × Str)) : Sp := fun vs H Q E => ∃ dr, spStR C dr K T vs H Q E
def spLnRE (C : Addr) (K : PySem.W.Frag) (T : List (Addr × Str)) : Sp := fun vs H Q E => ∃ dr, spLnR C dr K T vs H Q E
def spMvRE (C : Addr) (K : PySem.W.Frag) (T : List (Addr × Str)) : Sp := fun vs H Q E => ∃ dr, spMvR C dr K T vs H Q E
def spBlRE (C : Addr) (K : PySem.W.Frag) (T : List (Addr × Str)) : Sp := fun vs H Q E => ∃ dr, spBlR C dr K T vs H Q E
theorem tabs_fr2 {T : List (Addr × Str)} {dr : Addr} {H H' : Hp} {kvs : List (Key × V)} (t : Tabs T H) (f : Fr dr H H') (hd : H dr = some (.dK kvs)) : Tabs T H' := fun p hp => by
  obtain ⟨ps, h1, h2, h3⟩ := t p hp
  refine ⟨ps, f _ _ h1 (ne_of h1 hd (by intro z; cases z)), h2, fun pos cv hc => ?_⟩
  obtain ⟨c, e1, e2⟩ := h3 pos cv hc
  exact ⟨c, e1, f _ _ e2 (ne_of e2 hd (by intro z; unfold CodeO at z; cases z))⟩
section
variable {P : Program} {w : World} {K : PySem.W.Frag} {mg : Str → Option Value} {base : Heap}
theorem fnG_exA {CX : CXT} {k : Nat} {f : Addr} {fd : FuncData} {ps : List Str} {sp : Addr → Sp} (h : ∀ a, FnG P w K mg base CX k f fd ps (sp a)) : FnG P w K mg base CX k f fd ps (fun vs H Q E => ∃ a, sp a vs H Q E) :=
  ⟨fun vs H Q E ⟨a, q⟩ => (h a).len vs H Q E q, fun A outer s H args us vs Q E hG hr e0 hb r ⟨a, q⟩ => (h a).run A outer s H args us vs Q E hG hr e0 hb r q⟩
abbrev N_sc_law : List Str := ["script", "draw", "turn", "tracks", "road", "again", "pose", "odd", "bad", "one", "other"]
theorem sc_law : FnScope N_sc_law ["script"] (defScope s_law) := ⟨rfl, rfl, rfl, by decide +kernel, rfl, by decide +kernel, by decide +kernel⟩
theorem ok_law {f fB fT fS fO fL fM f1 f2 f3 f4 fo C pO : Addr} {mc : Value} {T0 : List (Addr × Str)} {fd fdB fdT fdS fdO fdL fdM fd1 fd2 fd3 fd4 : FuncData} (F : Fun K "law" "law" s_law f fd) (N : Nm mg) (X : TxtR K mg C) (hcr : CRead K C mc) (cm : CMet K C mc "of" pO fo) (GO : FnR P w K mg base CX0 7 fo (spRof C))
    (UB : Use P w K mg base CX0 1 "_law_begin" fB fdB ["script"] (spBegin K)) (UT : Use P w K mg base CX0 4 "_law_pair_tracks" fT fdT ["draw", "most"] spPTr) (US : Use P w K mg base CX0 3 "_law_standing" fS fdS ["draw", "count"] spStand)
    (UO : Use P w K mg base CX0 3 "_law_no_standing" fO fdO ["draw", "count"] (spNoSt K)) (UL : Use P w K mg base CX0 3 "_law_no_length" fL fdL ["draw"] (spNoLen K)) (UM : Use P w K mg base CX0 3 "_law_no_move" fM fdM ["draw", "count"] (spNoMv K))
    (G1 : UseG P w K mg base 15 "_law_standings_right" f1 fd1 ["road", "odd", "bad"] (spStRE C K T0)) (G2 : UseG P w K mg base 15 "_law_lengths_right" f2 fd2 ["road", "pose", "bad"] (spLnRE C K T0)) (G3 : UseG P w K mg base 15 "_law_moves_right" f3 fd3 ["road", "pose", "odd", "far"] (spMvRE C K T0)) (G4 : UseG P w K mg base 15 "_law_blocked_right" f4 fd4 ["road", "pose"] (spBlRE C K T0)) :
    FnG P w K mg base CX0 16 f fd ["script"] (spLawT K T0) := by
  refine L2.TT.Fun.okG F sc_law (fun vs H Q E h => ?_) (fun cdv A outer s H vs Q E hG hr h => ?_)
  · obtain ⟨a, ns, rfl, _⟩ := h
    rfl
  · obtain ⟨a, ns, rfl, hS, hlen, hT, k⟩ := h
    have hr1 : Room 1 (A.deeper (envOfC "law" (defScope s_law) s.heap.objs.size f cdv)) := hr.mono (by decide)
    have hr3 : Room 3 (A.deeper (envOfC "law" (defScope s_law) s.heap.objs.size f cdv)) := hr.mono (by decide)
    have hr4 : Room 4 (A.deeper (envOfC "law" (defScope s_law) s.heap.objs.size f cdv)) := hr.mono (by decide)
    have hr7 : Room 7 (A.deeper (envOfC "law" (defScope s_law) s.heap.objs.size f cdv)) := hr.mono (by decide)
    refine ⟨_, (pss_cons (ps_set (i := 1) sc_law.nd rfl (.inl rfl) (pe_use UB hr1 (by rfl) (pa_cons (pv 0) pa_nil)))
        (pss_cons (ps_for PassesOwn.never rfl (pi_range1 (by rfl) N.range (pa_cons (pe_callB (call_min2 rfl) (by rfl) N.min boot_min (pa_cons pe_int (pa_cons (pe_op op_add pe_int (pe_op op_fdiv (pe_callB call_len_seq (by rfl) N.len boot_len (pa_cons (pv 0) pa_nil)) pe_int)) pa_nil))) pa_nil)) (pg_name (i := 2) sc_law.nd rfl (.inl rfl))
          (pss_cons (ps_set (i := 3) sc_law.nd rfl (.inl rfl) (pe_use UT hr4 (by rfl) (pa_cons (pv 1) (pa_cons pe_int pa_nil))))
          (pss_cons (ps_set (i := 4) sc_law.nd rfl (.inl rfl) (pe_cmeth (pe_glob (v := .ref C) (by rfl) X.mgC rfl) hcr cm GO hr7 pass0 (pa_cons (pv 3) pa_nil)))
          (pss_one (ps_for PassesOwn.never rfl (pi_range1 (by rfl) N.range (pa_cons pe_int pa_nil)) (pg_name (i := 5) sc_law.nd rfl (.inl rfl))
            (pss_cons (ps_set (i := 6) sc_law.nd rfl (.inl rfl) (pe_use US hr3 (by rfl) (pa_cons (pv 1) (pa_cons (pe_op op_add (pe_callB call_len_seq (by rfl) N.len boot_len (pa_cons (pv 3) pa_nil)) pe_int) pa_nil))))
            (pss_cons (ps_par (i := 7) (j := 8) (by rfl) sc_law.nd rfl rfl (by decide) rfl rfl (pa_cons (pe_use UO hr3 (by rfl) (pa_cons (pv 1) (pa_cons (pe_op op_add (pe_callB call_len_seq (by rfl) N.len boot_len (pa_cons (pv 3) pa_nil)) pe_int) pa_nil))) (pa_cons (pe_use UL hr3 (by rfl) (pa_cons (pv 1) pa_nil)) pa_nil)) (by rfl))
            (pss_cons (ps_par (i := 9) (j := 10) (by rfl) sc_law.nd rfl rfl (by decide) rfl rfl (pa_cons (pe_use UM hr3 (by rfl) (pa_cons (pv 1) (pa_cons (pe_op op_add (pe_callB call_len_seq (by rfl) N.len boot_len (pa_cons (pv 3) pa_nil)) pe_int) pa_nil))) (pa_cons (pe_use UM hr3 (by rfl) (pa_cons (pv 1) (pa_cons (pe_op op_add (pe_callB call_len_seq (by rfl) N.len boot_len (pa_cons (pv 3) pa_nil)) pe_int) pa_nil))) pa_nil)) (by rfl))
            (pss_cons (ps_if (PW.pt (pw_or (pt_not (pt_val (pe_callG G1.G hG hr (by rfl) G1.m G1.kp G1.b pass0 (pa_cons (pv 4) (pa_cons (pv 7) (pa_cons (pv 8) pa_nil)))))) (pw_or1 (pt_not (pt_val (pe_callG G2.G hG hr (by rfl) G2.m G2.kp G2.b pass0 (pa_cons (pv 4) (pa_cons (pv 6) (pa_cons (pv 8) pa_nil))))))))) (pss_one (ps_ret pe_bl)) pss_nil)
            (pss_one (ps_if (PW.pt (pw_or (pt_not (pt_val (pe_callG G3.G hG hr (by rfl) G3.m G3.kp G3.b pass0 (pa_cons (pv 4) (pa_cons (pv 6) (pa_cons (pv 9) (pa_cons (pv 10) pa_nil))))))) (pw_or1 (pt_not (pt_val (pe_callG G4.G hG hr (by rfl) G4.m G4.kp G4.b pass0 (pa_cons (pv 4) (pa_cons (pv 6) pa_nil)))))))) (pss_one (ps_ret pe_bl)) pss_nil)))))))))))
        (pss_one (ps_ret pe_bl)))), ?_⟩
    have e62 : (2 : Int) ^ 62 = 4611686018427387904 := by decide
    refine ⟨_, rfl, a, ns, rfl, hS, hlen, fun dr cl H1 nd nc s1 D1 => ?_⟩
    have c3 : CDiv ((ns.map V.int).length : Int) 3 := by first | decide | (unfold CDiv; decide) | (unfold CDiv; omega) | exact ⟨by omega, by omega⟩
    refine ⟨_, rfl, a, _, rfl, .inl (s1.seq hS), _, _, rfl, rfl, c3, _, _, rfl, rfl, _, _, rfl, ?_⟩
    have l0 : (0 : Int) ≤ ((ns.map V.int).length : Int) / 3 := by omega
    generalize ((ns.map V.int).length : Int) / 3 = z at l0
    obtain ⟨n, hn, n5⟩ : ∃ n : Nat, (if (2 + z : Int) < 5 then 2 + z else 5) = (n : Int) ∧ n ≤ 5 := by
      by_cases c : (2 + z : Int) < 5
      · exact ⟨(2 + z).toNat, by rw [if_pos c]; omega, by omega⟩
      · exact ⟨5, by rw [if_neg c]; rfl, Nat.le_refl _⟩
    rw [hn]
    refine ⟨_, rfl, by rw [e62]; omega, by rw [e62]; omega, ?_⟩
    rw [show ((n : Nat) : Int).toNat = n from rfl]
    refine for_rg (n := n) (fun i σ H' => ∃ (y2 y3 y4 y5 y6 y7 y8 y9 y10 : Option V), σ = [some (.ref a), some (.ref dr), y2, y3, y4, y5, y6, y7, y8, y9, y10] ∧ DrawAt H' dr cl (500 * i) ∧ Tabs T0 H') ⟨_, _, _, _, _, _, _, _, _, rfl, D1, hT.ext s1⟩ ?_ ?_
    · rintro i σ H2 hi ⟨y2, y3, y4, y5, y6, y7, y8, y9, y10, rfl, D2, T2⟩
      obtain ⟨kv2, hd2⟩ := D2.some1
      refine ⟨_, rfl, dr, cl, 20, _, rfl, D2, by omega, by decide, by decide, fun a3 ps tr H3 D3 F3 ha hP T l1 hl => ?_⟩
      have T3 := tabs_fr2 T2 F3 hd2
      refine ⟨rfl, _, rfl, a3, ps, tr, rfl, ha, hP, T, by omega, fun r H8 nr s8 R => ?_⟩
      have D8 := D3.same s8
      have T8 := T3.ext s8
      have ha8 := s8 _ _ ha
      have lp : (ps.map V.ref).length = (nrmS tr).length := by rw [List.length_map, hP.1, nrmS_len]
      have ln : (nrmS tr).length ≤ 19 := by rw [nrmS_len]; omega
      have ln1 : 1 ≤ (nrmS tr).length := by rw [nrmS_len]; exact l1
      generalize nrmS tr = tn at R lp ln ln1
      refine ⟨_, rfl, by rw [e62]; decide, by rw [e62]; decide, ?_⟩
      refine for_rg (n := 8) (fun j σ H' => ∃ (y5 y6 y7 y8 y9 y10 : Option V), σ = [some (.ref a), some (.ref dr), some (iv i), some (.ref a3), some (.ref r), y5, y6, y7, y8, y9, y10] ∧ DrawAt H' dr cl (500 * i + 401 + 8 * j) ∧ Tabs T0 H' ∧ RailAt C H' r tn ∧ H' a3 = some (.tup (ps.map V.ref))) ⟨_, _, _, _, _, _, rfl, D8, T8, R, ha8⟩ ?_ ?_
      · rintro j σ Ha hj ⟨z5, z6, z7, z8, z9, z10, rfl, Da, Ta, Ra, aa⟩
        obtain ⟨kva, hda⟩ := Da.some1
        have lc : ((ps.map V.ref).length : Int) + 1 = ((tn.length + 1 : Nat) : Int) := by rw [lp]; rfl
        refine ⟨_, rfl, _, rfl, a3, _, rfl, .inr (SqT.of aa), _, _, rfl, rfl, ?_⟩
        have ev : V.int (((ps.map V.ref).length : Int) + 1) = iv (tn.length + 1) := by rw [lc]
        have ev2 : [V.ref dr, V.int (((ps.map V.ref).length : Int) + 1)] = [V.ref dr, iv (tn.length + 1)] := by rw [ev]
        refine ⟨dr, cl, tn.length + 1, _, ev2, Da, by omega, by omega, by omega, fun x y p Hb hx hy ne Db Fb np hp => ?_⟩
        obtain ⟨kvb, hdb⟩ := Db.some1
        have aab := Fb _ _ aa (ne_of aa hda (by intro z; cases z))
        refine ⟨_, rfl, _, rfl, a3, _, rfl, .inr (SqT.of aab), _, _, rfl, rfl, dr, cl, _, tn.length, ev2, Db, by omega, by omega, fun odd d Hc Dc Fc hodd oodd => ?_⟩
        refine ⟨_, rfl, dr, cl, _, rfl, Dc, by omega, fun bad e Hd Dd Fd hbad obad => ?_⟩
        have aad := (Fc.trans Fd) _ _ aab (ne_of aab hdb (by intro z; cases z))
        obtain ⟨kvd, hdd⟩ := Dd.some1
        refine ⟨_, _, rfl, _, rfl, _, rfl, a3, _, rfl, .inr (SqT.of aad), _, _, rfl, rfl, dr, cl, _, tn.length, ev2, Dd, by omega, by omega, fun one He De Fe hone => ?_⟩
        have aae := Fe _ _ aad (ne_of aad hdd (by intro z; cases z))
        obtain ⟨kve, hde⟩ := De.some1
        refine ⟨_, rfl, _, rfl, a3, _, rfl, .inr (SqT.of aae), _, _, rfl, rfl, dr, cl, _, tn.length, ev2, De, by omega, by omega, fun far Hf Df Ff hfar => ?_⟩
        obtain ⟨kvf, hdf⟩ := Df.some1
        have Fbf := Fc.trans (Fd.trans (Fe.trans Ff))
        have kcf : Kp dr Hc Hf := Kp.fr (Fd.trans (Fe.trans Ff))
        have kdf : Kp dr Hd Hf := Kp.fr (Fe.trans Ff)
        have kef : Kp dr He Hf := Kp.fr Ff
        have pf := Fbf _ _ hp (ne_of hp hdb (by intro z; cases z))
        have Faf := Fb.trans Fbf
        have Rf := Ra.fr Faf hda
        have Tf := tabs_fr2 Ta Faf hda
        have af := Faf _ _ aa (ne_of aa hda (by intro z; cases z))
        obtain ⟨l, sw, _⟩ := sw_ex Ra.T (show x ≤ tn.length by omega) (show y ≤ tn.length by omega)
        obtain ⟨bd, e1, e2⟩ := sw_bd Ra.T sw (show x ≤ tn.length by omega) ne
        have pf : Hf p = some (.tup [iv (hd0 l), iv (lt0 l)]) := by rw [e1, e2]; exact pf
        refine ⟨_, _, rfl, ?_⟩
        refine ⟨_, rfl, _, rfl, _, rfl, dr, r, tn, odd, bad, d, rfl, Rf, Tf, oodd.keep kcf, fun H' q => hodd H' (kcf.trans q), fun Hg eg Tg => ?_⟩
        refine ⟨_, rfl, ?_⟩
        refine iteF ?_
        have pg := tup_ex eg pf
        have Rg := rail_ex Rf eg
        refine ⟨_, rfl, _, rfl, _, rfl, dr, r, p, tn, l, bad, e, rfl, Rg, pg, bd, Tg, (obad.keep kdf).keep (Kp.ex eg), fun H' q => hbad H' (kdf.trans ((Kp.ex eg).trans q)), fun Hh eh Th => ?_⟩
        refine ⟨_, rfl, ?_⟩
        refine iteF ?_
        have ph := tup_ex eh pg
        have Rh := rail_ex Rg eh
        have ek := eg.trans eh
        refine ⟨_, rfl, _, rfl, _, rfl, _, rfl, dr, r, p, tn, l, one, far, rfl, Rh, ln1, ph, bd, Th, fun H' q => hone H' (kef.trans ((Kp.ex ek).trans q)), fun H' q => hfar H' ((Kp.ex ek).trans q), fun Hi ei Ti => ?_⟩
        refine ⟨_, rfl, ?_⟩
        refine iteF ?_
        have pi := tup_ex ei ph
        have Ri := rail_ex Rh ei
        refine ⟨_, rfl, _, rfl, dr, r, p, tn, l, rfl, Ri, pi, bd, Ti, fun Hj ej Tj => ?_⟩
        refine ⟨_, rfl, ?_⟩
        refine iteF ?_
        have eall := (ek.trans ei).trans ej
        exact ⟨_, _, _, _, _, _, rfl, (draw_ex Df eall).mono (by omega), Tj, rail_ex Ri ej, tup_ex eall af⟩
      · rintro σ Ha ⟨z5, z6, z7, z8, z9, z10, rfl, Da, Ta, Ra, aa⟩
        exact ⟨_, _, _, _, _, _, _, _, _, rfl, Da.mono (by omega), Ta⟩
    · rintro σ H2 ⟨y2, y3, y4, y5, y6, y7, y8, y9, y10, rfl, D2, T2⟩
      exact k _
end
end TR


namespace TR
open PySem PySem.Spec PyProof.Rows L2 L2.TT L2.TW StX ClX L2.TL LamX GenW
theorem lenV1 {us : List Value} (h : us.length = 1) : ∃ x0, us = [x0] := by
  obtain ⟨x0, us, rfl⟩ : ∃ x r, us = x :: r := by
    cases us with
    | nil => cases h
    | cons x r => exact ⟨_, _, rfl⟩
  have h : us.length = 0 := Nat.succ.inj h
  cases us with
  | nil => exact ⟨x0, rfl⟩
  | cons x r => cases h
theorem lenV2 {us : List Value} (h : us.length = 2) : ∃ x0 x1, us = [x0, x1] := by
  obtain ⟨x0, us, rfl⟩ : ∃ x r, us = x :: r := by
    cases us with
    | nil => cases h
    | cons x r => exact ⟨_, _, rfl⟩
  have h : us.length = 1 := Nat.succ.inj h
  obtain ⟨x1, us, rfl⟩ : ∃ x r, us = x :: r := by
    cases us with
    | nil => cases h
    | cons x r => exact ⟨_, _, rfl⟩
  have h : us.length = 0 := Nat.succ.inj h
  cases us with
  | nil => exact ⟨x0, x1, rfl⟩
  | cons x r => cases h
theorem lenV3 {us : List Value} (h : us.length = 3) : ∃ x0 x1 x2, us = [x0, x1, x2] := by
  obtain ⟨x0, us, rfl⟩ : ∃ x r, us = x :: r := by
    cases us with
    | nil => cases h
    | cons x r => exact ⟨_, _, rfl⟩
  have h : us.length = 2 := Nat.succ.inj h
  obtain ⟨x1, us, rfl⟩ : ∃ x r, us = x :: r := by
    cases us with
    | nil => cases h
    | cons x r => exact ⟨_, _, rfl⟩
  have h : us.length = 1 := Nat.succ.inj h
  obtain ⟨x2, us, rfl⟩ : ∃ x r, us = x :: r := by
    cases us with
    | nil => cases h
    | cons x r => exact ⟨_, _, rfl⟩
  have h : us.length = 0 := Nat.succ.inj h
  cases us with
  | nil => exact ⟨x0, x1, x2, rfl⟩
  | cons x r => cases h
theorem lenV4 {us : List Value} (h : us.length = 4) : ∃ x0 x1 x2 x3, us = [x0, x1, x2, x3] := by
  obtain ⟨x0, us, rfl⟩ : ∃ x r, us = x :: r := by
    cases us with
    | nil => cases h
    | cons x r => exact ⟨_, _, rfl⟩
  have h : us.length = 3 := Nat.succ.inj h
  obtain ⟨x1, us, rfl⟩ : ∃ x r, us = x :: r := by
    cases us with
    | nil => cases h
    | cons x r => exact ⟨_, _, rfl⟩
  have h : us.length = 2 := Nat.succ.inj h
  obtain ⟨x2, us, rfl⟩ : ∃ x r, us = x :: r := by
    cases us with
    | nil => cases h
    | cons x r => exact ⟨_, _, rfl⟩
  have h : us.length = 1 := Nat.succ.inj h
  obtain ⟨x3, us, rfl⟩ : ∃ x r, us = x :: r := by
    cases us with
    | nil => cases h
    | cons x r => exact ⟨_, _, rfl⟩
  have h : us.length = 0 := Nat.succ.inj h
  cases us with
  | nil => exact ⟨x0, x1, x2, x3, rfl⟩
  | cons x r => cases h
theorem lenV5 {us : List Value} (h : us.length = 5) : ∃ x0 x1 x2 x3 x4, us = [x0, x1, x2, x3, x4] := by
  obtain ⟨x0, us, rfl⟩ : ∃ x r, us = x :: r := by
    cases us with
    | nil => cases h
    | cons x r => exact ⟨_, _, rfl⟩
  have h : us.length = 4 := Nat.succ.inj h
  obtain ⟨x1, us, rfl⟩ : ∃ x r, us = x :: r := by
    cases us with
    | nil => cases h
    | cons x r => exact ⟨_, _, rfl⟩
  have h : us.length = 3 := Nat.succ.inj h
  obtain ⟨x2, us, rfl⟩ : ∃ x r, us = x :: r := by
    cases us with
    | nil => cases h
    | cons x r => exact ⟨_, _, rfl⟩
  have h : us.length = 2 := Nat.succ.inj h
  obtain ⟨x3, us, rfl⟩ : ∃ x r, us = x :: r := by
    cases us with
    | nil => cases h
    | cons x r => exact ⟨_, _, rfl⟩
  have h : us.length = 1 := Nat.succ.inj h
  obtain ⟨x4, us, rfl⟩ : ∃ x r, us = x :: r := by
    cases us with
    | nil => cases h
    | cons x r => exact ⟨_, _, rfl⟩
  have h : us.length = 0 := Nat.succ.inj h
  cases us with
  | nil => exact ⟨x0, x1, x2, x3, x4, rfl⟩
  | cons x r => cases h
theorem lenV6 {us : List Value} (h : us.length = 6) : ∃ x0 x1 x2 x3 x4 x5, us = [x0, x1, x2, x3, x4, x5] := by
  obtain ⟨x0, us, rfl⟩ : ∃ x r, us = x :: r := by
    cases us with
    | nil => cases h
    | cons x r => exact ⟨_, _, rfl⟩
  have h : us.length = 5 := Nat.succ.inj h
  obtain ⟨x1, us, rfl⟩ : ∃ x r, us = x :: r := by
    cases us with
    | nil => cases h
    | cons x r => exact ⟨_, _, rfl⟩
  have h : us.length = 4 := Nat.succ.inj h
  obtain ⟨x2, us, rfl⟩ : ∃ x r, us = x :: r := by
    cases us with
    | nil => cases h
    | cons x r => exact ⟨_, _, rfl⟩
  have h : us.length = 3 := Nat.succ.inj h
  obtain ⟨x3, us, rfl⟩ : ∃ x r, us = x :: r := by
    cases us with
    | nil => cases h
    | cons x r => exact ⟨_, _, rfl⟩
  have h : us.length = 2 := Nat.succ.inj h
  obtain ⟨x4, us, rfl⟩ : ∃ x r, us = x :: r := by
    cases us with
    | nil => cases h
    | cons x r => exact ⟨_, _, rfl⟩
  have h : us.length = 1 := Nat.succ.inj h
  obtain ⟨x5, us, rfl⟩ : ∃ x r, us = x :: r := by
    cases us with
    | nil => cases h
    | cons x r => exact ⟨_, _, rfl⟩
  have h : us.length = 0 := Nat.succ.inj h
  cases us with
  | nil => exact ⟨x0, x1, x2, x3, x4, x5, rfl⟩
  | cons x r => cases h
theorem lenV7 {us : List Value} (h : us.length = 7) : ∃ x0 x1 x2 x3 x4 x5 x6, us = [x0, x1, x2, x3, x4, x5, x6] := by
  obtain ⟨x0, us, rfl⟩ : ∃ x r, us = x :: r := by
    cases us with
    | nil => cases h
    | cons x r => exact ⟨_, _, rfl⟩
  have h : us.length = 6 := Nat.succ.inj h
  obtain ⟨x1, us, rfl⟩ : ∃ x r, us = x :: r := by
    cases us with
    | nil => cases h
    | cons x r => exact ⟨_, _, rfl⟩
  have h : us.length = 5 := Nat.succ.inj h
  obtain ⟨x2, us, rfl⟩ : ∃ x r, us = x :: r := by
    cases us with
    | nil => cases h
    | cons x r => exact ⟨_, _, rfl⟩
  have h : us.length = 4 := Nat.succ.inj h
  obtain ⟨x3, us, rfl⟩ : ∃ x r, us = x :: r := by
    cases us with
    | nil => cases h
    | cons x r => exact ⟨_, _, rfl⟩
  have h : us.length = 3 := Nat.succ.inj h
  obtain ⟨x4, us, rfl⟩ : ∃ x r, us = x :: r := by
    cases us with
    | nil => cases h
    | cons x r => exact ⟨_, _, rfl⟩
  have h : us.length = 2 := Nat.succ.inj h
  obtain ⟨x5, us, rfl⟩ : ∃ x r, us = x :: r := by
    cases us with
    | nil => cases h
    | cons x r => exact ⟨_, _, rfl⟩
  have h : us.length = 1 := Nat.succ.inj h
  obtain ⟨x6, us, rfl⟩ : ∃ x r, us = x :: r := by
    cases us with
    | nil => cases h
    | cons x r => exact ⟨_, _, rfl⟩
  have h : us.length = 0 := Nat.succ.inj h
  cases us with
  | nil => exact ⟨x0, x1, x2, x3, x4, x5, x6, rfl⟩
  | cons x r => cases h
theorem sc_xInvalidStanding : FnScope ["self", "value"] ["self", "value"] (defScope s_InvalidStanding_init) := ⟨rfl, rfl, rfl, by decide +kernel, rfl, by decide +kernel, by decide +kernel⟩
theorem sc_xInvalidLength : FnScope ["self", "value"] ["self", "value"] (defScope s_InvalidLength_init) := ⟨rfl, rfl, rfl, by decide +kernel, rfl, by decide +kernel, by decide +kernel⟩
theorem sc_xInvalidMove : FnScope ["self", "position"] ["self", "position"] (defScope s_InvalidMove_init) := ⟨rfl, rfl, rfl, by decide +kernel, rfl, by decide +kernel, by decide +kernel⟩
theorem sc_xBlocked : FnScope ["self", "position"] ["self", "position"] (defScope s_Blocked_init) := ⟨rfl, rfl, rfl, by decide +kernel, rfl, by decide +kernel, by decide +kernel⟩
theorem all_mk {P : Program} {w : World} {K : PySem.W.Frag} {h : Heap} {mg : Str → Option Value} {fa : Addr} (X : K.In h) (G : h.Ns mainGlobals mg) (hfa : mg "law" = some (.ref fa))
  {fis_integer : Addr} {ocis_integer kVis_integer dcis_integer pmis_integer cdis_integer ctis_integer : Value} {odis_integer anis_integer : Option Addr} {slis_integer : Array (Option Value)}
  {fis_number_from : Addr} {ocis_number_from kVis_number_from dcis_number_from pmis_number_from cdis_number_from ctis_number_from : Value} {odis_number_from anis_number_from : Option Addr} {slis_number_from : Array (Option Value)}
  {fis_pair_of_stations : Addr} {ocis_pair_of_stations kVis_pair_of_stations dcis_pair_of_stations pmis_pair_of_stations cdis_pair_of_stations ctis_pair_of_stations : Value} {odis_pair_of_stations anis_pair_of_stations : Option Addr} {slis_pair_of_stations : Array (Option Value)}
  {fis_station : Addr} {ocis_station kVis_station dcis_station pmis_station cdis_station ctis_station : Value} {odis_station anis_station : Option Addr} {slis_station : Array (Option Value)}
  {fcheck_station : Addr} {occheck_station kVcheck_station dccheck_station pmcheck_station cdcheck_station ctcheck_station : Value} {odcheck_station ancheck_station : Option Addr} {slcheck_station : Array (Option Value)}
  {fjoined : Addr} {ocjoined kVjoined dcjoined pmjoined cdjoined ctjoined : Value} {odjoined anjoined : Option Addr} {sljoined : Array (Option Value)}
  {ffirst_wrong_track : Addr} {ocfirst_wrong_track kVfirst_wrong_track dcfirst_wrong_track pmfirst_wrong_track cdfirst_wrong_track ctfirst_wrong_track : Value} {odfirst_wrong_track anfirst_wrong_track : Option Addr} {slfirst_wrong_track : Array (Option Value)}
  {fneighbours_of : Addr} {ocneighbours_of kVneighbours_of dcneighbours_of pmneighbours_of cdneighbours_of ctneighbours_of : Value} {odneighbours_of anneighbours_of : Option Addr} {slneighbours_of : Array (Option Value)}
  {fplaces_below_first : Addr} {ocplaces_below_first kVplaces_below_first dcplaces_below_first pmplaces_below_first cdplaces_below_first ctplaces_below_first : Value} {odplaces_below_first anplaces_below_first : Option Addr} {slplaces_below_first : Array (Option Value)}
  {flaw_begin : Addr} {oclaw_begin kVlaw_begin dclaw_begin pmlaw_begin cdlaw_begin ctlaw_begin : Value} {odlaw_begin anlaw_begin : Option Addr} {sllaw_begin : Array (Option Value)}
  {flaw_mixed : Addr} {oclaw_mixed kVlaw_mixed dclaw_mixed pmlaw_mixed cdlaw_mixed ctlaw_mixed : Value} {odlaw_mixed anlaw_mixed : Option Addr} {sllaw_mixed : Array (Option Value)}
  {flaw_next : Addr} {oclaw_next kVlaw_next dclaw_next pmlaw_next cdlaw_next ctlaw_next : Value} {odlaw_next anlaw_next : Option Addr} {sllaw_next : Array (Option Value)}
  {flaw_tracks : Addr} {oclaw_tracks kVlaw_tracks dclaw_tracks pmlaw_tracks cdlaw_tracks ctlaw_tracks : Value} {odlaw_tracks anlaw_tracks : Option Addr} {sllaw_tracks : Array (Option Value)}
  {fcheck_length : Addr} {occheck_length kVcheck_length dccheck_length pmcheck_length cdcheck_length ctcheck_length : Value} {odcheck_length ancheck_length : Option Addr} {slcheck_length : Array (Option Value)}
  {fis_standing : Addr} {ocis_standing kVis_standing dcis_standing pmis_standing cdis_standing ctis_standing : Value} {odis_standing anis_standing : Option Addr} {slis_standing : Array (Option Value)}
  {fcheck_standing : Addr} {occheck_standing kVcheck_standing dccheck_standing pmcheck_standing cdcheck_standing ctcheck_standing : Value} {odcheck_standing ancheck_standing : Option Addr} {slcheck_standing : Array (Option Value)}
  {fis_move : Addr} {ocis_move kVis_move dcis_move pmis_move cdis_move ctis_move : Value} {odis_move anis_move : Option Addr} {slis_move : Array (Option Value)}
  {fcheck_moves : Addr} {occheck_moves kVcheck_moves dccheck_moves pmcheck_moves cdcheck_moves ctcheck_moves : Value} {odcheck_moves ancheck_moves : Option Addr} {slcheck_moves : Array (Option Value)}
  {fbody_of : Addr} {ocbody_of kVbody_of dcbody_of pmbody_of cdbody_of ctbody_of : Value} {odbody_of anbody_of : Option Addr} {slbody_of : Array (Option Value)}
  {flength_of : Addr} {oclength_of kVlength_of dclength_of pmlength_of cdlength_of ctlength_of : Value} {odlength_of anlength_of : Option Addr} {sllength_of : Array (Option Value)}
  {fturned : Addr} {octurned kVturned dcturned pmturned cdturned ctturned : Value} {odturned anturned : Option Addr} {slturned : Array (Option Value)}
  {fstandings : Addr} {ocstandings kVstandings dcstandings pmstandings cdstandings ctstandings : Value} {odstandings anstandings : Option Addr} {slstandings : Array (Option Value)}
  {fbody_for_part : Addr} {ocbody_for_part kVbody_for_part dcbody_for_part pmbody_for_part cdbody_for_part ctbody_for_part : Value} {odbody_for_part anbody_for_part : Option Addr} {slbody_for_part : Array (Option Value)}
  {ffront_part : Addr} {ocfront_part kVfront_part dcfront_part pmfront_part cdfront_part ctfront_part : Value} {odfront_part anfront_part : Option Addr} {slfront_part : Array (Option Value)}
  {frear_part : Addr} {ocrear_part kVrear_part dcrear_part pmrear_part cdrear_part ctrear_part : Value} {odrear_part anrear_part : Option Addr} {slrear_part : Array (Option Value)}
  {fpossible_moves : Addr} {ocpossible_moves kVpossible_moves dcpossible_moves pmpossible_moves cdpossible_moves ctpossible_moves : Value} {odpossible_moves anpossible_moves : Option Addr} {slpossible_moves : Array (Option Value)}
  {fmoved : Addr} {ocmoved kVmoved dcmoved pmmoved cdmoved ctmoved : Value} {odmoved anmoved : Option Addr} {slmoved : Array (Option Value)}
  {fmoved_along : Addr} {ocmoved_along kVmoved_along dcmoved_along pmmoved_along cdmoved_along ctmoved_along : Value} {odmoved_along anmoved_along : Option Addr} {slmoved_along : Array (Option Value)}
  {fopposite_moves : Addr} {ocopposite_moves kVopposite_moves dcopposite_moves pmopposite_moves cdopposite_moves ctopposite_moves : Value} {odopposite_moves anopposite_moves : Option Addr} {slopposite_moves : Array (Option Value)}
  {fbodies_along : Addr} {ocbodies_along kVbodies_along dcbodies_along pmbodies_along cdbodies_along ctbodies_along : Value} {odbodies_along anbodies_along : Option Addr} {slbodies_along : Array (Option Value)}
  {fsteps_from : Addr} {ocsteps_from kVsteps_from dcsteps_from pmsteps_from cdsteps_from ctsteps_from : Value} {odsteps_from ansteps_from : Option Addr} {slsteps_from : Array (Option Value)}
  {fbody_after : Addr} {ocbody_after kVbody_after dcbody_after pmbody_after cdbody_after ctbody_after : Value} {odbody_after anbody_after : Option Addr} {slbody_after : Array (Option Value)}
  {fopposite_move : Addr} {ocopposite_move kVopposite_move dcopposite_move pmopposite_move cdopposite_move ctopposite_move : Value} {odopposite_move anopposite_move : Option Addr} {slopposite_move : Array (Option Value)}
  {flaw_standing : Addr} {oclaw_standing kVlaw_standing dclaw_standing pmlaw_standing cdlaw_standing ctlaw_standing : Value} {odlaw_standing anlaw_standing : Option Addr} {sllaw_standing : Array (Option Value)}
  {flaw_pair_tracks : Addr} {oclaw_pair_tracks kVlaw_pair_tracks dclaw_pair_tracks pmlaw_pair_tracks cdlaw_pair_tracks ctlaw_pair_tracks : Value} {odlaw_pair_tracks anlaw_pair_tracks : Option Addr} {sllaw_pair_tracks : Array (Option Value)}
  {flaw_said : Addr} {oclaw_said kVlaw_said dclaw_said pmlaw_said cdlaw_said ctlaw_said : Value} {odlaw_said anlaw_said : Option Addr} {sllaw_said : Array (Option Value)}
  {flaw_no_standing : Addr} {oclaw_no_standing kVlaw_no_standing dclaw_no_standing pmlaw_no_standing cdlaw_no_standing ctlaw_no_standing : Value} {odlaw_no_standing anlaw_no_standing : Option Addr} {sllaw_no_standing : Array (Option Value)}
  {flaw_no_length : Addr} {oclaw_no_length kVlaw_no_length dclaw_no_length pmlaw_no_length cdlaw_no_length ctlaw_no_length : Value} {odlaw_no_length anlaw_no_length : Option Addr} {sllaw_no_length : Array (Option Value)}
  {flaw_no_move : Addr} {oclaw_no_move kVlaw_no_move dclaw_no_move pmlaw_no_move cdlaw_no_move ctlaw_no_move : Value} {odlaw_no_move anlaw_no_move : Option Addr} {sllaw_no_move : Array (Option Value)}
  {flaw_standings_right : Addr} {oclaw_standings_right kVlaw_standings_right dclaw_standings_right pmlaw_standings_right ctlaw_standings_right : Value} {odlaw_standings_right anlaw_standings_right : Option Addr} {sllaw_standings_right : Array (Option Value)} {qqlaw_standings_right PPlaw_standings_right : Addr} {cclaw_standings_right : Value} {codlaw_standings_right : Option Addr} {cvslaw_standings_right : Array Value} {csllaw_standings_right : Array (Option Value)}
  {flaw_lengths_right : Addr} {oclaw_lengths_right kVlaw_lengths_right dclaw_lengths_right pmlaw_lengths_right ctlaw_lengths_right : Value} {odlaw_lengths_right anlaw_lengths_right : Option Addr} {sllaw_lengths_right : Array (Option Value)} {qqlaw_lengths_right PPlaw_lengths_right : Addr} {cclaw_lengths_right : Value} {codlaw_lengths_right : Option Addr} {cvslaw_lengths_right : Array Value} {csllaw_lengths_right : Array (Option Value)}
  {flaw_moves_right : Addr} {oclaw_moves_right kVlaw_moves_right dclaw_moves_right pmlaw_moves_right ctlaw_moves_right : Value} {odlaw_moves_right anlaw_moves_right : Option Addr} {sllaw_moves_right : Array (Option Value)} {qqlaw_moves_right PPlaw_moves_right : Addr} {cclaw_moves_right : Value} {codlaw_moves_right : Option Addr} {cvslaw_moves_right : Array Value} {csllaw_moves_right : Array (Option Value)}
  {flaw_blocked_right : Addr} {oclaw_blocked_right kVlaw_blocked_right dclaw_blocked_right pmlaw_blocked_right ctlaw_blocked_right : Value} {odlaw_blocked_right anlaw_blocked_right : Option Addr} {sllaw_blocked_right : Array (Option Value)} {qqlaw_blocked_right PPlaw_blocked_right : Addr} {cclaw_blocked_right : Value} {codlaw_blocked_right : Option Addr} {cvslaw_blocked_right : Array Value} {csllaw_blocked_right : Array (Option Value)}
  {flaw : Addr} {oclaw kVlaw dclaw pmlaw cdlaw ctlaw : Value} {odlaw anlaw : Option Addr} {sllaw : Array (Option Value)}
  {C : Addr} {tM : Tok}
  {fMinit : Addr} {ocMinit kVMinit dcMinit pmMinit cdMinit ctMinit : Value} {odMinit anMinit : Option Addr} {slMinit : Array (Option Value)}
  {fMpath : Addr} {ocMpath kVMpath dcMpath pmMpath cdMpath ctMpath : Value} {odMpath anMpath : Option Addr} {slMpath : Array (Option Value)}
  {fMsize : Addr} {ocMsize kVMsize dcMsize pmMsize cdMsize ctMsize : Value} {odMsize anMsize : Option Addr} {slMsize : Array (Option Value)}
  {pMsize : Addr} {rMsize : List Value}
  {fMof : Addr} {ocMof kVMof dcMof pmMof cdMof ctMof : Value} {odMof anMof : Option Addr} {slMof : Array (Option Value)}
  {pMof : Addr} {rMof : List Value}
  {fMneighbours : Addr} {ocMneighbours kVMneighbours dcMneighbours pmMneighbours cdMneighbours ctMneighbours : Value} {odMneighbours anMneighbours : Option Addr} {slMneighbours : Array (Option Value)}
  {CR CU CM : Addr}
  {CInvalidStanding gInvalidStanding : Addr} {ocxInvalidStanding kVxInvalidStanding dcxInvalidStanding pmxInvalidStanding cdxInvalidStanding ctxInvalidStanding : Value} {odxInvalidStanding anxInvalidStanding : Option Addr} {slxInvalidStanding : Array (Option Value)}
  {CInvalidLength gInvalidLength : Addr} {ocxInvalidLength kVxInvalidLength dcxInvalidLength pmxInvalidLength cdxInvalidLength ctxInvalidLength : Value} {odxInvalidLength anxInvalidLength : Option Addr} {slxInvalidLength : Array (Option Value)}
  {CInvalidMove gInvalidMove : Addr} {ocxInvalidMove kVxInvalidMove dcxInvalidMove pmxInvalidMove cdxInvalidMove ctxInvalidMove : Value} {odxInvalidMove anxInvalidMove : Option Addr} {slxInvalidMove : Array (Option Value)}
  {TxInvalidMove : Addr} {tcxInvalidMove : Value} {tdxInvalidMove : Option Addr} {tlxInvalidMove : Array (Option Value)} {tnxInvalidMove : Nat}
  {CBlocked gBlocked : Addr} {ocxBlocked kVxBlocked dcxBlocked pmxBlocked cdxBlocked ctxBlocked : Value} {odxBlocked anxBlocked : Option Addr} {slxBlocked : Array (Option Value)}
  {aEN : Addr} {odE : Option Addr} {tE1 tE2 : Tok} {nE : Nat} {slE : Array (Option Value)} {CIP CIS : Addr}
  (ais_integer : PySem.W.nsIn K mainGlobals "is_integer" = some (some (.ref fis_integer)))
  (lis_integer : K.lookup fis_integer = some ⟨ocis_integer, odis_integer, .func (PySem.W.fnOf "is_integer" "is_integer" (defArgs s_is_integer) (defBody s_is_integer) (defScope s_is_integer) .none kVis_integer dcis_integer pmis_integer anis_integer cdis_integer ctis_integer), slis_integer⟩)
  (cis_integer : PySem.W.codeIn K cdis_integer "is_integer" = true)
  (kis_integer : PySem.W.keepIn K (.ref fis_integer) = true)
  (ais_number_from : PySem.W.nsIn K mainGlobals "is_number_from" = some (some (.ref fis_number_from)))
  (lis_number_from : K.lookup fis_number_from = some ⟨ocis_number_from, odis_number_from, .func (PySem.W.fnOf "is_number_from" "is_number_from" (defArgs s_is_number_from) (defBody s_is_number_from) (defScope s_is_number_from) .none kVis_number_from dcis_number_from pmis_number_from anis_number_from cdis_number_from ctis_number_from), slis_number_from⟩)
  (cis_number_from : PySem.W.codeIn K cdis_number_from "is_number_from" = true)
  (kis_number_from : PySem.W.keepIn K (.ref fis_number_from) = true)
  (ais_pair_of_stations : PySem.W.nsIn K mainGlobals "is_pair_of_stations" = some (some (.ref fis_pair_of_stations)))
  (lis_pair_of_stations : K.lookup fis_pair_of_stations = some ⟨ocis_pair_of_stations, odis_pair_of_stations, .func (PySem.W.fnOf "is_pair_of_stations" "is_pair_of_stations" (defArgs s_is_pair_of_stations) (defBody s_is_pair_of_stations) (defScope s_is_pair_of_stations) .none kVis_pair_of_stations dcis_pair_of_stations pmis_pair_of_stations anis_pair_of_stations cdis_pair_of_stations ctis_pair_of_stations), slis_pair_of_stations⟩)
  (cis_pair_of_stations : PySem.W.codeIn K cdis_pair_of_stations "is_pair_of_stations" = true)
  (kis_pair_of_stations : PySem.W.keepIn K (.ref fis_pair_of_stations) = true)
  (ais_station : PySem.W.nsIn K mainGlobals "is_station" = some (some (.ref fis_station)))
  (lis_station : K.lookup fis_station = some ⟨ocis_station, odis_station, .func (PySem.W.fnOf "is_station" "is_station" (defArgs s_is_station) (defBody s_is_station) (defScope s_is_station) .none kVis_station dcis_station pmis_station anis_station cdis_station ctis_station), slis_station⟩)
  (cis_station : PySem.W.codeIn K cdis_station "is_station" = true)
  (kis_station : PySem.W.keepIn K (.ref fis_station) = true)
  (acheck_station : PySem.W.nsIn K mainGlobals "check_station" = some (some (.ref fcheck_station)))
  (lcheck_station : K.lookup fcheck_station = some ⟨occheck_station, odcheck_station, .func (PySem.W.fnOf "check_station" "check_station" (defArgs s_check_station) (defBody s_check_station) (defScope s_check_station) .none kVcheck_station dccheck_station pmcheck_station ancheck_station cdcheck_station ctcheck_station), slcheck_station⟩)
  (ccheck_station : PySem.W.codeIn K cdcheck_station "check_station" = true)
  (kcheck_station : PySem.W.keepIn K (.ref fcheck_station) = true)
  (ajoined : PySem.W.nsIn K mainGlobals "joined" = some (some (.ref fjoined)))
  (ljoined : K.lookup fjoined = some ⟨ocjoined, odjoined, .func (PySem.W.fnOf "joined" "joined" (defArgs s_joined) (defBody s_joined) (defScope s_joined) .none kVjoined dcjoined pmjoined anjoined cdjoined ctjoined), sljoined⟩)
  (cjoined : PySem.W.codeIn K cdjoined "joined" = true)
  (kjoined : PySem.W.keepIn K (.ref fjoined) = true)
  (afirst_wrong_track : PySem.W.nsIn K mainGlobals "first_wrong_track" = some (some (.ref ffirst_wrong_track)))
  (lfirst_wrong_track : K.lookup ffirst_wrong_track = some ⟨ocfirst_wrong_track, odfirst_wrong_track, .func (PySem.W.fnOf "first_wrong_track" "first_wrong_track" (defArgs s_first_wrong_track) (defBody s_first_wrong_track) (defScope s_first_wrong_track) .none kVfirst_wrong_track dcfirst_wrong_track pmfirst_wrong_track anfirst_wrong_track cdfirst_wrong_track ctfirst_wrong_track), slfirst_wrong_track⟩)
  (cfirst_wrong_track : PySem.W.codeIn K cdfirst_wrong_track "first_wrong_track" = true)
  (kfirst_wrong_track : PySem.W.keepIn K (.ref ffirst_wrong_track) = true)
  (aneighbours_of : PySem.W.nsIn K mainGlobals "_neighbours_of" = some (some (.ref fneighbours_of)))
  (lneighbours_of : K.lookup fneighbours_of = some ⟨ocneighbours_of, odneighbours_of, .func (PySem.W.fnOf "_neighbours_of" "_neighbours_of" (defArgs s_neighbours_of) (defBody s_neighbours_of) (defScope s_neighbours_of) .none kVneighbours_of dcneighbours_of pmneighbours_of anneighbours_of cdneighbours_of ctneighbours_of), slneighbours_of⟩)
  (cneighbours_of : PySem.W.codeIn K cdneighbours_of "_neighbours_of" = true)
  (kneighbours_of : PySem.W.keepIn K (.ref fneighbours_of) = true)
  (aplaces_below_first : PySem.W.nsIn K mainGlobals "_places_below_first" = some (some (.ref fplaces_below_first)))
  (lplaces_below_first : K.lookup fplaces_below_first = some ⟨ocplaces_below_first, odplaces_below_first, .func (PySem.W.fnOf "_places_below_first" "_places_below_first" (defArgs s_places_below_first) (defBody s_places_below_first) (defScope s_places_below_first) .none kVplaces_below_first dcplaces_below_first pmplaces_below_first anplaces_below_first cdplaces_below_first ctplaces_below_first), slplaces_below_first⟩)
  (cplaces_below_first : PySem.W.codeIn K cdplaces_below_first "_places_below_first" = true)
  (kplaces_below_first : PySem.W.keepIn K (.ref fplaces_below_first) = true)
  (alaw_begin : PySem.W.nsIn K mainGlobals "_law_begin" = some (some (.ref flaw_begin)))
  (llaw_begin : K.lookup flaw_begin = some ⟨oclaw_begin, odlaw_begin, .func (PySem.W.fnOf "_law_begin" "_law_begin" (defArgs s_law_begin) (defBody s_law_begin) (defScope s_law_begin) .none kVlaw_begin dclaw_begin pmlaw_begin anlaw_begin cdlaw_begin ctlaw_begin), sllaw_begin⟩)
  (claw_begin : PySem.W.codeIn K cdlaw_begin "_law_begin" = true)
  (klaw_begin : PySem.W.keepIn K (.ref flaw_begin) = true)
  (alaw_mixed : PySem.W.nsIn K mainGlobals "_law_mixed" = some (some (.ref flaw_mixed)))
  (llaw_mixed : K.lookup flaw_mixed = some ⟨oclaw_mixed, odlaw_mixed, .func (PySem.W.fnOf "_law_mixed" "_law_mixed" (defArgs s_law_mixed) (defBody s_law_mixed) (defScope s_law_mixed) .none kVlaw_mixed dclaw_mixed pmlaw_mixed anlaw_mixed cdlaw_mixed ctlaw_mixed), sllaw_mixed⟩)
  (claw_mixed : PySem.W.codeIn K cdlaw_mixed "_law_mixed" = true)
  (klaw_mixed : PySem.W.keepIn K (.ref flaw_mixed) = true)
  (alaw_next : PySem.W.nsIn K mainGlobals "_law_next" = some (some (.ref flaw_next)))
  (llaw_next : K.lookup flaw_next = some ⟨oclaw_next, odlaw_next, .func (PySem.W.fnOf "_law_next" "_law_next" (defArgs s_law_next) (defBody s_law_next) (defScope s_law_next) .none kVlaw_next dclaw_next pmlaw_next anlaw_next cdlaw_next ctlaw_next), sllaw_next⟩)
  (claw_next : PySem.W.codeIn K cdlaw_next "_law_next" = true)
  (klaw_next : PySem.W.keepIn K (.ref flaw_next) = true)
  (alaw_tracks : PySem.W.nsIn K mainGlobals "_law_tracks" = some (some (.ref flaw_tracks)))
  (llaw_tracks : K.lookup flaw_tracks = some ⟨oclaw_tracks, odlaw_tracks, .func (PySem.W.fnOf "_law_tracks" "_law_tracks" (defArgs s_law_tracks) (defBody s_law_tracks) (defScope s_law_tracks) .none kVlaw_tracks dclaw_tracks pmlaw_tracks anlaw_tracks cdlaw_tracks ctlaw_tracks), sllaw_tracks⟩)
  (claw_tracks : PySem.W.codeIn K cdlaw_tracks "_law_tracks" = true)
  (klaw_tracks : PySem.W.keepIn K (.ref flaw_tracks) = true)
  (acheck_length : PySem.W.nsIn K mainGlobals "check_length" = some (some (.ref fcheck_length)))
  (lcheck_length : K.lookup fcheck_length = some ⟨occheck_length, odcheck_length, .func (PySem.W.fnOf "check_length" "check_length" (defArgs s_check_length) (defBody s_check_length) (defScope s_check_length) .none kVcheck_length dccheck_length pmcheck_length ancheck_length cdcheck_length ctcheck_length), slcheck_length⟩)
  (ccheck_length : PySem.W.codeIn K cdcheck_length "check_length" = true)
  (kcheck_length : PySem.W.keepIn K (.ref fcheck_length) = true)
  (ais_standing : PySem.W.nsIn K mainGlobals "is_standing" = some (some (.ref fis_standing)))
  (lis_standing : K.lookup fis_standing = some ⟨ocis_standing, odis_standing, .func (PySem.W.fnOf "is_standing" "is_standing" (defArgs s_is_standing) (defBody s_is_standing) (defScope s_is_standing) .none kVis_standing dcis_standing pmis_standing anis_standing cdis_standing ctis_standing), slis_standing⟩)
  (cis_standing : PySem.W.codeIn K cdis_standing "is_standing" = true)
  (kis_standing : PySem.W.keepIn K (.ref fis_standing) = true)
  (acheck_standing : PySem.W.nsIn K mainGlobals "check_standing" = some (some (.ref fcheck_standing)))
  (lcheck_standing : K.lookup fcheck_standing = some ⟨occheck_standing, odcheck_standing, .func (PySem.W.fnOf "check_standing" "check_standing" (defArgs s_check_standing) (defBody s_check_standing) (defScope s_check_standing) .none kVcheck_standing dccheck_standing pmcheck_standing ancheck_standing cdcheck_standing ctcheck_standing), slcheck_standing⟩)
  (ccheck_standing : PySem.W.codeIn K cdcheck_standing "check_standing" = true)
  (kcheck_standing : PySem.W.keepIn K (.ref fcheck_standing) = true)
  (ais_move : PySem.W.nsIn K mainGlobals "is_move" = some (some (.ref fis_move)))
  (lis_move : K.lookup fis_move = some ⟨ocis_move, odis_move, .func (PySem.W.fnOf "is_move" "is_move" (defArgs s_is_move) (defBody s_is_move) (defScope s_is_move) .none kVis_move dcis_move pmis_move anis_move cdis_move ctis_move), slis_move⟩)
  (cis_move : PySem.W.codeIn K cdis_move "is_move" = true)
  (kis_move : PySem.W.keepIn K (.ref fis_move) = true)
  (acheck_moves : PySem.W.nsIn K mainGlobals "check_moves" = some (some (.ref fcheck_moves)))
  (lcheck_moves : K.lookup fcheck_moves = some ⟨occheck_moves, odcheck_moves, .func (PySem.W.fnOf "check_moves" "check_moves" (defArgs s_check_moves) (defBody s_check_moves) (defScope s_check_moves) .none kVcheck_moves dccheck_moves pmcheck_moves ancheck_moves cdcheck_moves ctcheck_moves), slcheck_moves⟩)
  (ccheck_moves : PySem.W.codeIn K cdcheck_moves "check_moves" = true)
  (kcheck_moves : PySem.W.keepIn K (.ref fcheck_moves) = true)
  (abody_of : PySem.W.nsIn K mainGlobals "body_of" = some (some (.ref fbody_of)))
  (lbody_of : K.lookup fbody_of = some ⟨ocbody_of, odbody_of, .func (PySem.W.fnOf "body_of" "body_of" (defArgs s_body_of) (defBody s_body_of) (defScope s_body_of) .none kVbody_of dcbody_of pmbody_of anbody_of cdbody_of ctbody_of), slbody_of⟩)
  (cbody_of : PySem.W.codeIn K cdbody_of "body_of" = true)
  (kbody_of : PySem.W.keepIn K (.ref fbody_of) = true)
  (alength_of : PySem.W.nsIn K mainGlobals "length_of" = some (some (.ref flength_of)))
  (llength_of : K.lookup flength_of = some ⟨oclength_of, odlength_of, .func (PySem.W.fnOf "length_of" "length_of" (defArgs s_length_of) (defBody s_length_of) (defScope s_length_of) .none kVlength_of dclength_of pmlength_of anlength_of cdlength_of ctlength_of), sllength_of⟩)
  (clength_of : PySem.W.codeIn K cdlength_of "length_of" = true)
  (klength_of : PySem.W.keepIn K (.ref flength_of) = true)
  (aturned : PySem.W.nsIn K mainGlobals "turned" = some (some (.ref fturned)))
  (lturned : K.lookup fturned = some ⟨octurned, odturned, .func (PySem.W.fnOf "turned" "turned" (defArgs s_turned) (defBody s_turned) (defScope s_turned) .none kVturned dcturned pmturned anturned cdturned ctturned), slturned⟩)
  (cturned : PySem.W.codeIn K cdturned "turned" = true)
  (kturned : PySem.W.keepIn K (.ref fturned) = true)
  (astandings : PySem.W.nsIn K mainGlobals "standings" = some (some (.ref fstandings)))
  (lstandings : K.lookup fstandings = some ⟨ocstandings, odstandings, .func (PySem.W.fnOf "standings" "standings" (defArgs s_standings) (defBody s_standings) (defScope s_standings) .none kVstandings dcstandings pmstandings anstandings cdstandings ctstandings), slstandings⟩)
  (cstandings : PySem.W.codeIn K cdstandings "standings" = true)
  (kstandings : PySem.W.keepIn K (.ref fstandings) = true)
  (abody_for_part : PySem.W.nsIn K mainGlobals "_body_for_part" = some (some (.ref fbody_for_part)))
  (lbody_for_part : K.lookup fbody_for_part = some ⟨ocbody_for_part, odbody_for_part, .func (PySem.W.fnOf "_body_for_part" "_body_for_part" (defArgs s_body_for_part) (defBody s_body_for_part) (defScope s_body_for_part) .none kVbody_for_part dcbody_for_part pmbody_for_part anbody_for_part cdbody_for_part ctbody_for_part), slbody_for_part⟩)
  (cbody_for_part : PySem.W.codeIn K cdbody_for_part "_body_for_part" = true)
  (kbody_for_part : PySem.W.keepIn K (.ref fbody_for_part) = true)
  (afront_part : PySem.W.nsIn K mainGlobals "front_part" = some (some (.ref ffront_part)))
  (lfront_part : K.lookup ffront_part = some ⟨ocfront_part, odfront_part, .func (PySem.W.fnOf "front_part" "front_part" (defArgs s_front_part) (defBody s_front_part) (defScope s_front_part) .none kVfront_part dcfront_part pmfront_part anfront_part cdfront_part ctfront_part), slfront_part⟩)
  (cfront_part : PySem.W.codeIn K cdfront_part "front_part" = true)
  (kfront_part : PySem.W.keepIn K (.ref ffront_part) = true)
  (arear_part : PySem.W.nsIn K mainGlobals "rear_part" = some (some (.ref frear_part)))
  (lrear_part : K.lookup frear_part = some ⟨ocrear_part, odrear_part, .func (PySem.W.fnOf "rear_part" "rear_part" (defArgs s_rear_part) (defBody s_rear_part) (defScope s_rear_part) .none kVrear_part dcrear_part pmrear_part anrear_part cdrear_part ctrear_part), slrear_part⟩)
  (crear_part : PySem.W.codeIn K cdrear_part "rear_part" = true)
  (krear_part : PySem.W.keepIn K (.ref frear_part) = true)
  (apossible_moves : PySem.W.nsIn K mainGlobals "possible_moves" = some (some (.ref fpossible_moves)))
  (lpossible_moves : K.lookup fpossible_moves = some ⟨ocpossible_moves, odpossible_moves, .func (PySem.W.fnOf "possible_moves" "possible_moves" (defArgs s_possible_moves) (defBody s_possible_moves) (defScope s_possible_moves) .none kVpossible_moves dcpossible_moves pmpossible_moves anpossible_moves cdpossible_moves ctpossible_moves), slpossible_moves⟩)
  (cpossible_moves : PySem.W.codeIn K cdpossible_moves "possible_moves" = true)
  (kpossible_moves : PySem.W.keepIn K (.ref fpossible_moves) = true)
  (amoved : PySem.W.nsIn K mainGlobals "moved" = some (some (.ref fmoved)))
  (lmoved : K.lookup fmoved = some ⟨ocmoved, odmoved, .func (PySem.W.fnOf "moved" "moved" (defArgs s_moved) (defBody s_moved) (defScope s_moved) .none kVmoved dcmoved pmmoved anmoved cdmoved ctmoved), slmoved⟩)
  (cmoved : PySem.W.codeIn K cdmoved "moved" = true)
  (kmoved : PySem.W.keepIn K (.ref fmoved) = true)
  (amoved_along : PySem.W.nsIn K mainGlobals "moved_along" = some (some (.ref fmoved_along)))
  (lmoved_along : K.lookup fmoved_along = some ⟨ocmoved_along, odmoved_along, .func (PySem.W.fnOf "moved_along" "moved_along" (defArgs s_moved_along) (defBody s_moved_along) (defScope s_moved_along) .none kVmoved_along dcmoved_along pmmoved_along anmoved_along cdmoved_along ctmoved_along), slmoved_along⟩)
  (cmoved_along : PySem.W.codeIn K cdmoved_along "moved_along" = true)
  (kmoved_along : PySem.W.keepIn K (.ref fmoved_along) = true)
  (aopposite_moves : PySem.W.nsIn K mainGlobals "opposite_moves" = some (some (.ref fopposite_moves)))
  (lopposite_moves : K.lookup fopposite_moves = some ⟨ocopposite_moves, odopposite_moves, .func (PySem.W.fnOf "opposite_moves" "opposite_moves" (defArgs s_opposite_moves) (defBody s_opposite_moves) (defScope s_opposite_moves) .none kVopposite_moves dcopposite_moves pmopposite_moves anopposite_moves cdopposite_moves ctopposite_moves), slopposite_moves⟩)
  (copposite_moves : PySem.W.codeIn K cdopposite_moves "opposite_moves" = true)
  (kopposite_moves : PySem.W.keepIn K (.ref fopposite_moves) = true)
  (abodies_along : PySem.W.nsIn K mainGlobals "bodies_along" = some (some (.ref fbodies_along)))
  (lbodies_along : K.lookup fbodies_along = some ⟨ocbodies_along, odbodies_along, .func (PySem.W.fnOf "bodies_along" "bodies_along" (defArgs s_bodies_along) (defBody s_bodies_along) (defScope s_bodies_along) .none kVbodies_along dcbodies_along pmbodies_along anbodies_along cdbodies_along ctbodies_along), slbodies_along⟩)
  (cbodies_along : PySem.W.codeIn K cdbodies_along "bodies_along" = true)
  (kbodies_along : PySem.W.keepIn K (.ref fbodies_along) = true)
  (asteps_from : PySem.W.nsIn K mainGlobals "steps_from" = some (some (.ref fsteps_from)))
  (lsteps_from : K.lookup fsteps_from = some ⟨ocsteps_from, odsteps_from, .func (PySem.W.fnOf "steps_from" "steps_from" (defArgs s_steps_from) (defBody s_steps_from) (defScope s_steps_from) .none kVsteps_from dcsteps_from pmsteps_from ansteps_from cdsteps_from ctsteps_from), slsteps_from⟩)
  (csteps_from : PySem.W.codeIn K cdsteps_from "steps_from" = true)
  (ksteps_from : PySem.W.keepIn K (.ref fsteps_from) = true)
  (abody_after : PySem.W.nsIn K mainGlobals "_body_after" = some (some (.ref fbody_after)))
  (lbody_after : K.lookup fbody_after = some ⟨ocbody_after, odbody_after, .func (PySem.W.fnOf "_body_after" "_body_after" (defArgs s_body_after) (defBody s_body_after) (defScope s_body_after) .none kVbody_after dcbody_after pmbody_after anbody_after cdbody_after ctbody_after), slbody_after⟩)
  (cbody_after : PySem.W.codeIn K cdbody_after "_body_after" = true)
  (kbody_after : PySem.W.keepIn K (.ref fbody_after) = true)
  (aopposite_move : PySem.W.nsIn K mainGlobals "_opposite_move" = some (some (.ref fopposite_move)))
  (lopposite_move : K.lookup fopposite_move = some ⟨ocopposite_move, odopposite_move, .func (PySem.W.fnOf "_opposite_move" "_opposite_move" (defArgs s_opposite_move) (defBody s_opposite_move) (defScope s_opposite_move) .none kVopposite_move dcopposite_move pmopposite_move anopposite_move cdopposite_move ctopposite_move), slopposite_move⟩)
  (copposite_move : PySem.W.codeIn K cdopposite_move "_opposite_move" = true)
  (kopposite_move : PySem.W.keepIn K (.ref fopposite_move) = true)
  (alaw_standing : PySem.W.nsIn K mainGlobals "_law_standing" = some (some (.ref flaw_standing)))
  (llaw_standing : K.lookup flaw_standing = some ⟨oclaw_standing, odlaw_standing, .func (PySem.W.fnOf "_law_standing" "_law_standing" (defArgs s_law_standing) (defBody s_law_standing) (defScope s_law_standing) .none kVlaw_standing dclaw_standing pmlaw_standing anlaw_standing cdlaw_standing ctlaw_standing), sllaw_standing⟩)
  (claw_standing : PySem.W.codeIn K cdlaw_standing "_law_standing" = true)
  (klaw_standing : PySem.W.keepIn K (.ref flaw_standing) = true)
  (alaw_pair_tracks : PySem.W.nsIn K mainGlobals "_law_pair_tracks" = some (some (.ref flaw_pair_tracks)))
  (llaw_pair_tracks : K.lookup flaw_pair_tracks = some ⟨oclaw_pair_tracks, odlaw_pair_tracks, .func (PySem.W.fnOf "_law_pair_tracks" "_law_pair_tracks" (defArgs s_law_pair_tracks) (defBody s_law_pair_tracks) (defScope s_law_pair_tracks) .none kVlaw_pair_tracks dclaw_pair_tracks pmlaw_pair_tracks anlaw_pair_tracks cdlaw_pair_tracks ctlaw_pair_tracks), sllaw_pair_tracks⟩)
  (claw_pair_tracks : PySem.W.codeIn K cdlaw_pair_tracks "_law_pair_tracks" = true)
  (klaw_pair_tracks : PySem.W.keepIn K (.ref flaw_pair_tracks) = true)
  (alaw_said : PySem.W.nsIn K mainGlobals "_law_said" = some (some (.ref flaw_said)))
  (llaw_said : K.lookup flaw_said = some ⟨oclaw_said, odlaw_said, .func (PySem.W.fnOf "_law_said" "_law_said" (defArgs s_law_said) (defBody s_law_said) (defScope s_law_said) .none kVlaw_said dclaw_said pmlaw_said anlaw_said cdlaw_said ctlaw_said), sllaw_said⟩)
  (claw_said : PySem.W.codeIn K cdlaw_said "_law_said" = true)
  (klaw_said : PySem.W.keepIn K (.ref flaw_said) = true)
  (alaw_no_standing : PySem.W.nsIn K mainGlobals "_law_no_standing" = some (some (.ref flaw_no_standing)))
  (llaw_no_standing : K.lookup flaw_no_standing = some ⟨oclaw_no_standing, odlaw_no_standing, .func (PySem.W.fnOf "_law_no_standing" "_law_no_standing" (defArgs s_law_no_standing) (defBody s_law_no_standing) (defScope s_law_no_standing) .none kVlaw_no_standing dclaw_no_standing pmlaw_no_standing anlaw_no_standing cdlaw_no_standing ctlaw_no_standing), sllaw_no_standing⟩)
  (claw_no_standing : PySem.W.codeIn K cdlaw_no_standing "_law_no_standing" = true)
  (klaw_no_standing : PySem.W.keepIn K (.ref flaw_no_standing) = true)
  (alaw_no_length : PySem.W.nsIn K mainGlobals "_law_no_length" = some (some (.ref flaw_no_length)))
  (llaw_no_length : K.lookup flaw_no_length = some ⟨oclaw_no_length, odlaw_no_length, .func (PySem.W.fnOf "_law_no_length" "_law_no_length" (defArgs s_law_no_length) (defBody s_law_no_length) (defScope s_law_no_length) .none kVlaw_no_length dclaw_no_length pmlaw_no_length anlaw_no_length cdlaw_no_length ctlaw_no_length), sllaw_no_length⟩)
  (claw_no_length : PySem.W.codeIn K cdlaw_no_length "_law_no_length" = true)
  (klaw_no_length : PySem.W.keepIn K (.ref flaw_no_length) = true)
  (alaw_no_move : PySem.W.nsIn K mainGlobals "_law_no_move" = some (some (.ref flaw_no_move)))
  (llaw_no_move : K.lookup flaw_no_move = some ⟨oclaw_no_move, odlaw_no_move, .func (PySem.W.fnOf "_law_no_move" "_law_no_move" (defArgs s_law_no_move) (defBody s_law_no_move) (defScope s_law_no_move) .none kVlaw_no_move dclaw_no_move pmlaw_no_move anlaw_no_move cdlaw_no_move ctlaw_no_move), sllaw_no_move⟩)
  (claw_no_move : PySem.W.codeIn K cdlaw_no_move "_law_no_move" = true)
  (klaw_no_move : PySem.W.keepIn K (.ref flaw_no_move) = true)
  (alaw_standings_right : PySem.W.nsIn K mainGlobals "_law_standings_right" = some (some (.ref flaw_standings_right)))
  (llaw_standings_right : K.lookup flaw_standings_right = some ⟨oclaw_standings_right, odlaw_standings_right, .func (PySem.W.fnOf "_law_standings_right" "_law_standings_right" (defArgs s_law_standings_right) (defBody s_law_standings_right) (defScope s_law_standings_right) .none kVlaw_standings_right dclaw_standings_right pmlaw_standings_right anlaw_standings_right (.ref qqlaw_standings_right) ctlaw_standings_right), sllaw_standings_right⟩)
  (claw_standings_right : PySem.W.codeIn K (.ref qqlaw_standings_right) "_law_standings_right" = true)
  (klaw_standings_right : PySem.W.keepIn K (.ref flaw_standings_right) = true)
  (olaw_standings_right : K.lookup qqlaw_standings_right = some ⟨cclaw_standings_right, codlaw_standings_right, .fields cvslaw_standings_right, csllaw_standings_right⟩)
  (plaw_standings_right : cvslaw_standings_right[11]? = some (.ref PPlaw_standings_right))
  (hlaw_standings_right : PySem.W.codeHdIn K qqlaw_standings_right PPlaw_standings_right = true)
  (nlaw_standings_right : K.lookup PPlaw_standings_right = none)
  (tlaw_standings_right : h.get? PPlaw_standings_right = some { cls := .none, data := .fields #[] })
  (alaw_lengths_right : PySem.W.nsIn K mainGlobals "_law_lengths_right" = some (some (.ref flaw_lengths_right)))
  (llaw_lengths_right : K.lookup flaw_lengths_right = some ⟨oclaw_lengths_right, odlaw_lengths_right, .func (PySem.W.fnOf "_law_lengths_right" "_law_lengths_right" (defArgs s_law_lengths_right) (defBody s_law_lengths_right) (defScope s_law_lengths_right) .none kVlaw_lengths_right dclaw_lengths_right pmlaw_lengths_right anlaw_lengths_right (.ref qqlaw_lengths_right) ctlaw_lengths_right), sllaw_lengths_right⟩)
  (claw_lengths_right : PySem.W.codeIn K (.ref qqlaw_lengths_right) "_law_lengths_right" = true)
  (klaw_lengths_right : PySem.W.keepIn K (.ref flaw_lengths_right) = true)
  (olaw_lengths_right : K.lookup qqlaw_lengths_right = some ⟨cclaw_lengths_right, codlaw_lengths_right, .fields cvslaw_lengths_right, csllaw_lengths_right⟩)
  (plaw_lengths_right : cvslaw_lengths_right[11]? = some (.ref PPlaw_lengths_right))
  (hlaw_lengths_right : PySem.W.codeHdIn K qqlaw_lengths_right PPlaw_lengths_right = true)
  (nlaw_lengths_right : K.lookup PPlaw_lengths_right = none)
  (tlaw_lengths_right : h.get? PPlaw_lengths_right = some { cls := .none, data := .fields #[] })
  (alaw_moves_right : PySem.W.nsIn K mainGlobals "_law_moves_right" = some (some (.ref flaw_moves_right)))
  (llaw_moves_right : K.lookup flaw_moves_right = some ⟨oclaw_moves_right, odlaw_moves_right, .func (PySem.W.fnOf "_law_moves_right" "_law_moves_right" (defArgs s_law_moves_right) (defBody s_law_moves_right) (defScope s_law_moves_right) .none kVlaw_moves_right dclaw_moves_right pmlaw_moves_right anlaw_moves_right (.ref qqlaw_moves_right) ctlaw_moves_right), sllaw_moves_right⟩)
  (claw_moves_right : PySem.W.codeIn K (.ref qqlaw_moves_right) "_law_moves_right" = true)
  (klaw_moves_right : PySem.W.keepIn K (.ref flaw_moves_right) = true)
  (olaw_moves_right : K.lookup qqlaw_moves_right = some ⟨cclaw_moves_right, codlaw_moves_right, .fields cvslaw_moves_right, csllaw_moves_right⟩)
  (plaw_moves_right : cvslaw_moves_right[11]? = some (.ref PPlaw_moves_right))
  (hlaw_moves_right : PySem.W.codeHdIn K qqlaw_moves_right PPlaw_moves_right = true)
  (nlaw_moves_right : K.lookup PPlaw_moves_right = none)
  (tlaw_moves_right : h.get? PPlaw_moves_right = some { cls := .none, data := .fields #[] })
  (alaw_blocked_right : PySem.W.nsIn K mainGlobals "_law_blocked_right" = some (some (.ref flaw_blocked_right)))
  (llaw_blocked_right : K.lookup flaw_blocked_right = some ⟨oclaw_blocked_right, odlaw_blocked_right, .func (PySem.W.fnOf "_law_blocked_right" "_law_blocked_right" (defArgs s_law_blocked_right) (defBody s_law_blocked_right) (defScope s_law_blocked_right) .none kVlaw_blocked_right dclaw_blocked_right pmlaw_blocked_right anlaw_blocked_right (.ref qqlaw_blocked_right) ctlaw_blocked_right), sllaw_blocked_right⟩)
  (claw_blocked_right : PySem.W.codeIn K (.ref qqlaw_blocked_right) "_law_blocked_right" = true)
  (klaw_blocked_right : PySem.W.keepIn K (.ref flaw_blocked_right) = true)
  (olaw_blocked_right : K.lookup qqlaw_blocked_right = some ⟨cclaw_blocked_right, codlaw_blocked_right, .fields cvslaw_blocked_right, csllaw_blocked_right⟩)
  (plaw_blocked_right : cvslaw_blocked_right[11]? = some (.ref PPlaw_blocked_right))
  (hlaw_blocked_right : PySem.W.codeHdIn K qqlaw_blocked_right PPlaw_blocked_right = true)
  (nlaw_blocked_right : K.lookup PPlaw_blocked_right = none)
  (tlaw_blocked_right : h.get? PPlaw_blocked_right = some { cls := .none, data := .fields #[] })
  (alaw : PySem.W.nsIn K mainGlobals "law" = some (some (.ref flaw)))
  (llaw : K.lookup flaw = some ⟨oclaw, odlaw, .func (PySem.W.fnOf "law" "law" (defArgs s_law) (defBody s_law) (defScope s_law) .none kVlaw dclaw pmlaw anlaw cdlaw ctlaw), sllaw⟩)
  (claw : PySem.W.codeIn K cdlaw "law" = true)
  (klaw : PySem.W.keepIn K (.ref flaw) = true)
  (nelaw_standings_rightlaw_lengths_right : PPlaw_standings_right ≠ PPlaw_lengths_right)
  (nelaw_standings_rightlaw_moves_right : PPlaw_standings_right ≠ PPlaw_moves_right)
  (nelaw_standings_rightlaw_blocked_right : PPlaw_standings_right ≠ PPlaw_blocked_right)
  (nelaw_lengths_rightlaw_moves_right : PPlaw_lengths_right ≠ PPlaw_moves_right)
  (nelaw_lengths_rightlaw_blocked_right : PPlaw_lengths_right ≠ PPlaw_blocked_right)
  (nelaw_moves_rightlaw_blocked_right : PPlaw_moves_right ≠ PPlaw_blocked_right)
  (aC : PySem.W.nsIn K mainGlobals "Railway" = some (some (.ref C)))
  (cR : PySem.W.readsIn K C (.type "type") = true)
  (cG : PySem.W.specialIn K (.ref C) "__getattribute__" = some (some (.builtin "type.__getattribute__")))
  (cM : PySem.W.findCls K (.ref C) (.type "type") "MOST_STATIONS" = some (.val (.int 100 tM)))
  (pg : PySem.W.plainGet K C Str.empty = true)
  (hd : PySem.W.hasDictIn K C = true)
  (po : PySem.W.plainOver K C = true)
  (sa : PySem.W.findIn K (.ref C) "__setattr__" = some (some (.builtin "object.__setattr__")))
  (mk : PySem.W.makesIn K C = true)
  (kc : PySem.W.keepIn K (.ref C) = true)
  (n0 : PySem.W.findIn K (.ref C) "_tracks" = some none)
  (n1 : PySem.W.findIn K (.ref C) "_neighbours" = some none)
  (n2 : PySem.W.findIn K (.ref C) "_above" = some none)
  (n3 : PySem.W.findIn K (.ref C) "_levels" = some none)
  (kca : PySem.W.findIn K (.ref C) "__class__" = some (some (.builtin "object.__class__")))
  (kob : PySem.W.mroIn K C (.type "object") = some true)
  (sg : PySem.W.specialIn K (.builtin "object.__class__") "__get__" = some (some (.builtin "getset_descriptor.__get__")))
  (st : PySem.W.takesIn K (.builtin "object.__class__") = some true)
  (aMinit : PySem.W.findIn K (.ref C) "__init__" = some (some (.ref fMinit)))
  (iMinit : PySem.W.isFn K (.ref fMinit) = true)
  (lMinit : K.lookup fMinit = some ⟨ocMinit, odMinit, .func (PySem.W.fnOf "__init__" "Railway.__init__" (defArgs s_Railway_init) (defBody s_Railway_init) (defScope s_Railway_init) .none kVMinit dcMinit pmMinit anMinit cdMinit ctMinit), slMinit⟩)
  (cMinit : PySem.W.codeIn K cdMinit "Railway.__init__" = true)
  (kMinit : PySem.W.keepIn K (.ref fMinit) = true)
  (aMpath : PySem.W.findIn K (.ref C) "path" = some (some (.ref fMpath)))
  (iMpath : PySem.W.isFn K (.ref fMpath) = true)
  (lMpath : K.lookup fMpath = some ⟨ocMpath, odMpath, .func (PySem.W.fnOf "path" "Railway.path" (defArgs s_Railway_path) (defBody s_Railway_path) (defScope s_Railway_path) .none kVMpath dcMpath pmMpath anMpath cdMpath ctMpath), slMpath⟩)
  (cMpath : PySem.W.codeIn K cdMpath "Railway.path" = true)
  (kMpath : PySem.W.keepIn K (.ref fMpath) = true)
  (aMsize : PySem.W.findIn K (.ref C) "size" = some (some (.ref pMsize)))
  (gMsize : PySem.W.specialIn K (.ref pMsize) "__get__" = some (some (.builtin "property.__get__")))
  (tMsize : PySem.W.takesIn K (.ref pMsize) = some true)
  (rMsizeh : PySem.W.recIn K pMsize "property" = some (.ref fMsize :: rMsize))
  (lMsize : K.lookup fMsize = some ⟨ocMsize, odMsize, .func (PySem.W.fnOf "size" "Railway.size" (defArgs s_Railway_size) (defBody s_Railway_size) (defScope s_Railway_size) .none kVMsize dcMsize pmMsize anMsize cdMsize ctMsize), slMsize⟩)
  (cMsize : PySem.W.codeIn K cdMsize "Railway.size" = true)
  (kMsize : PySem.W.keepIn K (.ref fMsize) = true)
  (aMof : PySem.W.findCls K (.ref C) (.type "type") "of" = some (.get (.builtin "classmethod.__get__") (.ref pMof) .none (.ref C)))
  (rMofh : PySem.W.recIn K pMof "classmethod" = some (.ref fMof :: rMof))
  (iMof : PySem.W.fnIn K fMof = true)
  (lMof : K.lookup fMof = some ⟨ocMof, odMof, .func (PySem.W.fnOf "of" "Railway.of" (defArgs s_Railway_of) (defBody s_Railway_of) (defScope s_Railway_of) .none kVMof dcMof pmMof anMof cdMof ctMof), slMof⟩)
  (cMof : PySem.W.codeIn K cdMof "Railway.of" = true)
  (kMof : PySem.W.keepIn K (.ref fMof) = true)
  (aMneighbours : PySem.W.findIn K (.ref C) "neighbours" = some (some (.ref fMneighbours)))
  (iMneighbours : PySem.W.isFn K (.ref fMneighbours) = true)
  (lMneighbours : K.lookup fMneighbours = some ⟨ocMneighbours, odMneighbours, .func (PySem.W.fnOf "neighbours" "Railway.neighbours" (defArgs s_Railway_neighbours) (defBody s_Railway_neighbours) (defScope s_Railway_neighbours) .none kVMneighbours dcMneighbours pmMneighbours anMneighbours cdMneighbours ctMneighbours), slMneighbours⟩)
  (cMneighbours : PySem.W.codeIn K cdMneighbours "Railway.neighbours" = true)
  (kMneighbours : PySem.W.keepIn K (.ref fMneighbours) = true)
  (z_RuntimeError : PySem.W.nsIn K mainGlobals "RuntimeError" = some none)
  (z_ValueError : PySem.W.nsIn K mainGlobals "ValueError" = some none)
  (z_LookupError : PySem.W.nsIn K mainGlobals "LookupError" = some none)
  (z_len : PySem.W.nsIn K mainGlobals "len" = some none)
  (z_isinstance : PySem.W.nsIn K mainGlobals "isinstance" = some none)
  (z_int : PySem.W.nsIn K mainGlobals "int" = some none)
  (z_bool : PySem.W.nsIn K mainGlobals "bool" = some none)
  (z_tuple : PySem.W.nsIn K mainGlobals "tuple" = some none)
  (z_list : PySem.W.nsIn K mainGlobals "list" = some none)
  (z_sorted : PySem.W.nsIn K mainGlobals "sorted" = some none)
  (z_min : PySem.W.nsIn K mainGlobals "min" = some none)
  (z_max : PySem.W.nsIn K mainGlobals "max" = some none)
  (z_range : PySem.W.nsIn K mainGlobals "range" = some none)
  (z_enumerate : PySem.W.nsIn K mainGlobals "enumerate" = some none)
  (z_repr : PySem.W.nsIn K mainGlobals "repr" = some none)
  (z_set : PySem.W.nsIn K mainGlobals "set" = some none)
  (z_all : PySem.W.nsIn K mainGlobals "all" = some none)
  (z_any : PySem.W.nsIn K mainGlobals "any" = some none)
  (z_zip : PySem.W.nsIn K mainGlobals "zip" = some none)
  (z_str : PySem.W.nsIn K mainGlobals "str" = some none)
  (xCR : PySem.W.nsIn K mainGlobals "RailError" = some (some (.ref CR)))
  (xCU : PySem.W.nsIn K mainGlobals "RunError" = some (some (.ref CU)))
  (xCM : PySem.W.nsIn K mainGlobals "MissingError" = some (some (.ref CM)))
  (xaInvalidStanding : PySem.W.nsIn K mainGlobals "InvalidStanding" = some (some (.ref CInvalidStanding)))
  (xiInvalidStanding : PySem.W.findIn K (.ref CInvalidStanding) "__init__" = some (some (.ref gInvalidStanding)))
  (xlInvalidStanding : K.lookup gInvalidStanding = some ⟨ocxInvalidStanding, odxInvalidStanding, .func (PySem.W.fnOf "__init__" "InvalidStanding.__init__" (defArgs s_InvalidStanding_init) (defBody s_InvalidStanding_init) (defScope s_InvalidStanding_init) .none kVxInvalidStanding dcxInvalidStanding pmxInvalidStanding anxInvalidStanding cdxInvalidStanding ctxInvalidStanding), slxInvalidStanding⟩)
  (xcInvalidStanding : PySem.W.codeIn K cdxInvalidStanding "InvalidStanding.__init__" = true)
  (xkInvalidStanding : PySem.W.keepIn K (.ref gInvalidStanding) = true)
  (xzInvalidStanding : ClsK K CInvalidStanding gInvalidStanding bmV "ValueError.__new__" "value")
  (xeInvalidStanding : PySem.W.exmAny K (.ref CInvalidStanding) [.ref CR, .ref CU, .ref CM] = some true)
  (xaInvalidLength : PySem.W.nsIn K mainGlobals "InvalidLength" = some (some (.ref CInvalidLength)))
  (xiInvalidLength : PySem.W.findIn K (.ref CInvalidLength) "__init__" = some (some (.ref gInvalidLength)))
  (xlInvalidLength : K.lookup gInvalidLength = some ⟨ocxInvalidLength, odxInvalidLength, .func (PySem.W.fnOf "__init__" "InvalidLength.__init__" (defArgs s_InvalidLength_init) (defBody s_InvalidLength_init) (defScope s_InvalidLength_init) .none kVxInvalidLength dcxInvalidLength pmxInvalidLength anxInvalidLength cdxInvalidLength ctxInvalidLength), slxInvalidLength⟩)
  (xcInvalidLength : PySem.W.codeIn K cdxInvalidLength "InvalidLength.__init__" = true)
  (xkInvalidLength : PySem.W.keepIn K (.ref gInvalidLength) = true)
  (xzInvalidLength : ClsK K CInvalidLength gInvalidLength bmV "ValueError.__new__" "value")
  (xeInvalidLength : PySem.W.exmAny K (.ref CInvalidLength) [.ref CR, .ref CU, .ref CM] = some true)
  (xaInvalidMove : PySem.W.nsIn K mainGlobals "InvalidMove" = some (some (.ref CInvalidMove)))
  (xiInvalidMove : PySem.W.findIn K (.ref CInvalidMove) "__init__" = some (some (.ref gInvalidMove)))
  (xlInvalidMove : K.lookup gInvalidMove = some ⟨ocxInvalidMove, odxInvalidMove, .func (PySem.W.fnOf "__init__" "InvalidMove.__init__" (defArgs s_InvalidMove_init) (defBody s_InvalidMove_init) (defScope s_InvalidMove_init) (.ref TxInvalidMove) kVxInvalidMove dcxInvalidMove pmxInvalidMove anxInvalidMove cdxInvalidMove ctxInvalidMove), slxInvalidMove⟩)
  (xtInvalidMove : K.lookup TxInvalidMove = some ⟨tcxInvalidMove, tdxInvalidMove, .seq #[.none] tnxInvalidMove, tlxInvalidMove⟩)
  (xcInvalidMove : PySem.W.codeIn K cdxInvalidMove "InvalidMove.__init__" = true)
  (xkInvalidMove : PySem.W.keepIn K (.ref gInvalidMove) = true)
  (xzInvalidMove : ClsK K CInvalidMove gInvalidMove bmV "ValueError.__new__" "position")
  (xeInvalidMove : PySem.W.exmAny K (.ref CInvalidMove) [.ref CR, .ref CU, .ref CM] = some true)
  (xaBlocked : PySem.W.nsIn K mainGlobals "Blocked" = some (some (.ref CBlocked)))
  (xiBlocked : PySem.W.findIn K (.ref CBlocked) "__init__" = some (some (.ref gBlocked)))
  (xlBlocked : K.lookup gBlocked = some ⟨ocxBlocked, odxBlocked, .func (PySem.W.fnOf "__init__" "Blocked.__init__" (defArgs s_Blocked_init) (defBody s_Blocked_init) (defScope s_Blocked_init) .none kVxBlocked dcxBlocked pmxBlocked anxBlocked cdxBlocked ctxBlocked), slxBlocked⟩)
  (xcBlocked : PySem.W.codeIn K cdxBlocked "Blocked.__init__" = true)
  (xkBlocked : PySem.W.keepIn K (.ref gBlocked) = true)
  (xzBlocked : ClsK K CBlocked gBlocked bmR "RuntimeError.__new__" "position")
  (xeBlocked : PySem.W.exmAny K (.ref CBlocked) [.ref CR, .ref CU, .ref CM] = some true)
  (aENDS : PySem.W.nsIn K mainGlobals "ENDS" = some (some (.ref aEN)))
  (lENDS : K.lookup aEN = some ⟨.type "tuple", odE, .seq #[.str "head" tE1, .str "tail" tE2] nE, slE⟩)
  (xCIP : PySem.W.nsIn K mainGlobals "InvalidPair" = some (some (.ref CIP)))
  (xCIS : PySem.W.nsIn K mainGlobals "InvalidStation" = some (some (.ref CIS)))
  (y0InvalidStanding : PySem.W.kitOne K (.ref CInvalidStanding) (.ref CInvalidStanding) = some (decide (0 = 0)))
  (y1InvalidStanding : PySem.W.kitOne K (.ref CInvalidStanding) (.ref CInvalidLength) = some (decide (0 = 1)))
  (y2InvalidStanding : PySem.W.kitOne K (.ref CInvalidStanding) (.ref CInvalidMove) = some (decide (0 = 2)))
  (y3InvalidStanding : PySem.W.kitOne K (.ref CInvalidStanding) (.ref CBlocked) = some (decide (0 = 3)))
  (ytInvalidStanding : PySem.W.kitAny K (.ref CInvalidStanding) [.ref CIP, .ref CIS] = some false)
  (yVInvalidStanding : PySem.W.kitOne K (.ref CInvalidStanding) (.type "ValueError") = some (decide (0 ≤ 2)))
  (yRInvalidStanding : PySem.W.kitOne K (.ref CInvalidStanding) (.type "RuntimeError") = some (decide (0 = 3)))
  (yLInvalidStanding : PySem.W.kitOne K (.ref CInvalidStanding) (.type "LookupError") = some false)
  (y0InvalidLength : PySem.W.kitOne K (.ref CInvalidLength) (.ref CInvalidStanding) = some (decide (1 = 0)))
  (y1InvalidLength : PySem.W.kitOne K (.ref CInvalidLength) (.ref CInvalidLength) = some (decide (1 = 1)))
  (y2InvalidLength : PySem.W.kitOne K (.ref CInvalidLength) (.ref CInvalidMove) = some (decide (1 = 2)))
  (y3InvalidLength : PySem.W.kitOne K (.ref CInvalidLength) (.ref CBlocked) = some (decide (1 = 3)))
  (ytInvalidLength : PySem.W.kitAny K (.ref CInvalidLength) [.ref CIP, .ref CIS] = some false)
  (yVInvalidLength : PySem.W.kitOne K (.ref CInvalidLength) (.type "ValueError") = some (decide (1 ≤ 2)))
  (yRInvalidLength : PySem.W.kitOne K (.ref CInvalidLength) (.type "RuntimeError") = some (decide (1 = 3)))
  (yLInvalidLength : PySem.W.kitOne K (.ref CInvalidLength) (.type "LookupError") = some false)
  (y0InvalidMove : PySem.W.kitOne K (.ref CInvalidMove) (.ref CInvalidStanding) = some (decide (2 = 0)))
  (y1InvalidMove : PySem.W.kitOne K (.ref CInvalidMove) (.ref CInvalidLength) = some (decide (2 = 1)))
  (y2InvalidMove : PySem.W.kitOne K (.ref CInvalidMove) (.ref CInvalidMove) = some (decide (2 = 2)))
  (y3InvalidMove : PySem.W.kitOne K (.ref CInvalidMove) (.ref CBlocked) = some (decide (2 = 3)))
  (ytInvalidMove : PySem.W.kitAny K (.ref CInvalidMove) [.ref CIP, .ref CIS] = some false)
  (yVInvalidMove : PySem.W.kitOne K (.ref CInvalidMove) (.type "ValueError") = some (decide (2 ≤ 2)))
  (yRInvalidMove : PySem.W.kitOne K (.ref CInvalidMove) (.type "RuntimeError") = some (decide (2 = 3)))
  (yLInvalidMove : PySem.W.kitOne K (.ref CInvalidMove) (.type "LookupError") = some false)
  (y0Blocked : PySem.W.kitOne K (.ref CBlocked) (.ref CInvalidStanding) = some (decide (3 = 0)))
  (y1Blocked : PySem.W.kitOne K (.ref CBlocked) (.ref CInvalidLength) = some (decide (3 = 1)))
  (y2Blocked : PySem.W.kitOne K (.ref CBlocked) (.ref CInvalidMove) = some (decide (3 = 2)))
  (y3Blocked : PySem.W.kitOne K (.ref CBlocked) (.ref CBlocked) = some (decide (3 = 3)))
  (ytBlocked : PySem.W.kitAny K (.ref CBlocked) [.ref CIP, .ref CIS] = some false)
  (yVBlocked : PySem.W.kitOne K (.ref CBlocked) (.type "ValueError") = some (decide (3 ≤ 2)))
  (yRBlocked : PySem.W.kitOne K (.ref CBlocked) (.type "RuntimeError") = some (decide (3 = 3)))
  (yLBlocked : PySem.W.kitOne K (.ref CBlocked) (.type "LookupError") = some false)
  (ysInvalidStanding : PySem.W.subIn K (.ref CInvalidStanding) (.type "StopIteration") = some false)
  (ysInvalidLength : PySem.W.subIn K (.ref CInvalidLength) (.type "StopIteration") = some false) :
  ∃ (fd : FuncData) (cs : List (Addr × Addr)) (sp : Sp), (∀ p ∈ cs, h.get? p.2 = some { cls := .none, data := .fields #[] }) ∧ (∀ p ∈ cs, K.lookup p.2 = none) ∧ (∀ p ∈ cs, PySem.W.CodeHd h p.1 p.2) ∧ (∀ (s : Shared) (u : Value), BindsTo s fd ⟨[u], []⟩ [("script", u)]) ∧
    (∀ (H : Hp) (a : Addr) (ns : List Int), ns.length ≤ 63 → (∀ p ∈ cs, H p.2 = some (.tbl #[])) → SqL K H a (ns.map V.int) → sp [.ref a] H (fun v _ => v = .bl true) fun _ _ _ => False) ∧
    ∀ base : Heap, K.In base → base.Ns mainGlobals mg → (∀ p ∈ cs, TabB base mg p.1 p.2) → FnG P w K mg base CX0 16 fa fd ["script"] sp := by
  have e := hfa.symm.trans (PySem.W.mg_of X G alaw)
  cases e
  have N : Nm mg := ⟨PySem.W.mg_none_of X G z_len, PySem.W.mg_none_of X G z_isinstance, PySem.W.mg_none_of X G z_int, PySem.W.mg_none_of X G z_bool, PySem.W.mg_none_of X G z_tuple, PySem.W.mg_none_of X G z_list, PySem.W.mg_none_of X G z_sorted, PySem.W.mg_none_of X G z_min, PySem.W.mg_none_of X G z_max, PySem.W.mg_none_of X G z_range, PySem.W.mg_none_of X G z_enumerate, PySem.W.mg_none_of X G z_repr, PySem.W.mg_none_of X G z_set, PySem.W.mg_none_of X G z_all, PySem.W.mg_none_of X G z_any, PySem.W.mg_none_of X G z_zip, PySem.W.mg_none_of X G z_str⟩
  have Fis_integer := fun_mk (st := s_is_integer) lis_integer cis_integer kis_integer
  have bis_integer := Fis_integer.binds (ps := ["value"]) fun _ _ _ _ _ _ us hl => by obtain ⟨_, rfl⟩ := lenV1 hl; exact rfl
  have Fis_number_from := fun_mk (st := s_is_number_from) lis_number_from cis_number_from kis_number_from
  have bis_number_from := Fis_number_from.binds (ps := ["value", "least", "greatest"]) fun _ _ _ _ _ _ us hl => by obtain ⟨_, _, _, rfl⟩ := lenV3 hl; exact rfl
  have Fis_pair_of_stations := fun_mk (st := s_is_pair_of_stations) lis_pair_of_stations cis_pair_of_stations kis_pair_of_stations
  have bis_pair_of_stations := Fis_pair_of_stations.binds (ps := ["value", "size"]) fun _ _ _ _ _ _ us hl => by obtain ⟨_, _, rfl⟩ := lenV2 hl; exact rfl
  have Fis_station := fun_mk (st := s_is_station) lis_station cis_station kis_station
  have bis_station := Fis_station.binds (ps := ["railway", "value"]) fun _ _ _ _ _ _ us hl => by obtain ⟨_, _, rfl⟩ := lenV2 hl; exact rfl
  have Fcheck_station := fun_mk (st := s_check_station) lcheck_station ccheck_station kcheck_station
  have bcheck_station := Fcheck_station.binds (ps := ["railway", "station"]) fun _ _ _ _ _ _ us hl => by obtain ⟨_, _, rfl⟩ := lenV2 hl; exact rfl
  have Fjoined := fun_mk (st := s_joined) ljoined cjoined kjoined
  have bjoined := Fjoined.binds (ps := ["groups", "one", "other"]) fun _ _ _ _ _ _ us hl => by obtain ⟨_, _, _, rfl⟩ := lenV3 hl; exact rfl
  have Ffirst_wrong_track := fun_mk (st := s_first_wrong_track) lfirst_wrong_track cfirst_wrong_track kfirst_wrong_track
  have bfirst_wrong_track := Ffirst_wrong_track.binds (ps := ["tracks"]) fun _ _ _ _ _ _ us hl => by obtain ⟨_, rfl⟩ := lenV1 hl; exact rfl
  have Fneighbours_of := fun_mk (st := s_neighbours_of) lneighbours_of cneighbours_of kneighbours_of
  have bneighbours_of := Fneighbours_of.binds (ps := ["tracks"]) fun _ _ _ _ _ _ us hl => by obtain ⟨_, rfl⟩ := lenV1 hl; exact rfl
  have Fplaces_below_first := fun_mk (st := s_places_below_first) lplaces_below_first cplaces_below_first kplaces_below_first
  have bplaces_below_first := Fplaces_below_first.binds (ps := ["neighbours"]) fun _ _ _ _ _ _ us hl => by obtain ⟨_, rfl⟩ := lenV1 hl; exact rfl
  have Flaw_begin := fun_mk (st := s_law_begin) llaw_begin claw_begin klaw_begin
  have blaw_begin := Flaw_begin.binds (ps := ["script"]) fun _ _ _ _ _ _ us hl => by obtain ⟨_, rfl⟩ := lenV1 hl; exact rfl
  have Flaw_mixed := fun_mk (st := s_law_mixed) llaw_mixed claw_mixed klaw_mixed
  have blaw_mixed := Flaw_mixed.binds (ps := ["cell", "k"]) fun _ _ _ _ _ _ us hl => by obtain ⟨_, _, rfl⟩ := lenV2 hl; exact rfl
  have Flaw_next := fun_mk (st := s_law_next) llaw_next claw_next klaw_next
  have blaw_next := Flaw_next.binds (ps := ["draw", "bound"]) fun _ _ _ _ _ _ us hl => by obtain ⟨_, _, rfl⟩ := lenV2 hl; exact rfl
  have Flaw_tracks := fun_mk (st := s_law_tracks) llaw_tracks claw_tracks klaw_tracks
  have blaw_tracks := Flaw_tracks.binds (ps := ["draw", "most"]) fun _ _ _ _ _ _ us hl => by obtain ⟨_, _, rfl⟩ := lenV2 hl; exact rfl
  have Fcheck_length := fun_mk (st := s_check_length) lcheck_length ccheck_length kcheck_length
  have bcheck_length := Fcheck_length.binds (ps := ["length"]) fun _ _ _ _ _ _ us hl => by obtain ⟨_, rfl⟩ := lenV1 hl; exact rfl
  have Fis_standing := fun_mk (st := s_is_standing) lis_standing cis_standing kis_standing
  have bis_standing := Fis_standing.binds (ps := ["railway", "value"]) fun _ _ _ _ _ _ us hl => by obtain ⟨_, _, rfl⟩ := lenV2 hl; exact rfl
  have Fcheck_standing := fun_mk (st := s_check_standing) lcheck_standing ccheck_standing kcheck_standing
  have bcheck_standing := Fcheck_standing.binds (ps := ["railway", "standing"]) fun _ _ _ _ _ _ us hl => by obtain ⟨_, _, rfl⟩ := lenV2 hl; exact rfl
  have Fis_move := fun_mk (st := s_is_move) lis_move cis_move kis_move
  have bis_move := Fis_move.binds (ps := ["railway", "value"]) fun _ _ _ _ _ _ us hl => by obtain ⟨_, _, rfl⟩ := lenV2 hl; exact rfl
  have Fcheck_moves := fun_mk (st := s_check_moves) lcheck_moves ccheck_moves kcheck_moves
  have bcheck_moves := Fcheck_moves.binds (ps := ["railway", "moves"]) fun _ _ _ _ _ _ us hl => by obtain ⟨_, _, rfl⟩ := lenV2 hl; exact rfl
  have Fbody_of := fun_mk (st := s_body_of) lbody_of cbody_of kbody_of
  have bbody_of := Fbody_of.binds (ps := ["railway", "standing"]) fun _ _ _ _ _ _ us hl => by obtain ⟨_, _, rfl⟩ := lenV2 hl; exact rfl
  have Flength_of := fun_mk (st := s_length_of) llength_of clength_of klength_of
  have blength_of := Flength_of.binds (ps := ["railway", "standing"]) fun _ _ _ _ _ _ us hl => by obtain ⟨_, _, rfl⟩ := lenV2 hl; exact rfl
  have Fturned := fun_mk (st := s_turned) lturned cturned kturned
  have bturned := Fturned.binds (ps := ["railway", "standing"]) fun _ _ _ _ _ _ us hl => by obtain ⟨_, _, rfl⟩ := lenV2 hl; exact rfl
  have Fstandings := fun_mk (st := s_standings) lstandings cstandings kstandings
  have bstandings := Fstandings.binds (ps := ["railway", "length"]) fun _ _ _ _ _ _ us hl => by obtain ⟨_, _, rfl⟩ := lenV2 hl; exact rfl
  have Fbody_for_part := fun_mk (st := s_body_for_part) lbody_for_part cbody_for_part kbody_for_part
  have bbody_for_part := Fbody_for_part.binds (ps := ["railway", "standing", "length"]) fun _ _ _ _ _ _ us hl => by obtain ⟨_, _, _, rfl⟩ := lenV3 hl; exact rfl
  have Ffront_part := fun_mk (st := s_front_part) lfront_part cfront_part kfront_part
  have bfront_part := Ffront_part.binds (ps := ["railway", "standing", "length"]) fun _ _ _ _ _ _ us hl => by obtain ⟨_, _, _, rfl⟩ := lenV3 hl; exact rfl
  have Frear_part := fun_mk (st := s_rear_part) lrear_part crear_part krear_part
  have brear_part := Frear_part.binds (ps := ["railway", "standing", "length"]) fun _ _ _ _ _ _ us hl => by obtain ⟨_, _, _, rfl⟩ := lenV3 hl; exact rfl
  have Fpossible_moves := fun_mk (st := s_possible_moves) lpossible_moves cpossible_moves kpossible_moves
  have bpossible_moves := Fpossible_moves.binds (ps := ["railway", "standing"]) fun _ _ _ _ _ _ us hl => by obtain ⟨_, _, rfl⟩ := lenV2 hl; exact rfl
  have Fmoved := fun_mk (st := s_moved) lmoved cmoved kmoved
  have Fmoved_along := fun_mk (st := s_moved_along) lmoved_along cmoved_along kmoved_along
  have bmoved_along := Fmoved_along.binds (ps := ["railway", "standing", "moves"]) fun _ _ _ _ _ _ us hl => by obtain ⟨_, _, _, rfl⟩ := lenV3 hl; exact rfl
  have Fopposite_moves := fun_mk (st := s_opposite_moves) lopposite_moves copposite_moves kopposite_moves
  have bopposite_moves := Fopposite_moves.binds (ps := ["railway", "standing", "moves"]) fun _ _ _ _ _ _ us hl => by obtain ⟨_, _, _, rfl⟩ := lenV3 hl; exact rfl
  have Fbodies_along := fun_mk (st := s_bodies_along) lbodies_along cbodies_along kbodies_along
  have bbodies_along := Fbodies_along.binds (ps := ["railway", "standing", "moves"]) fun _ _ _ _ _ _ us hl => by obtain ⟨_, _, _, rfl⟩ := lenV3 hl; exact rfl
  have Fsteps_from := fun_mk (st := s_steps_from) lsteps_from csteps_from ksteps_from
  have bsteps_from := Fsteps_from.binds (ps := ["railway", "body"]) fun _ _ _ _ _ _ us hl => by obtain ⟨_, _, rfl⟩ := lenV2 hl; exact rfl
  have Fbody_after := fun_mk (st := s_body_after) lbody_after cbody_after kbody_after
  have bbody_after := Fbody_after.binds (ps := ["body", "end", "station"]) fun _ _ _ _ _ _ us hl => by obtain ⟨_, _, _, rfl⟩ := lenV3 hl; exact rfl
  have Fopposite_move := fun_mk (st := s_opposite_move) lopposite_move copposite_move kopposite_move
  have bopposite_move := Fopposite_move.binds (ps := ["body", "end"]) fun _ _ _ _ _ _ us hl => by obtain ⟨_, _, rfl⟩ := lenV2 hl; exact rfl
  have Flaw_standing := fun_mk (st := s_law_standing) llaw_standing claw_standing klaw_standing
  have blaw_standing := Flaw_standing.binds (ps := ["draw", "count"]) fun _ _ _ _ _ _ us hl => by obtain ⟨_, _, rfl⟩ := lenV2 hl; exact rfl
  have Flaw_pair_tracks := fun_mk (st := s_law_pair_tracks) llaw_pair_tracks claw_pair_tracks klaw_pair_tracks
  have blaw_pair_tracks := Flaw_pair_tracks.binds (ps := ["draw", "most"]) fun _ _ _ _ _ _ us hl => by obtain ⟨_, _, rfl⟩ := lenV2 hl; exact rfl
  have Flaw_said := fun_mk (st := s_law_said) llaw_said claw_said klaw_said
  have blaw_said := Flaw_said.binds (ps := ["call"]) fun _ _ _ _ _ _ us hl => by obtain ⟨_, rfl⟩ := lenV1 hl; exact rfl
  have Flaw_no_standing := fun_mk (st := s_law_no_standing) llaw_no_standing claw_no_standing klaw_no_standing
  have blaw_no_standing := Flaw_no_standing.binds (ps := ["draw", "count"]) fun _ _ _ _ _ _ us hl => by obtain ⟨_, _, rfl⟩ := lenV2 hl; exact rfl
  have Flaw_no_length := fun_mk (st := s_law_no_length) llaw_no_length claw_no_length klaw_no_length
  have blaw_no_length := Flaw_no_length.binds (ps := ["draw"]) fun _ _ _ _ _ _ us hl => by obtain ⟨_, rfl⟩ := lenV1 hl; exact rfl
  have Flaw_no_move := fun_mk (st := s_law_no_move) llaw_no_move claw_no_move klaw_no_move
  have blaw_no_move := Flaw_no_move.binds (ps := ["draw", "count"]) fun _ _ _ _ _ _ us hl => by obtain ⟨_, _, rfl⟩ := lenV2 hl; exact rfl
  have Flaw_standings_right := fun_mk (st := s_law_standings_right) llaw_standings_right claw_standings_right klaw_standings_right
  have FClaw_standings_right : FunC K "_law_standings_right" "_law_standings_right" s_law_standings_right flaw_standings_right _ qqlaw_standings_right := ⟨_, _, _, _, _, _, _, _, rfl, llaw_standings_right, claw_standings_right⟩
  have blaw_standings_right := Flaw_standings_right.binds (ps := ["road", "odd", "bad"]) fun _ _ _ _ _ _ us hl => by obtain ⟨_, _, _, rfl⟩ := lenV3 hl; exact rfl
  have Flaw_lengths_right := fun_mk (st := s_law_lengths_right) llaw_lengths_right claw_lengths_right klaw_lengths_right
  have FClaw_lengths_right : FunC K "_law_lengths_right" "_law_lengths_right" s_law_lengths_right flaw_lengths_right _ qqlaw_lengths_right := ⟨_, _, _, _, _, _, _, _, rfl, llaw_lengths_right, claw_lengths_right⟩
  have blaw_lengths_right := Flaw_lengths_right.binds (ps := ["road", "pose", "bad"]) fun _ _ _ _ _ _ us hl => by obtain ⟨_, _, _, rfl⟩ := lenV3 hl; exact rfl
  have Flaw_moves_right := fun_mk (st := s_law_moves_right) llaw_moves_right claw_moves_right klaw_moves_right
  have FClaw_moves_right : FunC K "_law_moves_right" "_law_moves_right" s_law_moves_right flaw_moves_right _ qqlaw_moves_right := ⟨_, _, _, _, _, _, _, _, rfl, llaw_moves_right, claw_moves_right⟩
  have blaw_moves_right := Flaw_moves_right.binds (ps := ["road", "pose", "odd", "far"]) fun _ _ _ _ _ _ us hl => by obtain ⟨_, _, _, _, rfl⟩ := lenV4 hl; exact rfl
  have Flaw_blocked_right := fun_mk (st := s_law_blocked_right) llaw_blocked_right claw_blocked_right klaw_blocked_right
  have FClaw_blocked_right : FunC K "_law_blocked_right" "_law_blocked_right" s_law_blocked_right flaw_blocked_right _ qqlaw_blocked_right := ⟨_, _, _, _, _, _, _, _, rfl, llaw_blocked_right, claw_blocked_right⟩
  have blaw_blocked_right := Flaw_blocked_right.binds (ps := ["road", "pose"]) fun _ _ _ _ _ _ us hl => by obtain ⟨_, _, rfl⟩ := lenV2 hl; exact rfl
  have Flaw := fun_mk (st := s_law) llaw claw klaw
  have blaw := Flaw.binds (ps := ["script"]) fun _ _ _ _ _ _ us hl => by obtain ⟨_, rfl⟩ := lenV1 hl; exact rfl
  have cl : Cls K C := ⟨pg, hd, po, sa⟩
  have cr : CRead K C (.type "type") := ⟨cR, cG⟩
  have TX : TxtR K mg C := ⟨cl, n0, n1, n2, n3, PySem.W.mg_of X G aC, .type "type", tM, cr, ⟨cM, ⟨tM, rfl⟩⟩⟩
  have JK : InsK K C := ⟨kca, sg, st, kob⟩
  have KC : KCls K := ⟨sg, st⟩
  have FMinit := fun_mk (st := s_Railway_init) lMinit cMinit kMinit
  have FMpath := fun_mk (st := s_Railway_path) lMpath cMpath kMpath
  have bMpath := FMpath.binds (ps := ["self", "one", "other"]) fun _ _ _ _ _ _ us hl => by obtain ⟨_, _, _, rfl⟩ := lenV3 hl; exact rfl
  have mMpath : Meth K C "path" fMpath := ⟨aMpath, iMpath, kMpath⟩
  have PMsize : PropOf K C "size" pMsize fMsize := ⟨aMsize, gMsize, tMsize, ⟨rMsize, rMsizeh⟩⟩
  have FMsize := fun_mk (st := s_Railway_size) lMsize cMsize kMsize
  have bMsize := FMsize.binds (ps := ["self"]) fun _ _ _ _ _ _ us hl => by obtain ⟨_, rfl⟩ := lenV1 hl; exact rfl
  have FMof := fun_mk (st := s_Railway_of) lMof cMof kMof
  have bMof := FMof.binds (ps := ["cls", "tracks"]) fun _ _ _ _ _ _ us hl => by obtain ⟨_, _, rfl⟩ := lenV2 hl; exact rfl
  have cmMof : CMet K C (.type "type") "of" pMof fMof := ⟨aMof, ⟨rMof, rMofh⟩, iMof⟩
  have FMneighbours := fun_mk (st := s_Railway_neighbours) lMneighbours cMneighbours kMneighbours
  have bMneighbours := FMneighbours.binds (ps := ["self", "station"]) fun _ _ _ _ _ _ us hl => by obtain ⟨_, _, rfl⟩ := lenV2 hl; exact rfl
  have mMneighbours : Meth K C "neighbours" fMneighbours := ⟨aMneighbours, iMneighbours, kMneighbours⟩
  have mCR : mg "RailError" = some (.ref CR) := PySem.W.mg_of X G xCR
  have mCU : mg "RunError" = some (.ref CU) := PySem.W.mg_of X G xCU
  have mCM : mg "MissingError" = some (.ref CM) := PySem.W.mg_of X G xCM
  have FxInvalidStanding := fun_mk (st := s_InvalidStanding_init) xlInvalidStanding xcInvalidStanding xkInvalidStanding
  have bxInvalidStanding := FxInvalidStanding.binds (ps := ["self", "value"]) fun _ _ _ _ _ _ us hl => by obtain ⟨_, _, rfl⟩ := lenV2 hl; exact rfl
  have ZInvalidStanding : ∀ base : Heap, RzC P w K mg base "InvalidStanding" CInvalidStanding "value" := fun base => ⟨⟨⟨_, _, _, _, xbV, xzInvalidStanding.xc⟩, xzInvalidStanding.typ⟩, PySem.W.mg_of X G xaInvalidStanding, ⟨gInvalidStanding, _, xiInvalidStanding, xzInvalidStanding.tI, ok_init1 (P := P) (w := w) (base := base) (st := s_InvalidStanding_init) (dvs := []) ⟨⟨_, _, _, _, _, _, _, _, _, _, rfl, xlInvalidStanding, xcInvalidStanding, .inl ⟨rfl, rfl⟩, .inl rfl⟩, xkInvalidStanding⟩ xbV xzInvalidStanding.xc xzInvalidStanding.nF ⟨_, _, _, _, rfl⟩ sc_xInvalidStanding (.inl rfl) (.inl rfl) (by decide +kernel) (by decide +kernel), bxInvalidStanding⟩⟩
  have FxInvalidLength := fun_mk (st := s_InvalidLength_init) xlInvalidLength xcInvalidLength xkInvalidLength
  have bxInvalidLength := FxInvalidLength.binds (ps := ["self", "value"]) fun _ _ _ _ _ _ us hl => by obtain ⟨_, _, rfl⟩ := lenV2 hl; exact rfl
  have ZInvalidLength : ∀ base : Heap, RzC P w K mg base "InvalidLength" CInvalidLength "value" := fun base => ⟨⟨⟨_, _, _, _, xbV, xzInvalidLength.xc⟩, xzInvalidLength.typ⟩, PySem.W.mg_of X G xaInvalidLength, ⟨gInvalidLength, _, xiInvalidLength, xzInvalidLength.tI, ok_init1 (P := P) (w := w) (base := base) (st := s_InvalidLength_init) (dvs := []) ⟨⟨_, _, _, _, _, _, _, _, _, _, rfl, xlInvalidLength, xcInvalidLength, .inl ⟨rfl, rfl⟩, .inl rfl⟩, xkInvalidLength⟩ xbV xzInvalidLength.xc xzInvalidLength.nF ⟨_, _, _, _, rfl⟩ sc_xInvalidLength (.inl rfl) (.inl rfl) (by decide +kernel) (by decide +kernel), bxInvalidLength⟩⟩
  have qxInvalidMove : ∀ (s : Shared) (a u : Value), K.In s.heap → BindsTo s (PySem.W.fnOf "__init__" "InvalidMove.__init__" (defArgs s_InvalidMove_init) (defBody s_InvalidMove_init) (defScope s_InvalidMove_init) (.ref TxInvalidMove) kVxInvalidMove dcxInvalidMove pmxInvalidMove anxInvalidMove cdxInvalidMove ctxInvalidMove) ⟨[a, u], []⟩ [("self", a), ("position", u)] := fun _ _ _ hK => BindsTo.of_looks fun _ => looks_items hK xtInvalidMove rfl (.of_pure rfl)
  have bxInvalidMove : Binds K (PySem.W.fnOf "__init__" "InvalidMove.__init__" (defArgs s_InvalidMove_init) (defBody s_InvalidMove_init) (defScope s_InvalidMove_init) (.ref TxInvalidMove) kVxInvalidMove dcxInvalidMove pmxInvalidMove anxInvalidMove cdxInvalidMove ctxInvalidMove) ["self", "position"] [] := fun s us hK hl => match us, hl with | [a, u], _ => qxInvalidMove s a u hK
  have ZInvalidMove : ∀ base : Heap, RzC P w K mg base "InvalidMove" CInvalidMove "position" := fun base => ⟨⟨⟨_, _, _, _, xbV, xzInvalidMove.xc⟩, xzInvalidMove.typ⟩, PySem.W.mg_of X G xaInvalidMove, ⟨gInvalidMove, _, xiInvalidMove, xzInvalidMove.tI, ok_init1 (P := P) (w := w) (base := base) (st := s_InvalidMove_init) (dvs := [.non]) ⟨⟨_, _, _, _, _, _, _, _, _, _, rfl, xlInvalidMove, xcInvalidMove, .inr ⟨by simp, TxInvalidMove, _, [.none], tnxInvalidMove, rfl, xtInvalidMove, rfl, .cons rfl .nil⟩, .inl rfl⟩, xkInvalidMove⟩ xbV xzInvalidMove.xc xzInvalidMove.nF ⟨_, _, _, _, rfl⟩ sc_xInvalidMove (.inl rfl) (.inl rfl) (by decide +kernel) (by decide +kernel), bxInvalidMove⟩⟩
  have FxBlocked := fun_mk (st := s_Blocked_init) xlBlocked xcBlocked xkBlocked
  have bxBlocked := FxBlocked.binds (ps := ["self", "position"]) fun _ _ _ _ _ _ us hl => by obtain ⟨_, _, rfl⟩ := lenV2 hl; exact rfl
  have ZBlocked : ∀ base : Heap, RzC P w K mg base "Blocked" CBlocked "position" := fun base => ⟨⟨⟨_, _, _, _, xbR, xzBlocked.xc⟩, xzBlocked.typ⟩, PySem.W.mg_of X G xaBlocked, ⟨gBlocked, _, xiBlocked, xzBlocked.tI, ok_init1 (P := P) (w := w) (base := base) (st := s_Blocked_init) (dvs := []) ⟨⟨_, _, _, _, _, _, _, _, _, _, rfl, xlBlocked, xcBlocked, .inl ⟨rfl, rfl⟩, .inl rfl⟩, xkBlocked⟩ xbR xzBlocked.xc xzBlocked.nF ⟨_, _, _, _, rfl⟩ sc_xBlocked (.inl rfl) (.inl rfl) (by decide +kernel) (by decide +kernel), bxBlocked⟩⟩
  refine ⟨PySem.W.fnOf "law" "law" (defArgs s_law) (defBody s_law) (defScope s_law) .none kVlaw dclaw pmlaw anlaw cdlaw ctlaw, [(qqlaw_standings_right, PPlaw_standings_right), (qqlaw_lengths_right, PPlaw_lengths_right), (qqlaw_moves_right, PPlaw_moves_right), (qqlaw_blocked_right, PPlaw_blocked_right)], spLawT K [(PPlaw_standings_right, qSt), (PPlaw_lengths_right, qLnR), (PPlaw_moves_right, qMvR), (PPlaw_blocked_right, qBlR)], ?_, ?_, ?_, fun s v => .of_eq rfl, fun H a ns hl hH hS => ⟨a, ns, rfl, hS, hl, ?_, fun _ => rfl⟩, fun base _ _ TB => ?_⟩
  · intro p hp
    rcases List.mem_cons.mp hp with rfl | hp
    · exact tlaw_standings_right
    ·
      rcases List.mem_cons.mp hp with rfl | hp
      · exact tlaw_lengths_right
      ·
        rcases List.mem_cons.mp hp with rfl | hp
        · exact tlaw_moves_right
        ·
          rcases List.mem_cons.mp hp with rfl | hp
          · exact tlaw_blocked_right
          ·
            cases hp
  · intro p hp
    rcases List.mem_cons.mp hp with rfl | hp
    · exact nlaw_standings_right
    ·
      rcases List.mem_cons.mp hp with rfl | hp
      · exact nlaw_lengths_right
      ·
        rcases List.mem_cons.mp hp with rfl | hp
        · exact nlaw_moves_right
        ·
          rcases List.mem_cons.mp hp with rfl | hp
          · exact nlaw_blocked_right
          ·
            cases hp
  · intro p hp
    rcases List.mem_cons.mp hp with rfl | hp
    · exact PySem.W.codeHd_of_K X hlaw_standings_right
    ·
      rcases List.mem_cons.mp hp with rfl | hp
      · exact PySem.W.codeHd_of_K X hlaw_lengths_right
      ·
        rcases List.mem_cons.mp hp with rfl | hp
        · exact PySem.W.codeHd_of_K X hlaw_moves_right
        ·
          rcases List.mem_cons.mp hp with rfl | hp
          · exact PySem.W.codeHd_of_K X hlaw_blocked_right
          ·
            cases hp
  · intro p hp
    rcases List.mem_cons.mp hp with rfl | hp
    · exact TabS.nil (hH (qqlaw_standings_right, PPlaw_standings_right) (by simp))
    ·
      rcases List.mem_cons.mp hp with rfl | hp
      · exact TabS.nil (hH (qqlaw_lengths_right, PPlaw_lengths_right) (by simp))
      ·
        rcases List.mem_cons.mp hp with rfl | hp
        · exact TabS.nil (hH (qqlaw_moves_right, PPlaw_moves_right) (by simp))
        ·
          rcases List.mem_cons.mp hp with rfl | hp
          · exact TabS.nil (hH (qqlaw_blocked_right, PPlaw_blocked_right) (by simp))
          ·
            cases hp
  have hulaw_standings_right : ∀ p ∈ ([(PPlaw_standings_right, qSt), (PPlaw_lengths_right, qLnR), (PPlaw_moves_right, qMvR), (PPlaw_blocked_right, qBlR)] : List (Addr × Str)), p.1 = PPlaw_standings_right → p.2 = qSt := fun p hp e => by
    rcases List.mem_cons.mp hp with rfl | hp
    · rfl
    ·
      rcases List.mem_cons.mp hp with rfl | hp
      · exact absurd e (fun z => nelaw_standings_rightlaw_lengths_right z.symm)
      ·
        rcases List.mem_cons.mp hp with rfl | hp
        · exact absurd e (fun z => nelaw_standings_rightlaw_moves_right z.symm)
        ·
          rcases List.mem_cons.mp hp with rfl | hp
          · exact absurd e (fun z => nelaw_standings_rightlaw_blocked_right z.symm)
          ·
            cases hp
  have hulaw_lengths_right : ∀ p ∈ ([(PPlaw_standings_right, qSt), (PPlaw_lengths_right, qLnR), (PPlaw_moves_right, qMvR), (PPlaw_blocked_right, qBlR)] : List (Addr × Str)), p.1 = PPlaw_lengths_right → p.2 = qLnR := fun p hp e => by
    rcases List.mem_cons.mp hp with rfl | hp
    · exact absurd e (fun z => nelaw_standings_rightlaw_lengths_right z)
    ·
      rcases List.mem_cons.mp hp with rfl | hp
      · rfl
      ·
        rcases List.mem_cons.mp hp with rfl | hp
        · exact absurd e (fun z => nelaw_lengths_rightlaw_moves_right z.symm)
        ·
          rcases List.mem_cons.mp hp with rfl | hp
          · exact absurd e (fun z => nelaw_lengths_rightlaw_blocked_right z.symm)
          ·
            cases hp
  have hulaw_moves_right : ∀ p ∈ ([(PPlaw_standings_right, qSt), (PPlaw_lengths_right, qLnR), (PPlaw_moves_right, qMvR), (PPlaw_blocked_right, qBlR)] : List (Addr × Str)), p.1 = PPlaw_moves_right → p.2 = qMvR := fun p hp e => by
    rcases List.mem_cons.mp hp with rfl | hp
    · exact absurd e (fun z => nelaw_standings_rightlaw_moves_right z)
    ·
      rcases List.mem_cons.mp hp with rfl | hp
      · exact absurd e (fun z => nelaw_lengths_rightlaw_moves_right z)
      ·
        rcases List.mem_cons.mp hp with rfl | hp
        · rfl
        ·
          rcases List.mem_cons.mp hp with rfl | hp
          · exact absurd e (fun z => nelaw_moves_rightlaw_blocked_right z.symm)
          ·
            cases hp
  have hulaw_blocked_right : ∀ p ∈ ([(PPlaw_standings_right, qSt), (PPlaw_lengths_right, qLnR), (PPlaw_moves_right, qMvR), (PPlaw_blocked_right, qBlR)] : List (Addr × Str)), p.1 = PPlaw_blocked_right → p.2 = qBlR := fun p hp e => by
    rcases List.mem_cons.mp hp with rfl | hp
    · exact absurd e (fun z => nelaw_standings_rightlaw_blocked_right z)
    ·
      rcases List.mem_cons.mp hp with rfl | hp
      · exact absurd e (fun z => nelaw_lengths_rightlaw_blocked_right z)
      ·
        rcases List.mem_cons.mp hp with rfl | hp
        · exact absurd e (fun z => nelaw_moves_rightlaw_blocked_right z)
        ·
          rcases List.mem_cons.mp hp with rfl | hp
          · rfl
          ·
            cases hp
  have Uis_integer : Use P w K mg base CX0 1 _ _ _ _ _ := ⟨ok_isInt Fis_integer N, PySem.W.mg_of X G ais_integer, kis_integer, bis_integer⟩
  have Uis_number_from : Use P w K mg base CX0 2 _ _ _ _ _ := ⟨ok_num Fis_number_from Uis_integer, PySem.W.mg_of X G ais_number_from, kis_number_from, bis_number_from⟩
  have Uis_pair_of_stations : Use P w K mg base CX0 3 _ _ _ _ _ := ⟨ok_pair Fis_pair_of_stations N Uis_number_from, PySem.W.mg_of X G ais_pair_of_stations, kis_pair_of_stations, bis_pair_of_stations⟩
  have Z : SizeOf P w K mg base C pMsize fMsize _ := ⟨cl, PMsize, ok_size FMsize N TX, bMsize⟩
  have Uis_station : Use P w K mg base CX0 3 _ _ _ _ _ := ⟨ok_isst Fis_station Uis_number_from Z, PySem.W.mg_of X G ais_station, kis_station, bis_station⟩
  have Ucheck_station : Use P w K mg base CX0 4 _ _ _ _ _ := ⟨ok_chk Fcheck_station Uis_station, PySem.W.mg_of X G acheck_station, kcheck_station, bcheck_station⟩
  have GP := ok_path (P := P) (w := w) (base := base) FMpath N TX Ucheck_station
  have Ujoined : Use P w K mg base CX0 1 _ _ _ _ _ := ⟨ok_join Fjoined, PySem.W.mg_of X G ajoined, kjoined, bjoined⟩
  have Ufirst_wrong_track : Use P w K mg base CX0 4 _ _ _ _ _ := ⟨ok_first Ffirst_wrong_track N Uis_pair_of_stations Ujoined, PySem.W.mg_of X G afirst_wrong_track, kfirst_wrong_track, bfirst_wrong_track⟩
  have Uneighbours_of : Use P w K mg base CX0 1 _ _ _ _ _ := ⟨ok_nbs Fneighbours_of N, PySem.W.mg_of X G aneighbours_of, kneighbours_of, bneighbours_of⟩
  have Uplaces_below_first : Use P w K mg base CX0 1 _ _ _ _ _ := ⟨ok_places Fplaces_below_first N, PySem.W.mg_of X G aplaces_below_first, kplaces_below_first, bplaces_below_first⟩
  have GI := fn_init (P := P) (w := w) (base := base) FMinit N TX Ufirst_wrong_track Uneighbours_of Uplaces_below_first
  have M : Mk K C fMinit := ⟨mk, aMinit, iMinit, kc⟩
  have GO : FnR P w K mg base CX0 7 fMof (spRof C) := ((ok_rof FMof N M GI).raw bMof .nil).imp fun vs H Q E h => by rw [List.append_nil]; exact h
  have Ulaw_begin : Use P w K mg base CX0 1 _ _ _ _ _ := ⟨ok_begin Flaw_begin, PySem.W.mg_of X G alaw_begin, klaw_begin, blaw_begin⟩
  have Ulaw_next : Use P w K mg base CX0 2 _ _ _ _ _ := ⟨ok_next Flaw_next ⟨PySem.W.mg_none_of X G z_len, PySem.W.mg_of X G alaw_mixed⟩ Flaw_mixed blaw_mixed, PySem.W.mg_of X G alaw_next, klaw_next, blaw_next⟩
  have Ulaw_tracks : Use P w K mg base CX0 3 _ _ _ _ _ := ⟨ok_trk Flaw_tracks N Ulaw_next, PySem.W.mg_of X G alaw_tracks, klaw_tracks, blaw_tracks⟩
  have Uis_standing : Use P w K mg base CX0 4 _ _ _ _ _ := ⟨ok_isstd Fis_standing Uis_pair_of_stations Z, PySem.W.mg_of X G ais_standing, kis_standing, bis_standing⟩
  have Ucheck_standing : Use P w K mg base CX0 5 _ _ _ _ _ := ⟨ok_chkstd Fcheck_standing Uis_standing, PySem.W.mg_of X G acheck_standing, kcheck_standing, bcheck_standing⟩
  have Ubody_of : Use P w K mg base CX0 6 _ _ _ _ _ := ⟨ok_body Fbody_of TX Ucheck_standing mMpath GP bMpath, PySem.W.mg_of X G abody_of, kbody_of, bbody_of⟩
  have Ulength_of : Use P w K mg base CX0 7 _ _ _ _ _ := ⟨ok_len Flength_of N Ubody_of, PySem.W.mg_of X G alength_of, klength_of, blength_of⟩
  have Ucheck_length : Use P w K mg base CX0 2 _ _ _ _ _ := ⟨ok_chklen Fcheck_length Uis_integer, PySem.W.mg_of X G acheck_length, kcheck_length, bcheck_length⟩
  have EC : EndsC K mg := ⟨aEN, PySem.W.mg_of X G aENDS, fun H => .inr ⟨_, _, _, lENDS, rfl, rfl, by show 2 ≤ sizeLine; rw [sizeLine_eq]; decide, .cons ⟨_, rfl⟩ (.cons ⟨_, rfl⟩ .nil)⟩⟩
  have Uis_move : Use P w K mg base CX0 4 _ _ _ _ _ := ⟨ok_ismv Fis_move N EC Uis_station, PySem.W.mg_of X G ais_move, kis_move, bis_move⟩
  have Ubody_for_part : Use P w K mg base CX0 7 _ _ _ _ _ := ⟨ok_bpart Fbody_for_part N Ubody_of Ucheck_length, PySem.W.mg_of X G abody_for_part, kbody_for_part, bbody_for_part⟩
  have Ufront_part : Use P w K mg base CX0 8 _ _ _ _ _ := ⟨ok_front Ffront_part Ubody_for_part, PySem.W.mg_of X G afront_part, kfront_part, bfront_part⟩
  have XCM : UseX P w K mg base 5 "check_moves" fcheck_moves _ ["railway", "moves"] (spChkMv C CInvalidMove K) := ⟨ok_chkmv Fcheck_moves N Uis_move (ZInvalidMove base), PySem.W.mg_of X G acheck_moves, kcheck_moves, bcheck_moves⟩
  have Ubody_after : Use P w K mg base CX0 1 _ _ _ _ _ := ⟨ok_aft Fbody_after, PySem.W.mg_of X G abody_after, kbody_after, bbody_after⟩
  have Uopposite_move : Use P w K mg base CX0 1 _ _ _ _ _ := ⟨ok_opp Fopposite_move, PySem.W.mg_of X G aopposite_move, kopposite_move, bopposite_move⟩
  have Mn : MU P w K mg base C 5 "neighbours" fMneighbours _ ["self", "station"] (spNbr C) := ⟨mMneighbours, ok_nbr FMneighbours TX Ucheck_station, bMneighbours⟩
  have Usteps_from : Use P w K mg base CX0 6 _ _ _ _ _ := ⟨ok_stp Fsteps_from TX Ubody_after Mn, PySem.W.mg_of X G asteps_from, ksteps_from, bsteps_from⟩
  have XAL : UseX P w K mg base 7 "bodies_along" fbodies_along _ ["railway", "standing", "moves"] (spAlong C CBlocked) := ⟨ok_along Fbodies_along N TX Ubody_of XCM Ubody_after Mn (ZBlocked base), PySem.W.mg_of X G abodies_along, kbodies_along, bbodies_along⟩
  have XMA : UseX P w K mg base 8 "moved_along" fmoved_along _ ["railway", "standing", "moves"] (spMvd C CBlocked) := ⟨ok_mvd Fmoved_along XAL, PySem.W.mg_of X G amoved_along, kmoved_along, bmoved_along⟩
  have XOM : UseX P w K mg base 8 "opposite_moves" fopposite_moves _ ["railway", "standing", "moves"] (spOps C CBlocked) := ⟨ok_ops Fopposite_moves N XAL Uopposite_move, PySem.W.mg_of X G aopposite_moves, kopposite_moves, bopposite_moves⟩
  have MB : UseR P w K mg base 9 "moved" fmoved (spMvs C CBlocked) := ⟨fn_mv Fmoved XMA, PySem.W.mg_of X G amoved, kmoved⟩
  have XSC : UseX P w K mg base 5 "check_standing" fcheck_standing _ ["railway", "standing"] (spS2 C CInvalidStanding K) := ⟨ok_chkstX Fcheck_standing Uis_standing (ZInvalidStanding base), PySem.W.mg_of X G acheck_standing, kcheck_standing, bcheck_standing⟩
  have XSB : UseX P w K mg base 6 "body_of" fbody_of _ ["railway", "standing"] (spS2 C CInvalidStanding K) := ⟨ok_bodyS Fbody_of N XSC, PySem.W.mg_of X G abody_of, kbody_of, bbody_of⟩
  have XSL : UseX P w K mg base 7 "length_of" flength_of _ ["railway", "standing"] (spS2 C CInvalidStanding K) := ⟨ok_lenS Flength_of N XSB, PySem.W.mg_of X G alength_of, klength_of, blength_of⟩
  have XST : UseX P w K mg base 6 "turned" fturned _ ["railway", "standing"] (spS2 C CInvalidStanding K) := ⟨ok_turnS Fturned N XSC, PySem.W.mg_of X G aturned, kturned, bturned⟩
  have XSP : UseX P w K mg base 7 "_body_for_part" fbody_for_part _ ["railway", "standing", "length"] (spS3 C CInvalidStanding K) := ⟨ok_bpartS Fbody_for_part N XSB, PySem.W.mg_of X G abody_for_part, kbody_for_part, bbody_for_part⟩
  have XSF : UseX P w K mg base 8 "front_part" ffront_part _ ["railway", "standing", "length"] (spS3 C CInvalidStanding K) := ⟨ok_frontS Ffront_part N XSP, PySem.W.mg_of X G afront_part, kfront_part, bfront_part⟩
  have XSR : UseX P w K mg base 8 "rear_part" frear_part _ ["railway", "standing", "length"] (spS3 C CInvalidStanding K) := ⟨ok_rearS Frear_part N XSP, PySem.W.mg_of X G arear_part, krear_part, brear_part⟩
  have XSA : UseX P w K mg base 7 "bodies_along" fbodies_along _ ["railway", "standing", "moves"] (spS3 C CInvalidStanding K) := ⟨ok_alongS Fbodies_along N XSB, PySem.W.mg_of X G abodies_along, kbodies_along, bbodies_along⟩
  have XSM : UseX P w K mg base 8 "moved_along" fmoved_along _ ["railway", "standing", "moves"] (spS3 C CInvalidStanding K) := ⟨ok_mvdS Fmoved_along N XSA, PySem.W.mg_of X G amoved_along, kmoved_along, bmoved_along⟩
  have XSO : UseX P w K mg base 8 "opposite_moves" fopposite_moves _ ["railway", "standing", "moves"] (spS3 C CInvalidStanding K) := ⟨ok_opsS Fopposite_moves N XSA, PySem.W.mg_of X G aopposite_moves, kopposite_moves, bopposite_moves⟩
  have MS : UseR P w K mg base 9 "moved" fmoved (spMsS C CInvalidStanding K) := ⟨fn_mvS Fmoved XSM, PySem.W.mg_of X G amoved, kmoved⟩
  have GPX : GenU P w K mg base 7 "possible_moves" fpossible_moves _ ["railway", "standing"] ["standing", "railway"] swp (spPossX C CInvalidStanding K) := ⟨ok_possX Fpossible_moves Usteps_from XSB, PySem.W.mg_of X G apossible_moves, kpossible_moves, bpossible_moves, L2.TT.Fun.kb Fpossible_moves (fun _ _ _ _ _ _ ws hl => by obtain ⟨_, _, rfl⟩ := lenV2 hl; exact rfl)⟩
  have XLC : UseX P w K mg base 3 "check_length" fcheck_length _ ["length"] (spLnX CInvalidLength K) := ⟨ok_chklX Fcheck_length Uis_integer (ZInvalidLength base), PySem.W.mg_of X G acheck_length, kcheck_length, bcheck_length⟩
  have GSX : GenU P w K mg base 7 "standings" fstandings _ ["railway", "length"] ["railway", "length"] id (spStdsX CInvalidLength K) := ⟨ok_stdsX Fstandings XLC, PySem.W.mg_of X G astandings, kstandings, bstandings, L2.TT.Fun.kb Fstandings (fun _ _ _ _ _ _ ws hl => by obtain ⟨_, _, rfl⟩ := lenV2 hl; exact rfl)⟩
  have XLP : UseX P w K mg base 7 "_body_for_part" fbody_for_part _ ["railway", "standing", "length"] (spL3 C CInvalidLength K) := ⟨ok_bpartL Fbody_for_part N Ubody_of Ucheck_length XLC (ZInvalidLength base), PySem.W.mg_of X G abody_for_part, kbody_for_part, bbody_for_part⟩
  have XLF : UseX P w K mg base 8 "front_part" ffront_part _ ["railway", "standing", "length"] (spL3 C CInvalidLength K) := ⟨ok_frontL Ffront_part XLP, PySem.W.mg_of X G afront_part, kfront_part, bfront_part⟩
  have XLR : UseX P w K mg base 8 "rear_part" frear_part _ ["railway", "standing", "length"] (spL3 C CInvalidLength K) := ⟨ok_rearL Frear_part XLP, PySem.W.mg_of X G arear_part, krear_part, brear_part⟩
  have KLR : UseKX P w K mg base 8 "rear_part" frear_part _ ["railway", "standing", "length"] ["length", "standing", "railway"] rv3 (spL3 C CInvalidLength K) := ⟨XLR, L2.TT.Fun.kb Frear_part (fun _ _ _ _ _ _ ws hl => by obtain ⟨_, _, _, rfl⟩ := lenV3 hl; exact rfl)⟩
  have XVA : UseX P w K mg base 7 "bodies_along" fbodies_along _ ["railway", "standing", "moves"] (spM3 C CInvalidMove K) := ⟨ok_alongM Fbodies_along Ubody_of XCM, PySem.W.mg_of X G abodies_along, kbodies_along, bbodies_along⟩
  have XVM : UseX P w K mg base 8 "moved_along" fmoved_along _ ["railway", "standing", "moves"] (spM3 C CInvalidMove K) := ⟨ok_mvdM Fmoved_along XVA, PySem.W.mg_of X G amoved_along, kmoved_along, bmoved_along⟩
  have XVO : UseX P w K mg base 8 "opposite_moves" fopposite_moves _ ["railway", "standing", "moves"] (spM3 C CInvalidMove K) := ⟨ok_opsM Fopposite_moves XVA, PySem.W.mg_of X G aopposite_moves, kopposite_moves, bopposite_moves⟩
  have KVM : UseKX P w K mg base 8 "moved_along" fmoved_along _ ["railway", "standing", "moves"] ["moves", "standing", "railway"] rv3 (spM3 C CInvalidMove K) := ⟨XVM, L2.TT.Fun.kb Fmoved_along (fun _ _ _ _ _ _ ws hl => by obtain ⟨_, _, _, rfl⟩ := lenV3 hl; exact rfl)⟩
  have KVO : UseKX P w K mg base 8 "opposite_moves" fopposite_moves _ ["railway", "standing", "moves"] ["moves", "standing", "railway"] rv3 (spM3 C CInvalidMove K) := ⟨XVO, L2.TT.Fun.kb Fopposite_moves (fun _ _ _ _ _ _ ws hl => by obtain ⟨_, _, _, rfl⟩ := lenV3 hl; exact rfl)⟩
  have MM : UseR P w K mg base 9 "moved" fmoved (spMsM C CInvalidMove K) := ⟨fn_mvM Fmoved XVM, PySem.W.mg_of X G amoved, kmoved⟩
  have Ulaw_standing : Use P w K mg base CX0 3 _ _ _ _ _ := ⟨ok_stand Flaw_standing N Ulaw_next, PySem.W.mg_of X G alaw_standing, klaw_standing, blaw_standing⟩
  have Ulaw_pair_tracks : Use P w K mg base CX0 4 _ _ _ _ _ := ⟨ok_ptr Flaw_pair_tracks N Ulaw_tracks Ulaw_next, PySem.W.mg_of X G alaw_pair_tracks, klaw_pair_tracks, blaw_pair_tracks⟩
  have Ulaw_no_standing : Use P w K mg base CX0 3 _ _ _ _ _ := ⟨ok_nost Flaw_no_standing N Ulaw_next, PySem.W.mg_of X G alaw_no_standing, klaw_no_standing, blaw_no_standing⟩
  have Ulaw_no_length : Use P w K mg base CX0 3 _ _ _ _ _ := ⟨ok_nolen Flaw_no_length Ulaw_next, PySem.W.mg_of X G alaw_no_length, klaw_no_length, blaw_no_length⟩
  have Ulaw_no_move : Use P w K mg base CX0 3 _ _ _ _ _ := ⟨ok_nom Flaw_no_move N Ulaw_next, PySem.W.mg_of X G alaw_no_move, klaw_no_move, blaw_no_move⟩
  have W : SayF K mg CR CU CM CInvalidStanding CInvalidLength CInvalidMove CBlocked CIP CIS := ⟨KC, mCR, mCU, mCM, PySem.W.mg_of X G xaInvalidStanding, PySem.W.mg_of X G xaInvalidLength, PySem.W.mg_of X G xaInvalidMove, PySem.W.mg_of X G xaBlocked, PySem.W.mg_of X G xCIP, PySem.W.mg_of X G xCIS, PySem.W.mg_none_of X G z_ValueError, PySem.W.mg_none_of X G z_RuntimeError, PySem.W.mg_none_of X G z_LookupError, PySem.W.mg_none_of X G z_isinstance⟩
  have ZC : SCs K CR CU CM CInvalidStanding CInvalidLength CInvalidMove CBlocked CIP CIS := ⟨⟨xeInvalidStanding, ⟨_, _, xzInvalidStanding.xc⟩, xzInvalidStanding.nF, y0InvalidStanding, y1InvalidStanding, y2InvalidStanding, y3InvalidStanding, ytInvalidStanding, yVInvalidStanding, yRInvalidStanding, yLInvalidStanding⟩, ⟨xeInvalidLength, ⟨_, _, xzInvalidLength.xc⟩, xzInvalidLength.nF, y0InvalidLength, y1InvalidLength, y2InvalidLength, y3InvalidLength, ytInvalidLength, yVInvalidLength, yRInvalidLength, yLInvalidLength⟩, ⟨xeInvalidMove, ⟨_, _, xzInvalidMove.xc⟩, xzInvalidMove.nF, y0InvalidMove, y1InvalidMove, y2InvalidMove, y3InvalidMove, ytInvalidMove, yVInvalidMove, yRInvalidMove, yLInvalidMove⟩, ⟨xeBlocked, ⟨_, _, xzBlocked.xc⟩, xzBlocked.nF, y0Blocked, y1Blocked, y2Blocked, y3Blocked, ytBlocked, yVBlocked, yRBlocked, yLBlocked⟩, ysInvalidStanding, ysInvalidLength⟩
  have G1 : UseG P w K mg base 15 "_law_standings_right" flaw_standings_right _ ["road", "odd", "bad"] (spStRE C K [(PPlaw_standings_right, qSt), (PPlaw_lengths_right, qLnR), (PPlaw_moves_right, qMvR), (PPlaw_blocked_right, qBlR)]) := ⟨fnG_exA fun dr => ok_str (dr := dr) FClaw_standings_right (TB (qqlaw_standings_right, PPlaw_standings_right) (by simp)) (by simp) hulaw_standings_right N Flaw_said blaw_said W (PySem.W.mg_of X G alaw_said) ZC XSL XSB XST GPX MS XSM XSO XSF XSR, PySem.W.mg_of X G alaw_standings_right, klaw_standings_right, blaw_standings_right⟩
  have G2 : UseG P w K mg base 15 "_law_lengths_right" flaw_lengths_right _ ["road", "pose", "bad"] (spLnRE C K [(PPlaw_standings_right, qSt), (PPlaw_lengths_right, qLnR), (PPlaw_moves_right, qMvR), (PPlaw_blocked_right, qBlR)]) := ⟨fnG_exA fun dr => ok_lnr (dr := dr) FClaw_lengths_right (TB (qqlaw_lengths_right, PPlaw_lengths_right) (by simp)) (by simp) hulaw_lengths_right N Flaw_said blaw_said W (PySem.W.mg_of X G alaw_said) ZC GSX XLF KLR Ufront_part Ulength_of, PySem.W.mg_of X G alaw_lengths_right, klaw_lengths_right, blaw_lengths_right⟩
  have G3 : UseG P w K mg base 15 "_law_moves_right" flaw_moves_right _ ["road", "pose", "odd", "far"] (spMvRE C K [(PPlaw_standings_right, qSt), (PPlaw_lengths_right, qLnR), (PPlaw_moves_right, qMvR), (PPlaw_blocked_right, qBlR)]) := ⟨fnG_exA fun dr => ok_mvr (dr := dr) FClaw_moves_right (TB (qqlaw_moves_right, PPlaw_moves_right) (by simp)) (by simp) hulaw_moves_right N Flaw_said blaw_said W (PySem.W.mg_of X G alaw_said) ZC MM KVM KVO, PySem.W.mg_of X G alaw_moves_right, klaw_moves_right, blaw_moves_right⟩
  have G4 : UseG P w K mg base 15 "_law_blocked_right" flaw_blocked_right _ ["road", "pose"] (spBlRE C K [(PPlaw_standings_right, qSt), (PPlaw_lengths_right, qLnR), (PPlaw_moves_right, qMvR), (PPlaw_blocked_right, qBlR)]) := ⟨fnG_exA fun dr => ok_blr (dr := dr) FClaw_blocked_right (TB (qqlaw_blocked_right, PPlaw_blocked_right) (by simp)) (by simp) hulaw_blocked_right N Flaw_said blaw_said W (PySem.W.mg_of X G alaw_said) ZC MB XMA XOM Ubody_of, PySem.W.mg_of X G alaw_blocked_right, klaw_blocked_right, blaw_blocked_right⟩
  exact ok_law Flaw N TX cr cmMof GO Ulaw_begin Ulaw_pair_tracks Ulaw_standing Ulaw_no_standing Ulaw_no_length Ulaw_no_move G1 G2 G3 G4
end TR

open PySem PySem.W PyProof.Rows
set_option maxRecDepth 100000 in
set_option maxHeartbeats 0 in
theorem PySem.Challenge.cw_treetrain_k10_standings_refused_holds : PySem.Challenge.rw_treetrain_k10_standings_refused.Holds := by
  w_on; o_law; k_head; (case hw => w_witness2)
  k_fill
  refine L2.TL.walkG_ofTs (l := PySem.Challenge.rw_treetrain_k10_standings_refused) (n := 63) (k := 16) (x := "script") rfl (by decide) rfl ⟨rfl, by decide, by decide⟩ (fun w h Y => PySem.W.km_in_of Y) ?F
  case F =>
    intro w mg fa h Y KX G hmg
    refine' TR.all_mk KX G hmg ?ais_integer ?lis_integer ?cis_integer ?kis_integer ?ais_number_from ?lis_number_from ?cis_number_from ?kis_number_from ?ais_pair_of_stations ?lis_pair_of_stations ?cis_pair_of_stations ?kis_pair_of_stations ?ais_station ?lis_station ?cis_station ?kis_station ?acheck_station ?lcheck_station ?ccheck_station ?kcheck_station ?ajoined ?ljoined ?cjoined ?kjoined ?afirst_wrong_track ?lfirst_wrong_track ?cfirst_wrong_track ?kfirst_wrong_track ?aneighbours_of ?lneighbours_of ?cneighbours_of ?kneighbours_of ?aplaces_below_first ?lplaces_below_first ?cplaces_below_first ?kplaces_below_first ?alaw_begin ?llaw_begin ?claw_begin ?klaw_begin ?alaw_mixed ?llaw_mixed ?claw_mixed ?klaw_mixed ?alaw_next ?llaw_next ?claw_next ?klaw_next ?alaw_tracks ?llaw_tracks ?claw_tracks ?klaw_tracks ?acheck_length ?lcheck_length ?ccheck_length ?kcheck_length ?ais_standing ?lis_standing ?cis_standing ?kis_standing ?acheck_standing ?lcheck_standing ?ccheck_standing ?kcheck_standing ?ais_move ?lis_move ?cis_move ?kis_move ?acheck_moves ?lcheck_moves ?ccheck_moves ?kcheck_moves ?abody_of ?lbody_of ?cbody_of ?kbody_of ?alength_of ?llength_of ?clength_of ?klength_of ?aturned ?lturned ?cturned ?kturned ?astandings ?lstandings ?cstandings ?kstandings ?abody_for_part ?lbody_for_part ?cbody_for_part ?kbody_for_part ?afront_part ?lfront_part ?cfront_part ?kfront_part ?arear_part ?lrear_part ?crear_part ?krear_part ?apossible_moves ?lpossible_moves ?cpossible_moves ?kpossible_moves ?amoved ?lmoved ?cmoved ?kmoved ?amoved_along ?lmoved_along ?cmoved_along ?kmoved_along ?aopposite_moves ?lopposite_moves ?copposite_moves ?kopposite_moves ?abodies_along ?lbodies_along ?cbodies_along ?kbodies_along ?asteps_from ?lsteps_from ?csteps_from ?ksteps_from ?abody_after ?lbody_after ?cbody_after ?kbody_after ?aopposite_move ?lopposite_move ?copposite_move ?kopposite_move ?alaw_standing ?llaw_standing ?claw_standing ?klaw_standing ?alaw_pair_tracks ?llaw_pair_tracks ?claw_pair_tracks ?klaw_pair_tracks ?alaw_said ?llaw_said ?claw_said ?klaw_said ?alaw_no_standing ?llaw_no_standing ?claw_no_standing ?klaw_no_standing ?alaw_no_length ?llaw_no_length ?claw_no_length ?klaw_no_length ?alaw_no_move ?llaw_no_move ?claw_no_move ?klaw_no_move ?alaw_standings_right ?llaw_standings_right ?claw_standings_right ?klaw_standings_right ?olaw_standings_right ?plaw_standings_right ?hlaw_standings_right ?nlaw_standings_right ?tlaw_standings_right ?alaw_lengths_right ?llaw_lengths_right ?claw_lengths_right ?klaw_lengths_right ?olaw_lengths_right ?plaw_lengths_right ?hlaw_lengths_right ?nlaw_lengths_right ?tlaw_lengths_right ?alaw_moves_right ?llaw_moves_right ?claw_moves_right ?klaw_moves_right ?olaw_moves_right ?plaw_moves_right ?hlaw_moves_right ?nlaw_moves_right ?tlaw_moves_right ?alaw_blocked_right ?llaw_blocked_right ?claw_blocked_right ?klaw_blocked_right ?olaw_blocked_right ?plaw_blocked_right ?hlaw_blocked_right ?nlaw_blocked_right ?tlaw_blocked_right ?alaw ?llaw ?claw ?klaw ?nelaw_standings_rightlaw_lengths_right ?nelaw_standings_rightlaw_moves_right ?nelaw_standings_rightlaw_blocked_right ?nelaw_lengths_rightlaw_moves_right ?nelaw_lengths_rightlaw_blocked_right ?nelaw_moves_rightlaw_blocked_right ?aC ?cR ?cG ?cM ?pg ?hd ?po ?sa ?mk ?kc ?n0 ?n1 ?n2 ?n3 ?kca ?kob ?sg ?st ?aMinit ?iMinit ?lMinit ?cMinit ?kMinit ?aMpath ?iMpath ?lMpath ?cMpath ?kMpath ?aMsize ?gMsize ?tMsize ?rMsizeh ?lMsize ?cMsize ?kMsize ?aMof ?rMofh ?iMof ?lMof ?cMof ?kMof ?aMneighbours ?iMneighbours ?lMneighbours ?cMneighbours ?kMneighbours ?z_RuntimeError ?z_ValueError ?z_LookupError ?z_len ?z_isinstance ?z_int ?z_bool ?z_tuple ?z_list ?z_sorted ?z_min ?z_max ?z_range ?z_enumerate ?z_repr ?z_set ?z_all ?z_any ?z_zip ?z_str ?xCR ?xCU ?xCM ?xaInvalidStanding ?xiInvalidStanding ?xlInvalidStanding ?xcInvalidStanding ?xkInvalidStanding ?xzInvalidStanding ?xeInvalidStanding ?xaInvalidLength ?xiInvalidLength ?xlInvalidLength ?xcInvalidLength ?xkInvalidLength ?xzInvalidLength ?xeInvalidLength ?xaInvalidMove ?xiInvalidMove ?xlInvalidMove ?xtInvalidMove ?xcInvalidMove ?xkInvalidMove ?xzInvalidMove ?xeInvalidMove ?xaBlocked ?xiBlocked ?xlBlocked ?xcBlocked ?xkBlocked ?xzBlocked ?xeBlocked ?aENDS ?lENDS ?xCIP ?xCIS ?y0InvalidStanding ?y1InvalidStanding ?y2InvalidStanding ?y3InvalidStanding ?ytInvalidStanding ?yVInvalidStanding ?yRInvalidStanding ?yLInvalidStanding ?y0InvalidLength ?y1InvalidLength ?y2InvalidLength ?y3InvalidLength ?ytInvalidLength ?yVInvalidLength ?yRInvalidLength ?yLInvalidLength ?y0InvalidMove ?y1InvalidMove ?y2InvalidMove ?y3InvalidMove ?ytInvalidMove ?yVInvalidMove ?yRInvalidMove ?yLInvalidMove ?y0Blocked ?y1Blocked ?y2Blocked ?y3Blocked ?ytBlocked ?yVBlocked ?yRBlocked ?yLBlocked ?ysInvalidStanding ?ysInvalidLength
    (case ais_integer => first | k_is | kx_is)
    (case lis_integer => first | k_is | kx_is)
    (case cis_integer => first | k_is | kx_is)
    (case kis_integer => first | k_is | kx_is)
    (case ais_number_from => first | k_is | kx_is)
    (case lis_number_from => first | k_is | kx_is)
    (case cis_number_from => first | k_is | kx_is)
    (case kis_number_from => first | k_is | kx_is)
    (case ais_pair_of_stations => first | k_is | kx_is)
    (case lis_pair_of_stations => first | k_is | kx_is)
    (case cis_pair_of_stations => first | k_is | kx_is)
    (case kis_pair_of_stations => first | k_is | kx_is)
    (case ais_station => first | k_is | kx_is)
    (case lis_station => first | k_is | kx_is)
    (case cis_station => first | k_is | kx_is)
    (case kis_station => first | k_is | kx_is)
    (case acheck_station => first | k_is | kx_is)
    (case lcheck_station => first | k_is | kx_is)
    (case ccheck_station => first | k_is | kx_is)
    (case kcheck_station => first | k_is | kx_is)
    (case ajoined => first | k_is | kx_is)
    (case ljoined => first | k_is | kx_is)
    (case cjoined => first | k_is | kx_is)
    (case kjoined => first | k_is | kx_is)
    (case afirst_wrong_track => first | k_is | kx_is)
    (case lfirst_wrong_track => first | k_is | kx_is)
    (case cfirst_wrong_track => first | k_is | kx_is)
    (case kfirst_wrong_track => first | k_is | kx_is)
    (case aneighbours_of => first | k_is | kx_is)
    (case lneighbours_of => first | k_is | kx_is)
    (case cneighbours_of => first | k_is | kx_is)
    (case kneighbours_of => first | k_is | kx_is)
    (case aplaces_below_first => first | k_is | kx_is)
    (case lplaces_below_first => first | k_is | kx_is)
    (case cplaces_below_first => first | k_is | kx_is)
    (case kplaces_below_first => first | k_is | kx_is)
    (case alaw_begin => first | k_is | kx_is)
    (case llaw_begin => first | k_is | kx_is)
    (case claw_begin => first | k_is | kx_is)
    (case klaw_begin => first | k_is | kx_is)
    (case alaw_mixed => first | k_is | kx_is)
    (case llaw_mixed => first | k_is | kx_is)
    (case claw_mixed => first | k_is | kx_is)
    (case klaw_mixed => first | k_is | kx_is)
    (case alaw_next => first | k_is | kx_is)
    (case llaw_next => first | k_is | kx_is)
    (case claw_next => first | k_is | kx_is)
    (case klaw_next => first | k_is | kx_is)
    (case alaw_tracks => first | k_is | kx_is)
    (case llaw_tracks => first | k_is | kx_is)
    (case claw_tracks => first | k_is | kx_is)
    (case klaw_tracks => first | k_is | kx_is)
    (case acheck_length => first | k_is | kx_is)
    (case lcheck_length => first | k_is | kx_is)
    (case ccheck_length => first | k_is | kx_is)
    (case kcheck_length => first | k_is | kx_is)
    (case ais_standing => first | k_is | kx_is)
    (case lis_standing => first | k_is | kx_is)
    (case cis_standing => first | k_is | kx_is)
    (case kis_standing => first | k_is | kx_is)
    (case acheck_standing => first | k_is | kx_is)
    (case lcheck_standing => first | k_is | kx_is)
    (case ccheck_standing => first | k_is | kx_is)
    (case kcheck_standing => first | k_is | kx_is)
    (case ais_move => first | k_is | kx_is)
    (case lis_move => first | k_is | kx_is)
    (case cis_move => first | k_is | kx_is)
    (case kis_move => first | k_is | kx_is)
    (case acheck_moves => first | k_is | kx_is)
    (case lcheck_moves => first | k_is | kx_is)
    (case ccheck_moves => first | k_is | kx_is)
    (case kcheck_moves => first | k_is | kx_is)
    (case abody_of => first | k_is | kx_is)
    (case lbody_of => first | k_is | kx_is)
    (case cbody_of => first | k_is | kx_is)
    (case kbody_of => first | k_is | kx_is)
    (case alength_of => first | k_is | kx_is)
    (case llength_of => first | k_is | kx_is)
    (case clength_of => first | k_is | kx_is)
    (case klength_of => first | k_is | kx_is)
    (case aturned => first | k_is | kx_is)
    (case lturned => first | k_is | kx_is)
    (case cturned => first | k_is | kx_is)
    (case kturned => first | k_is | kx_is)
    (case astandings => first | k_is | kx_is)
    (case lstandings => first | k_is | kx_is)
    (case cstandings => first | k_is | kx_is)
    (case kstandings => first | k_is | kx_is)
    (case abody_for_part => first | k_is | kx_is)
    (case lbody_for_part => first | k_is | kx_is)
    (case cbody_for_part => first | k_is | kx_is)
    (case kbody_for_part => first | k_is | kx_is)
    (case afront_part => first | k_is | kx_is)
    (case lfront_part => first | k_is | kx_is)
    (case cfront_part => first | k_is | kx_is)
    (case kfront_part => first | k_is | kx_is)
    (case arear_part => first | k_is | kx_is)
    (case lrear_part => first | k_is | kx_is)
    (case crear_part => first | k_is | kx_is)
    (case krear_part => first | k_is | kx_is)
    (case apossible_moves => first | k_is | kx_is)
    (case lpossible_moves => first | k_is | kx_is)
    (case cpossible_moves => first | k_is | kx_is)
    (case kpossible_moves => first | k_is | kx_is)
    (case amoved => first | k_is | kx_is)
    (case lmoved => first | k_is | kx_is)
    (case cmoved => first | k_is | kx_is)
    (case kmoved => first | k_is | kx_is)
    (case amoved_along => first | k_is | kx_is)
    (case lmoved_along => first | k_is | kx_is)
    (case cmoved_along => first | k_is | kx_is)
    (case kmoved_along => first | k_is | kx_is)
    (case aopposite_moves => first | k_is | kx_is)
    (case lopposite_moves => first | k_is | kx_is)
    (case copposite_moves => first | k_is | kx_is)
    (case kopposite_moves => first | k_is | kx_is)
    (case abodies_along => first | k_is | kx_is)
    (case lbodies_along => first | k_is | kx_is)
    (case cbodies_along => first | k_is | kx_is)
    (case kbodies_along => first | k_is | kx_is)
    (case asteps_from => first | k_is | kx_is)
    (case lsteps_from => first | k_is | kx_is)
    (case csteps_from => first | k_is | kx_is)
    (case ksteps_from => first | k_is | kx_is)
    (case abody_after => first | k_is | kx_is)
    (case lbody_after => first | k_is | kx_is)
    (case cbody_after => first | k_is | kx_is)
    (case kbody_after => first | k_is | kx_is)
    (case aopposite_move => first | k_is | kx_is)
    (case lopposite_move => first | k_is | kx_is)
    (case copposite_move => first | k_is | kx_is)
    (case kopposite_move => first | k_is | kx_is)
    (case alaw_standing => first | k_is | kx_is)
    (case llaw_standing => first | k_is | kx_is)
    (case claw_standing => first | k_is | kx_is)
    (case klaw_standing => first | k_is | kx_is)
    (case alaw_pair_tracks => first | k_is | kx_is)
    (case llaw_pair_tracks => first | k_is | kx_is)
    (case claw_pair_tracks => first | k_is | kx_is)
    (case klaw_pair_tracks => first | k_is | kx_is)
    (case alaw_said => first | k_is | kx_is)
    (case llaw_said => first | k_is | kx_is)
    (case claw_said => first | k_is | kx_is)
    (case klaw_said => first | k_is | kx_is)
    (case alaw_no_standing => first | k_is | kx_is)
    (case llaw_no_standing => first | k_is | kx_is)
    (case claw_no_standing => first | k_is | kx_is)
    (case klaw_no_standing => first | k_is | kx_is)
    (case alaw_no_length => first | k_is | kx_is)
    (case llaw_no_length => first | k_is | kx_is)
    (case claw_no_length => first | k_is | kx_is)
    (case klaw_no_length => first | k_is | kx_is)
    (case alaw_no_move => first | k_is | kx_is)
    (case llaw_no_move => first | k_is | kx_is)
    (case claw_no_move => first | k_is | kx_is)
    (case klaw_no_move => first | k_is | kx_is)
    (case alaw_standings_right => first | k_is | kx_is)
    (case llaw_standings_right => first | k_is | kx_is)
    (case claw_standings_right => first | k_is | kx_is)
    (case klaw_standings_right => first | k_is | kx_is)
    (case olaw_standings_right => first | k_is | kx_is)
    (case plaw_standings_right => first | exact rfl | with_unfolding_all rfl)
    (case hlaw_standings_right => kernel_rfl)
    (case nlaw_standings_right => kernel_rfl)
    (case tlaw_standings_right => exact PySem.W.km_tabs_of Y _ (by decide))
    (case alaw_lengths_right => first | k_is | kx_is)
    (case llaw_lengths_right => first | k_is | kx_is)
    (case claw_lengths_right => first | k_is | kx_is)
    (case klaw_lengths_right => first | k_is | kx_is)
    (case olaw_lengths_right => first | k_is | kx_is)
    (case plaw_lengths_right => first | exact rfl | with_unfolding_all rfl)
    (case hlaw_lengths_right => kernel_rfl)
    (case nlaw_lengths_right => kernel_rfl)
    (case tlaw_lengths_right => exact PySem.W.km_tabs_of Y _ (by decide))
    (case alaw_moves_right => first | k_is | kx_is)
    (case llaw_moves_right => first | k_is | kx_is)
    (case claw_moves_right => first | k_is | kx_is)
    (case klaw_moves_right => first | k_is | kx_is)
    (case olaw_moves_right => first | k_is | kx_is)
    (case plaw_moves_right => first | exact rfl | with_unfolding_all rfl)
    (case hlaw_moves_right => kernel_rfl)
    (case nlaw_moves_right => kernel_rfl)
    (case tlaw_moves_right => exact PySem.W.km_tabs_of Y _ (by decide))
    (case alaw_blocked_right => first | k_is | kx_is)
    (case llaw_blocked_right => first | k_is | kx_is)
    (case claw_blocked_right => first | k_is | kx_is)
    (case klaw_blocked_right => first | k_is | kx_is)
    (case olaw_blocked_right => first | k_is | kx_is)
    (case plaw_blocked_right => first | exact rfl | with_unfolding_all rfl)
    (case hlaw_blocked_right => kernel_rfl)
    (case nlaw_blocked_right => kernel_rfl)
    (case tlaw_blocked_right => exact PySem.W.km_tabs_of Y _ (by decide))
    (case alaw => first | k_is | kx_is)
    (case llaw => first | k_is | kx_is)
    (case claw => first | k_is | kx_is)
    (case klaw => first | k_is | kx_is)
    (case nelaw_standings_rightlaw_lengths_right => decide)
    (case nelaw_standings_rightlaw_moves_right => decide)
    (case nelaw_standings_rightlaw_blocked_right => decide)
    (case nelaw_lengths_rightlaw_moves_right => decide)
    (case nelaw_lengths_rightlaw_blocked_right => decide)
    (case nelaw_moves_rightlaw_blocked_right => decide)
    (case aC => first | k_is | kx_is)
    (case cR => first | k_is | kx_is)
    (case cG => first | k_is | kx_is)
    (case cM => first | k_is | kx_is)
    (case pg => first | k_is | kx_is)
    (case hd => first | k_is | kx_is)
    (case po => first | k_is | kx_is)
    (case sa => first | k_is | kx_is)
    (case mk => first | k_is | kx_is)
    (case kc => first | k_is | kx_is)
    (case n0 => first | k_is | kx_is)
    (case n1 => first | k_is | kx_is)
    (case n2 => first | k_is | kx_is)
    (case n3 => first | k_is | kx_is)
    (case kca => first | k_is | kx_is)
    (case kob => first | k_is | kx_is)
    (case sg => first | k_is | kx_is)
    (case st => first | k_is | kx_is)
    (case aMinit => first | k_is | kx_is)
    (case iMinit => first | k_is | kx_is)
    (case lMinit => first | k_is | kx_is)
    (case cMinit => first | k_is | kx_is)
    (case kMinit => first | k_is | kx_is)
    (case aMpath => first | k_is | kx_is)
    (case iMpath => first | k_is | kx_is)
    (case lMpath => first | k_is | kx_is)
    (case cMpath => first | k_is | kx_is)
    (case kMpath => first | k_is | kx_is)
    (case aMsize => first | k_is | kx_is)
    (case gMsize => first | k_is | kx_is)
    (case tMsize => first | k_is | kx_is)
    (case rMsizeh => first | k_is | kx_is)
    (case lMsize => first | k_is | kx_is)
    (case cMsize => first | k_is | kx_is)
    (case kMsize => first | k_is | kx_is)
    (case aMof => first | k_is | kx_is)
    (case rMofh => first | k_is | kx_is)
    (case iMof => first | k_is | kx_is)
    (case lMof => first | k_is | kx_is)
    (case cMof => first | k_is | kx_is)
    (case kMof => first | k_is | kx_is)
    (case aMneighbours => first | k_is | kx_is)
    (case iMneighbours => first | k_is | kx_is)
    (case lMneighbours => first | k_is | kx_is)
    (case cMneighbours => first | k_is | kx_is)
    (case kMneighbours => first | k_is | kx_is)
    (case z_RuntimeError => first | k_is | kx_is)
    (case z_ValueError => first | k_is | kx_is)
    (case z_LookupError => first | k_is | kx_is)
    (case z_len => first | k_is | kx_is)
    (case z_isinstance => first | k_is | kx_is)
    (case z_int => first | k_is | kx_is)
    (case z_bool => first | k_is | kx_is)
    (case z_tuple => first | k_is | kx_is)
    (case z_list => first | k_is | kx_is)
    (case z_sorted => first | k_is | kx_is)
    (case z_min => first | k_is | kx_is)
    (case z_max => first | k_is | kx_is)
    (case z_range => first | k_is | kx_is)
    (case z_enumerate => first | k_is | kx_is)
    (case z_repr => first | k_is | kx_is)
    (case z_set => first | k_is | kx_is)
    (case z_all => first | k_is | kx_is)
    (case z_any => first | k_is | kx_is)
    (case z_zip => first | k_is | kx_is)
    (case z_str => first | k_is | kx_is)
    (case xCR => first | k_is | kx_is)
    (case xCU => first | k_is | kx_is)
    (case xCM => first | k_is | kx_is)
    (case xaInvalidStanding => first | k_is | kx_is)
    (case xiInvalidStanding => first | k_is | kx_is)
    (case xlInvalidStanding => first | k_is | kx_is)
    (case xcInvalidStanding => first | k_is | kx_is)
    (case xkInvalidStanding => first | k_is | kx_is)
    (case xzInvalidStanding => constructor <;> first | k_is | kx_is)
    (case xeInvalidStanding => kts_exm)
    (case xaInvalidLength => first | k_is | kx_is)
    (case xiInvalidLength => first | k_is | kx_is)
    (case xlInvalidLength => first | k_is | kx_is)
    (case xcInvalidLength => first | k_is | kx_is)
    (case xkInvalidLength => first | k_is | kx_is)
    (case xzInvalidLength => constructor <;> first | k_is | kx_is)
    (case xeInvalidLength => kts_exm)
    (case xaInvalidMove => first | k_is | kx_is)
    (case xiInvalidMove => first | k_is | kx_is)
    (case xlInvalidMove => first | k_is | kx_is)
    (case xtInvalidMove => first | k_is | kx_is)
    (case xcInvalidMove => first | k_is | kx_is)
    (case xkInvalidMove => first | k_is | kx_is)
    (case xzInvalidMove => constructor <;> first | k_is | kx_is)
    (case xeInvalidMove => kts_exm)
    (case xaBlocked => first | k_is | kx_is)
    (case xiBlocked => first | k_is | kx_is)
    (case xlBlocked => first | k_is | kx_is)
    (case xcBlocked => first | k_is | kx_is)
    (case xkBlocked => first | k_is | kx_is)
    (case xzBlocked => constructor <;> first | k_is | kx_is)
    (case xeBlocked => kts_exm)
    (case aENDS => first | k_is | kx_is)
    (case lENDS => first | k_is | kx_is)
    (case xCIP => first | k_is | kx_is)
    (case xCIS => first | k_is | kx_is)
    (case y0InvalidStanding => first | kernel_rfl | k_is | kx_is)
    (case y1InvalidStanding => first | kernel_rfl | k_is | kx_is)
    (case y2InvalidStanding => first | kernel_rfl | k_is | kx_is)
    (case y3InvalidStanding => first | kernel_rfl | k_is | kx_is)
    (case ytInvalidStanding => first | kernel_rfl | k_is | kx_is)
    (case yVInvalidStanding => first | kernel_rfl | k_is | kx_is)
    (case yRInvalidStanding => first | kernel_rfl | k_is | kx_is)
    (case yLInvalidStanding => first | kernel_rfl | k_is | kx_is)
    (case y0InvalidLength => first | kernel_rfl | k_is | kx_is)
    (case y1InvalidLength => first | kernel_rfl | k_is | kx_is)
    (case y2InvalidLength => first | kernel_rfl | k_is | kx_is)
    (case y3InvalidLength => first | kernel_rfl | k_is | kx_is)
    (case ytInvalidLength => first | kernel_rfl | k_is | kx_is)
    (case yVInvalidLength => first | kernel_rfl | k_is | kx_is)
    (case yRInvalidLength => first | kernel_rfl | k_is | kx_is)
    (case yLInvalidLength => first | kernel_rfl | k_is | kx_is)
    (case y0InvalidMove => first | kernel_rfl | k_is | kx_is)
    (case y1InvalidMove => first | kernel_rfl | k_is | kx_is)
    (case y2InvalidMove => first | kernel_rfl | k_is | kx_is)
    (case y3InvalidMove => first | kernel_rfl | k_is | kx_is)
    (case ytInvalidMove => first | kernel_rfl | k_is | kx_is)
    (case yVInvalidMove => first | kernel_rfl | k_is | kx_is)
    (case yRInvalidMove => first | kernel_rfl | k_is | kx_is)
    (case yLInvalidMove => first | kernel_rfl | k_is | kx_is)
    (case y0Blocked => first | kernel_rfl | k_is | kx_is)
    (case y1Blocked => first | kernel_rfl | k_is | kx_is)
    (case y2Blocked => first | kernel_rfl | k_is | kx_is)
    (case y3Blocked => first | kernel_rfl | k_is | kx_is)
    (case ytBlocked => first | kernel_rfl | k_is | kx_is)
    (case yVBlocked => first | kernel_rfl | k_is | kx_is)
    (case yRBlocked => first | kernel_rfl | k_is | kx_is)
    (case yLBlocked => first | kernel_rfl | k_is | kx_is)
    (case ysInvalidStanding => first | kernel_rfl | k_is | kx_is)
    (case ysInvalidLength => first | kernel_rfl | k_is | kx_is)
