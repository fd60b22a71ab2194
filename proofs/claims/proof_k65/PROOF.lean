import PyProof.Rows.All
import Wide.All
import OpenK.AllK
import Wide.FinOn
import PyProof.EqAt
import PyProof.EqKinds
import PyProof.TupleCall
import PyProof.ReprRoads
import HandS.ForMost
import HandS.ForExc
import HandS.ExcInit
import HandS.ExcValue
import HandS.ExcIs
import HandS.IsInst
import HandS.Wide
import HandS.Ends
import HandS.TupSets
import HandS.SetFor
import HandS.SetTxt0
import KE.SortData
import HandS.Strs
import KE.GoesEnum
import KE.GoesMore
import HandS.Iter
import KE.DataCmp
import HandS.WordsExc
import HandS.Property
import HandS.Lambda
import HandS.RaiseMore
import HandS.EndTab
import HandS.NestedK
import PyProof.NeKinds
import HandS.Nested
import HandS.DictComp
import HandS.More
import HandS.Style
import HandS.TupAny
import HandS.OwnEq
import PyProof.InstNe
import HandS.Zip
import HandS.GenList
import HandS.ListItems
import KE.KDictZip
import KE.KItemsList
import PyProof.TupleIter
import HandS.Walk
import KE.KUnpackStar
import KE.GoesEnumKw
import HandS.TryOnly
import KE.GoesZip
import PyProof.EvalArms
import HandS.Star
import HandS.Text
import HandS.Conv
import HandS.Steps
import HandS.FStr
import HandS.FStrTup
import PyProof.StrLawsRepr
import PyProof.ReprLen
import PySem.Challenge.RW_quietturns_k65_runs_as_texts
set_option Elab.async false
set_option linter.all false
set_option maxRecDepth 100000
set_option maxHeartbeats 4000000
/-! Rules of our own over the hand layer: powers, calls where no display is under way, exceptions as values, repr of data. -/
namespace Q
open PySem PySem.Spec PyProof.Rows L2

/-! ### powers of greater numbers -/
def CPw (i j : Int) : Prop :=
  0 ≤ j ∧ ∃ m : Nat, i.natAbs < 2 ^ m ∧ (m : Int) * j ≤ 134217728
theorem op_pw {X : Cx} : OpR X (binaryOp .Pow) (rI CPw fun i j => .int (i ^ j.toNat)) :=
  opI fun i j _ _ _ _ _ hc q => by
    obtain ⟨h0, m, hm, hj⟩ := hc
    refine pow_int h0 ?_ q
    have b : Builtin.Int.intBits i ≤ m := PyProof.Rows.intBits_le hm
    have c : (Builtin.Int.intBits i : Int) * j ≤ (m : Int) * j :=
      Int.mul_le_mul_of_nonneg_right (by omega) h0
    exact Int.le_trans c hj

/-! ### defs that are called while no display is under way -/
structure FnG (P : Program) (w : World) (K : PySem.W.Frag) (mg : Str → Option Value)
    (base : Heap) (CX : CXT) (k : Nat) (f : Addr) (fd : FuncData) (ps : List Str) (sp : Sp) : Prop where
  len : ∀ vs H Q E, sp vs H Q E → vs.length = ps.length
  go : ∀ (A : Around) (outer : List Env) (s : Shared) (H : Hp) (args : Args) (us : List Value)
    (vs : List V) (Q : VK) (E : XK), A.guards = some [] → Room k A →
    Env0 P w K mg base A outer s H → BindsTo s fd args (ps.zip us) → Vals vs us → sp vs H Q E →
    codeAny (model P w) A (.call (.ref f) args) (CR CX outer P w H s Q E) s
section
variable {P : Program} {w : World} {K : PySem.W.Frag} {mg : Str → Option Value}
  {base : Heap} {CX : CXT} {k : Nat} {f : Addr} {fd : FuncData} {ps : List Str} {sp : Sp}
theorem FnG.of (F : FnOk P w K mg base CX k f fd ps sp) : FnG P w K mg base CX k f fd ps sp :=
  ⟨F.len, fun A o s H a us vs Q E _ => F.run A o s H a us vs Q E⟩
theorem FnG.mono {j : Nat} (F : FnG P w K mg base CX j f fd ps sp) (h : j ≤ k) :
    FnG P w K mg base CX k f fd ps sp :=
  ⟨F.len, fun A o s H a us vs Q E hg hr => F.go A o s H a us vs Q E hg (hr.mono h)⟩

/-- the rule for a def by its body, as fn_of, with the guards known -/
theorem fng_of {name qual : Str} {params : Arguments} {body : List Stmt} {scope : Scope}
    {dV kV doc pm cdv ct oc : Value} {an od : Option Addr} {osl : Array (Option Value)} {N : List Str}
    (lk : K.lookup f = some ⟨oc, od,
      .func (PySem.W.fnOf name qual params body scope dV kV doc pm an cdv ct), osl⟩)
    (hcd : PySem.W.codeIn K cdv qual = true) (S : FnScope N ps scope)
    (len : ∀ vs H Q E, sp vs H Q E → vs.length = ps.length)
    (hbody : ∀ (A : Around) (outer : List Env) (s : Shared) (H : Hp) (vs : List V) (Q : VK) (E : XK),
      A.guards = some [] → Room k (A.deeper (envOfC qual scope s.heap.objs.size f cdv)) → sp vs H Q E →
      ∃ t, PSs (cxOf CX P w K mg base N qual scope f cdv A outer s H E) body t ∧
        t { nx := fun _ H' => Q .non H', rt := Q } (start N vs) H) :
    FnG P w K mg base CX (k + 1) f
      (PySem.W.fnOf name qual params body scope dV kV doc pm an cdv ct) ps sp := by
  refine ⟨len, ?_⟩
  intro A outer s H args us vs Q E hgd hr e0 hb rv hsp
  have hlen := len _ _ _ _ hsp
  have inB : ∀ b o, base.get? b = some o → s.heap.get? b = some o := fun b o e => (e0.bs b o e).1
  have KX : K.In s.heap := e0.mod.kin.keeps inB
  have kinds : ∀ y ∈ ps.zip us, scope.names.lookup y.1 = some .local ∨
      (scope.names.lookup y.1 = some .cell ∧
        ((cellsFrom (s.heap.objs.size + 1) scope.names []).lookup y.1).isSome = true) := by
    rintro ⟨n, v⟩ hy
    cases S.par n (List.of_mem_zip hy).1 with
    | inl q => exact .inl q
    | inr q => exact .inr ⟨q, PySem.W.cellsFrom_some _ _ _ (.inl q)⟩
  refine codeAny_call_function hr.depth (KX _ _ lk) rfl S.co S.gen rfl
    (PySem.W.codeRec_of KX hcd) (hb _ _ _ _ ?_)
  refine wpAny_newFunctionEnv_cells S.kind kinds ?_
  intro env he s1 x
  subst he
  refine ⟨(e0.mod.nolimit.keeps inB).keeps x.toInCall.keep, codeAny_func ?_⟩
  obtain ⟨t, ht, hq⟩ := hbody A outer s H vs Q E hgd (hr.deeper _) hsp
  have I := inv_start (CX := CX) (E := E) S hr.hd e0 hlen rv x
  refine wpAny_mono (ht.run [] s1 (start N vs) H _ I hq) ?_ (fun _ _ z => z)
  intro fl s' hs
  cases fl with
  | ret u =>
    obtain ⟨v, σ', H', J, r', q⟩ := hs
    exact ⟨v, H', J.os, J.bare, J.base, J.hok, r', q⟩
  | next =>
    obtain ⟨σ', H', J, q⟩ := hs
    exact ⟨.non, H', J.os, J.bare, J.base, J.hok, rfl, q⟩
  | brk => exact hs.elim fun _ z => z.elim fun _ z => z.2.elim
  | cont => exact hs.elim fun _ z => z.elim fun _ z => z.2.elim

/-- as Fun.ok -/
theorem okG {x qual : Str} {st : Stmt} {N : List Str} (F : Fun K x qual st f fd)
    (S : FnScope N ps (defScope st)) (len : ∀ vs H Q E, sp vs H Q E → vs.length = ps.length)
    (hbody : ∀ (cdv : Value) (A : Around) (outer : List Env) (s : Shared) (H : Hp) (vs : List V)
      (Q : VK) (E : XK), A.guards = some [] →
      Room k (A.deeper (envOfC qual (defScope st) s.heap.objs.size f cdv)) → sp vs H Q E →
      ∃ t, PSs (cxOf CX0 P w K mg base N qual (defScope st) f cdv A outer s H E).nox (defBody st) t ∧
        t { nx := fun _ H' => Q .non H', rt := Q } (start N vs) H) :
    FnG P w K mg base CX0 (k + 1) f fd ps sp := by
  obtain ⟨oc, od, kV, doc, pm, an, cdv, ct, osl, rfl, lk, hcd⟩ := F.ex
  refine fng_of lk hcd S len ?_
  intro A outer s H vs Q E hgd hr hsp
  obtain ⟨t, h, q⟩ := hbody cdv A outer s H vs Q E hgd hr hsp
  exact ⟨t, h.nox, q⟩
end

section
variable {X : Cx} {CX : CXT} {k : Nat} {f : Addr} {fd : FuncData} {ps : List Str} {sp : Sp}
  {dvs : List V} {ds : List Value} {E : XK} {x : Str} {p pos : Pos} {e : Expr} {es : List Expr} {t : TA}
theorem run_g {pins : List (Addr × Obj)} {σ : L2.St} {H : Hp} {s : Shared} {Q : VK} {us : List Value}
    {vs : List V} (F : FnG X.prog X.w X.K X.mg X.base CX k f fd ps sp) (hgd : X.A.guards = some [])
    (hr : Room k X.A) (hb : Binds X.K fd ps ds) (hd : Vals dvs ds) (hx : Passes CX X E)
    (I : Inv X pins σ H s) (r : Vals vs us) (h : sp (vs ++ dvs) H Q E) :
    wpAny (model X.prog X.w) X.A (call (.ref f) us) (EP X pins σ Q) X.xe s := by
  have r2 := r.append hd
  have hl : (us ++ ds).length = ps.length := r2.length.symm.trans (F.len _ _ _ _ h)
  have c := F.go X.A X.stack s H ⟨us, []⟩ (us ++ ds) (vs ++ dvs) Q E hgd hr I.env0 (hb s us I.kIn hl) r2 h
  refine wpAny_call (codeAny_mono c ?_)
  intro r s' hq
  match r, hq with
  | .error er, hq => exact hx pins σ H s er s' I hq
  | .ok (.ret u), hq => exact I.after hq
/-- f(e, ..) -/
theorem pe_callG (F : FnG X.prog X.w X.K X.mg X.base CX k f fd ps sp) (hgd : X.A.guards = some [])
    (hr : Room k X.A) (hg : Gl X x) (hm : X.mg x = some (.ref f))
    (hk : PySem.W.keepIn X.K (.ref f) = true) (hb : Binds X.K fd ps ds) (hd : Vals dvs ds)
    (hx : Passes CX X E) (ha : PA X (e :: es) t) (hdb : (x == ("__debug__" : Str)) = false := by decide)
    (he : starEach (e :: es) X.env = (false, eval e X.env) :: starEach es X.env := by rfl)
    (hpl : (backTo pos (starEach es X.env)).any (·.1) = false := by rfl) :
    PE X (.Call (.Name x p) (e :: es) [] pos) (tCall sp dvs E t) := by
  constructor
  intro pins s σ H Q I h
  refine wpAny_Call_Name_kw (ld_glob I hg hm ?_ hdb)
  refine PySem.W.callWith_K (h₀ := X.base) I.ok.mod.kin hk ?_ he hpl
  refine thn (ha.run pos pins s σ H _ I h) ?_
  rintro us s1 ⟨vs, H1, I1, r, q⟩
  exact ⟨I1.kIn, run_g F hgd hr hb hd hx I1 r q⟩
end
end Q
set_option Elab.async false
set_option linter.all false
set_option maxRecDepth 100000
set_option maxHeartbeats 4000000
namespace Q
open PySem PySem.Spec PyProof.Rows L2

/-! ### the law's call, its promise under known guards -/
section
variable {P : Program} {w : World} {K : PySem.W.Frag} {mg mb : Str → Option Value} {k : Nat}
  {fa a : Addr} {fd : FuncData} {x : Str} {sp : Sp} {s₁ : Shared} {vs : List Value} {ns : List Int}
abbrev LawEnd (s₁ : Shared) : Result → Shared → Prop := fun r s' =>
  r = .ok (.ret (.bool true)) ∧ OldK s₁.heap s'.heap ∧ s'.os = s₁.os ∧ AllBare s'.gens
theorem law_core (KX : K.In s₁.heap) (hns : s₁.heap.Ns mainGlobals mg) (hb : s₁.heap.Ns builtinsNs mb)
    (hbb : ∀ x : Str, x ≠ "__name__" → mb x = bootBuiltins x) (hlim : s₁.heap.NoLimit)
    (hg : s₁.gens = #[])
    (ha : s₁.heap.get? a = some { cls := .type "list", data := .seq vs.toArray }) (hr : Room k callerA)
    (F : ∀ base : Heap, K.In base → base.Ns mainGlobals mg → FnG P w K mg base CX0 k fa fd [x] sp)
    (hbind : ∀ (s : Shared) (u : Value), BindsTo s fd ⟨[u], []⟩ [(x, u)])
    (H : Hp) (hO : Only H) (hS : sp [.ref a] H (fun v _ => v = .bl true) fun _ _ _ => False)
    (hok : HOk P w H s₁.heap) (hA : ∀ b, H b ≠ none → b = a) (hK : H a ≠ none → K.lookup a = none) :
    codeAny (model P w) callerA (.call (.ref fa) ⟨[.ref a], []⟩) (LawEnd s₁) s₁ := by
  have only_a : ∀ {b : Addr}, b ≠ a → H b = none := fun {b} ne => by
    cases q : H b with
    | none => rfl
    | some u => exact absurd (hA b (by rw [q]; exact nofun)) ne
  have dict_free : ∀ {b o es ep}, s₁.heap.get? b = some o → o.data = Data.dict es ep → H b = none := by
    intro b o es ep e d
    refine only_a ?_
    rintro rfl
    rw [ha] at e
    cases e
    cases d
  have ns_free : ∀ {b m}, s₁.heap.Ns b m → (hidT s₁.heap H).Ns b m := by
    rintro b m ⟨o, es, ep, e, d, r⟩
    exact ⟨o, es, ep, hidT_get e (dict_free e d), d, r⟩
  have k_free : ∀ {b o}, K.lookup b = some o → H b = none := by
    intro b o e
    cases q : H b with
    | none => rfl
    | some u =>
      have nn : H b ≠ none := by rw [q]; exact nofun
      cases hA b nn
      rw [hK nn] at e
      cases e
  have kin : K.In (hidT s₁.heap H) := fun b o e => hidT_get (KX b o e) (k_free e)
  obtain ⟨mc, l1, l2⟩ := hlim
  have md : Mod K mg (hidT s₁.heap H) :=
    { kin := kin, glob := ns_free hns, blt := ⟨mb, ns_free hb, hbb⟩, nolimit := ⟨mc, ns_free l1, l2⟩ }
  have e0 : Env0 P w K mg (hidT s₁.heap H) callerA [] s₁ H :=
    ⟨rfl, md, fun b o e => of_hidT e, Nat.le_of_eq (hidT_size _ _), trivial,
      fun b z => absurd (show b ∈ ([] : List Addr) from z) List.not_mem_nil, hok, .of_eq hg⟩
  have run := (F _ kin (ns_free hns)).go callerA [] s₁ H ⟨[.ref a], []⟩ [.ref a] [.ref a] _ _ rfl hr e0
    (hbind s₁ (.ref a)) (.cons rfl .nil) hS
  refine codeAny_mono run ?_
  intro r s' h
  match r, h with
  | .error e, h => exact False.elim h
  | .ok (.ret u), ⟨v, H', os, bare, un, hok', r', q⟩ =>
    subst q
    obtain rfl : u = Value.bool true := r'
    refine ⟨rfl, OldK.of_keep ?_, os, bare⟩
    intro b o e
    cases q : H b with
    | none =>
      refine un.keep b o e q (fun z => ?_) List.not_mem_nil
      exact absurd (show b ∈ ([] : List Addr) from z) List.not_mem_nil
    | some u =>
      cases hO b with
      | inl z => rw [q] at z; cases z
      | inr z =>
        obtain ⟨ob, xs, z⟩ := z
        have e2 := (hok' b _ (un.frzs b ob _ z)).1
        have e1 := (hok b _ z).1
        rw [e] at e1
        cases e1
        exact e2

theorem law_callG (KX : K.In s₁.heap) (hns : s₁.heap.Ns mainGlobals mg) (hb : s₁.heap.Ns builtinsNs mb)
    (hbb : ∀ x : Str, x ≠ "__name__" → mb x = bootBuiltins x) (hlim : s₁.heap.NoLimit)
    (hg : s₁.gens = #[])
    (ha : s₁.heap.get? a = some { cls := .type "list", data := .seq vs.toArray }) (hi : IntsAre vs ns)
    (hl : ns.length ≤ sizeLine) (hr : Room k callerA)
    (F : ∀ base : Heap, K.In base → base.Ns mainGlobals mg → FnG P w K mg base CX0 k fa fd [x] sp)
    (hbind : ∀ (s : Shared) (u : Value), BindsTo s fd ⟨[u], []⟩ [(x, u)])
    (hsp : ∀ H : Hp, Only H → SqL K H a (ns.map V.int) →
      sp [.ref a] H (fun v _ => v = .bl true) fun _ _ _ => False) :
    codeAny (model P w) callerA (.call (.ref fa) ⟨[.ref a], []⟩) (LawEnd s₁) s₁ := by
  have rv := vals_ints hi
  have lenV := hi.length
  cases hk : K.lookup a with
  | some o =>
    have e := KX a o hk
    rw [ha] at e
    cases e
    have hN : Only (fun _ => none) := fun _ => .inl rfl
    have hS : SqL K (fun _ => none) a (ns.map V.int) := by
      refine .inr ⟨_, vs.toArray, _, hk, rfl, rfl, rfl, ?_, by simpa using rv⟩
      rw [List.size_toArray, lenV]
      exact hl
    exact law_core KX hns hb hbb hlim hg ha hr F hbind _ hN (hsp _ hN hS) (fun _ _ z => nomatch z)
      (fun _ z => absurd rfl z) (fun z => absurd rfl z)
  | none =>
    let ob : Obj := { cls := .type "list", data := .seq vs.toArray }
    let H : Hp := fun b => if b = a then some (.frz ob (.lst (ns.map V.int))) else none
    have at_a : H a = some (.frz ob (.lst (ns.map V.int))) := if_pos rfl
    have off : ∀ b, b ≠ a → H b = none := fun b z => if_neg z
    have hN : Only H := fun b => by
      by_cases z : b = a
      · rw [z]; exact .inr ⟨_, _, at_a⟩
      · exact .inl (off b z)
    have hok : HOk P w H s₁.heap := fun b u e => by
      by_cases z : b = a
      · rw [z, at_a] at e
        cases e
        rw [z]
        exact ⟨ha, by rw [List.length_map]; exact hl, vs, _, rv, ha⟩
      · rw [off b z] at e
        cases e
    refine law_core KX hns hb hbb hlim hg ha hr F hbind H hN (hsp H hN (.inl (.inr ⟨ob, at_a⟩))) hok ?_ ?_
    · intro b z
      by_cases q : b = a
      · exact q
      · exact absurd (off b q) z
    · exact fun _ => hk
end

/-- the goal that the head leaves, from the law's promise -/
theorem walkG {l : PySem.W.OpenLaw} {n k : Nat} {q : Program} {loose : List Str}
    {XP : (Str → Option Value) → Heap → Prop} {YP : World → Heap → Prop} {d : DefRec}
    {K : Params → PySem.W.Frag} {sp : PySem.W.Frag → Sp} {x : Str} (hn : l.most = some n)
    (hn2 : n ≤ sizeLine) (hdf : d.params.defaults = []) (hr : Room k callerA)
    (hY : ∀ (w : World) (h : Heap), YP w h → (K w.params).In h)
    (F : ∀ (w : World) (mg : Str → Option Value) (fa : Addr) (h : Heap), (K w.params).In h →
      h.Ns mainGlobals mg → mg d.name = some (.ref fa) →
      ∃ fd : FuncData, (∀ (s : Shared) (u : Value), BindsTo s fd ⟨[u], []⟩ [(x, u)]) ∧
        ∀ base : Heap, (K w.params).In base → base.Ns mainGlobals mg →
          FnG l.prog w (K w.params) mg base CX0 k fa fd [x] (sp (K w.params)))
    (hsp : ∀ (K : PySem.W.Frag) (H : Hp) (a : Addr) (ns : List Int), ns.length ≤ n → Only H →
      SqL K H a (ns.map V.int) → sp K [.ref a] H (fun v _ => v = .bl true) fun _ _ _ => False) :
    PySem.W.WalkO q loose XP YP l.row.toRowW d [] (fun f vs => PySem.call f vs) := by
  refine Att.attach_call hn hdf ?_
  intro w s₀ s₁ mg mb fa o pm cd doc a vs ns G Y ho hd hcd hmg hobj hints hlen hg
  have KX := hY w _ Y
  obtain ⟨fd, hb, hF⟩ := F w mg fa _ KX G.T.g hmg
  exact law_callG KX G.T.g G.T.b G.T.builtins G.T.nolimit hg hobj hints (Nat.le_trans hlen hn2) hr hF hb
    (fun H hO hS => hsp _ H a ns hlen hO hS)
end Q
set_option Elab.async false
set_option linter.all false
set_option maxRecDepth 100000
set_option maxHeartbeats 4000000
namespace Q
open PySem PySem.Spec PyProof.Rows L2

/-! ### exceptions as values -/
/-- an exception of the class C at a, its own dict at d; raised or not -/
def exv (a C : Addr) (d : Option Addr) : HO :=
  .ext fun h => ∃ oe : Obj, h.get? a = some oe ∧ Zc (.ref C) d oe ∧ ∃ vs, oe.data = .fields vs
theorem exv_ok {P : Program} {w : World} {H : Hp} {h : Heap} {a C : Addr} {d : Option Addr} {oe : Obj}
    (e : h.get? a = some oe) (z : Zc (.ref C) d oe) (f : ∃ vs, oe.data = .fields vs) :
    ObjOk P w H h a (exv a C d) :=
  ⟨⟨oe, e, z, f⟩, ⟨oe, e⟩, fun _ _ ⟨o, q, r⟩ k => ⟨o, k o q, r⟩⟩
/-- the object -/
def ErrO (H : Hp) (a C : Addr) (d : Option Addr) : Prop := H a = some (exo a C d) ∨ H a = some (exv a C d)
/-- its dict -/
def ErrD (H : Hp) (d : Addr) (fs : List (Str × V)) : Prop := H d = some (exd d fs) ∨ H d = some (.xd fs)
/-- an exception of C with these attributes -/
def ErrAt (H : Hp) (a C : Addr) (fs : List (Str × V)) : Prop := ∃ d, ErrO H a C (some d) ∧ ErrD H d fs

section
variable {X : Cx} {pins : List (Addr × Obj)} {σ : L2.St} {H : Hp} {s : Shared} {a C d : Addr}
theorem ErrO.get {d : Option Addr} (I : Inv X pins σ H s) (e : ErrO H a C d) :
    ∃ oe : Obj, s.heap.get? a = some oe ∧ Zc (.ref C) d oe ∧ ∃ vs, oe.data = .fields vs := by
  rcases e with e | e
  · obtain ⟨t1, q⟩ := exo_at I.hok e
    exact ⟨_, q, ⟨rfl, rfl⟩, _, rfl⟩
  · exact (I.hok a _ e).1
theorem ErrD.get {fs : List (Str × V)} (I : Inv X pins σ H s) (e : ErrD H d fs) :
    ∃ mA, s.heap.Ns1 d mA ∧ ∀ f, RelO (fs.lookup f) (mA f) := by
  rcases e with e | e
  · exact exd_at I.hok e
  · exact I.hok d _ e
end

/-- isinstance asks an exception's class rightly, whatever its own dict -/
theorem kitx_err {K : PySem.W.Frag} {x D : Addr} {ox : Obj} {od : Option Obj} (c : ExcC K D) :
    PySem.W.KitX K (.ref x) (.ref D) (fun h => PySem.W.InstAt h x ox D od) := by
  have c1 := PySem.W.handS_kitx_exc (x := x) (ox := ox) c.hg c.hk c.hs c.hd c.ha c.hn c.ht c.hm
  refine ⟨fun _ _ _ I => I.type, ?_, ?_, ?_⟩
  · intro M h KX _
    obtain ⟨cdD, hcD, _⟩ := PySem.W.any_some c.hd
    unfold PySem.W.clsIn at hcD
    split at hcD
    · rename_i ho
      intro A' Q' E' s' k q
      unfold isType loadHead
      exact wpAny_bind (wpAny_loadPart (k _ _ (KX _ _ ho)) (wpAny_pure q))
    · cases hcD
  · intro h tp dd its n sl KX htp
    refine beq_eq_false_iff_ne.mpr fun q => ?_
    cases q
    obtain ⟨cdD, hcD, _⟩ := PySem.W.any_some c.hd
    unfold PySem.W.clsIn at hcD
    split at hcD
    · rename_i ho
      cases (KX _ _ ho).symm.trans htp
    · cases hcD
  · intro prog w A E Q s KX I h
    have isC : (PySem.W.clsIn K D).isSome = true := by
      obtain ⟨cd, hc, _⟩ := PySem.W.any_some c.hd
      rw [hc]
      rfl
    have hf : PySem.W.findObj K D od "__class__" =
        some (.bind (.builtin "getset_descriptor.__get__") (.builtin "object.__class__")) := by
      cases od with
      | none => exact PySem.W.findObj_dataN isC c.ha c.hn c.ht
      | some od => exact PySem.W.findObj_data isC c.ha c.hn c.ht
    obtain ⟨hp, g, d, t, os⟩ := s
    have L0 := I.type (M := model prog w)
    have LA := PySem.W.looks_findIn (M := model prog w) KX c.hg
    have LB := PySem.W.looks_findIn (M := model prog w) KX c.hk
    have LC := PySem.W.looks_find (M := model prog w) KX I hf
    have sub : PySem.W.Looks (model prog w) hp (isInstance (.ref x) (.type "BaseException")) true :=
      L0.andThen (PySem.W.looks_subIn KX c.hs)
    have hx0 : (false && onTheHeap (Value.builtin "BaseException.__getattribute__")) = false := rfl
    have hx2 : (Value.builtin "BaseException.__getattribute__" ==
        Value.builtin "object.__getattribute__") = false := by decide +kernel
    unfold getAttr? getAttrBy? getAttrBy
    refine wpAny_bind (wpAny_mkText (wpAny_bind (wpAny_attempt (wpAny_holding (wpAny_bind
      (L0.at (wpAny_bind (LA.at ?_))))))))
    refine PySem.W.KFB.if_not (by rw [hx2]; exact Bool.and_false _) ?_
    unfold getAttrByItsOwn hookBefore
    refine wpAny_bind ?_
    rw [if_pos (show onTheHeap (Value.ref D) = true from rfl)]
    refine LB.at (wpAny_bind (wpAny_attempt (wpAny_holding ?_)))
    unfold callGetattribute
    rw [hx0, if_neg Bool.false_ne_true]
    unfold boundAndCalled
    rw [PySem.F.excAttr_ValueError.ga.bind (.ref x)]
    refine wpAny_bind (wpAny_pure (wpAny_call (codeAny_call_builtin PySem.F.excAttr_ValueError.ga.plain
      PySem.F.entry_bexc_ga ?_)))
    refine @PySem.W.check_slot (model prog w) _ _ ⟨hp, g, d, t + 1, os⟩
      "BaseException.__getattribute__" "BaseException" "__getattribute__" (.ref x)
      [.str "__class__" t] [] _ (by decide +kernel) (by decide +kernel) sub
      (PySem.F.args_bexc_ga (.ref x) (.str "__class__" t)) ?_
    unfold Builtin.«object.__getattribute__»
    refine wpAny_bind (wpAny_of_eq (a := ((Value.ref x : Value), [Value.str "__class__" t]))
      (by first | rfl | (simp only [slotArgs]; rfl)) ?_)
    refine wpAny_bind (wpAny_pure (wpAny_bind (L0.at (wpAny_bind (LC.at (wpAny_bind (wpAny_holding
      (wpAny_call (PySem.W.class_get (s := ⟨hp, g, d, t + 1, os⟩) (ox := ox) (od := od) KX I c.hm ?_)))))))))
    refine wpAny_pure ?_
    show wpAny _ _ (handedOut (.ref D)) _ _ _
    rw [PySem.W.handedOut_of (v := .ref D) rfl]
    first
      | exact wpAny_pure (wpAny_pure h)
      | exact wpAny_pure h
      | exact wpAny_pure (wpAny_bind (wpAny_pure (wpAny_pure h)))
end Q
set_option Elab.async false
set_option linter.all false
set_option maxRecDepth 100000
set_option maxHeartbeats 4000000
namespace Q
open PySem PySem.Spec PyProof.Rows L2

/-- an exception of C, with a dict of its own or none -/
def ErrI (H : Hp) (a C : Addr) : Prop := ErrO H a C none ∨ ∃ fs, ErrAt H a C fs
theorem ErrAt.i {H : Hp} {a C : Addr} {fs : List (Str × V)} (e : ErrAt H a C fs) : ErrI H a C := .inr ⟨_, e⟩
theorem ErrO.mono {H H' : Hp} {a C : Addr} {d : Option Addr} (s : Same H H') (e : ErrO H a C d) : ErrO H' a C d :=
  e.imp (s _ _) (s _ _)
theorem ErrD.mono {H H' : Hp} {d : Addr} {fs : List (Str × V)} (s : Same H H') (e : ErrD H d fs) : ErrD H' d fs :=
  e.imp (s _ _) (s _ _)
theorem ErrAt.mono {H H' : Hp} {a C : Addr} {fs : List (Str × V)} (s : Same H H') (e : ErrAt H a C fs) :
    ErrAt H' a C fs := let ⟨d, o, q⟩ := e; ⟨d, o.mono s, q.mono s⟩
theorem ErrI.mono {H H' : Hp} {a C : Addr} (s : Same H H') (e : ErrI H a C) : ErrI H' a C :=
  e.imp (fun z => z.mono s) fun ⟨fs, z⟩ => ⟨fs, z.mono s⟩

section
variable {X : Cx} {pins : List (Addr × Obj)} {σ : L2.St} {H : Hp} {s : Shared} {a C : Addr}
theorem ErrI.inst (I : Inv X pins σ H s) (e : ErrI H a C) : ∃ oe od, PySem.W.InstAt s.heap a oe C od := by
  have nc : ∀ oe : Obj, (∃ vs, oe.data = .fields vs) → PySem.W.notCls oe = true := fun oe ⟨vs, hv⟩ => by
    unfold PySem.W.notCls
    rw [hv]
  rcases e with e | ⟨fs, d, e, ed⟩
  · obtain ⟨oe, ho, hz, hv⟩ := e.get I
    exact ⟨oe, none, ho, hz.1, nc oe hv, by rw [hz.2]; trivial⟩
  · obtain ⟨oe, ho, hz, hv⟩ := e.get I
    obtain ⟨mA, hn, _⟩ := ed.get I
    obtain ⟨od, hd, _⟩ := lookIn_ns hn
    exact ⟨oe, some od, ho, hz.1, nc oe hv, by rw [hz.2]; exact hd⟩
end

section
variable {X : Cx}
/-- isinstance of an exception -/
def rIsE (K : PySem.W.Frag) : List V → Hp → VK → Prop := fun xs H Q =>
  ∃ (a C : Addr) (c : V) (u : Value) (b : Bool), xs = [.ref a, c] ∧ ClsV c u ∧
    ErrI H a C ∧ ExcC K C ∧ PySem.W.kitOne K (.ref C) u = some b ∧ Q (.bl b) H
theorem call_isE : CallR X (.builtin "isinstance") (rIsE X.K) := by
  intro pins s σ H xs us Q I r h
  obtain ⟨a, C, c, u, b, rfl, k, eo, ec, e, q⟩ := h
  obtain ⟨u1, u2, rfl, r1, r2⟩ := vals2 r
  cases k.eq r2
  obtain rfl : u1 = Value.ref a := r1
  obtain ⟨oe, od, J⟩ := eo.inst I
  exact PySem.W.kia_one (kitx_err (ox := oe) (od := od) ec) I.kIn J e (fun z => nomatch z)
    (fun tk => ⟨.bl b, H, I.tok tk, rfl, q⟩)
/-- of any value -/
def rIsA (K : PySem.W.Frag) : List V → Hp → VK → Prop := fun xs H Q => rIsi K xs H Q ∨ rIsE K xs H Q
theorem call_isA : CallR X (.builtin "isinstance") (rIsA X.K) := by
  intro pins s σ H xs us Q I r h
  cases h with
  | inl h => exact call_isi pins s σ H xs us Q I r h
  | inr h => exact call_isE pins s σ H xs us Q I r h

/-- e.f of an exception -/
def tErrF (K : PySem.W.Frag) (f : Str) (te : TE) : TE := fun σ H Q => te σ H fun x H1 =>
  ∃ (a C : Addr) (fs : List (Str × V)) (v : V), x = .ref a ∧ ErrAt H1 a C fs ∧ ExcC K C ∧
    PySem.W.findIn K (.ref C) f = some none ∧ fs.lookup f = some v ∧ Q v H1
theorem pe_errf {e : Expr} {te : TE} {f : Str} {pos : Pos} (he : PE X e te)
    (hb : attributeBase e f X.env (eval e X.env) = eval e X.env := by rfl) :
    PE X (.Attribute e f pos) (tErrF X.K f te) := by
  constructor
  intro pins s σ H Q I h
  refine attr_of hb (thn (he.run pins s σ H _ I h) ?_)
  rintro u s1 ⟨x, H1, I1, rx, a, C, fs, v, rfl, ⟨d, eo, ed⟩, ec, hno, l, q⟩
  obtain rfl : u = Value.ref a := rx
  obtain ⟨oe, ho, hz, vs, hv⟩ := eo.get I1
  obtain ⟨mA, hns, hr⟩ := ed.get I1
  obtain ⟨od, hod, hl⟩ := lookIn_ns hns
  have hrf := hr f
  rw [l] at hrf
  obtain ⟨u, hu, ru⟩ := RelO.some_of hrf
  have J : PySem.W.InstAt s1.heap a oe C (some od) :=
    ⟨ho, hz.1, by unfold PySem.W.notCls; rw [hv], by rw [hz.2]; exact hod⟩
  have hf : PySem.W.findObj X.K C (some od) f = some (.value u) :=
    PySem.W.findObj_own ec.hd hno rfl (by rw [hl, hu])
  exact HandSPX.exc_get I1.kIn J ec.hg ec.hk ec.hs hf (handed_of ru) ⟨v, H1, I1.tok _, ru, q⟩

/-- C(e, ..), an own exception class with its own __init__, as a value -/
def tMkV (C : Addr) (sp : Sp) (dvs : List V) (ta : TA) : TE := fun σ H Q => ta σ H fun vs H1 =>
  vs.length ≤ 1000 ∧ ∀ a, H1 a = none → sp (.ref a :: (vs ++ dvs)) (upd H1 a (exo a C none))
    (fun v H2 => v = .non ∧ Q (.ref a) H2) (fun _ _ _ => False)
theorem pe_mkv {CX : CXT} {x : Str} {C fI : Addr} {k : Nat} {fd : FuncData} {ps : List Str} {sp : Sp}
    {ds : List Value} {dvs : List V} {e : Expr} {es : List Expr} {ta : TA} {p pos : Pos}
    (T : OexC X.K C) (iC : PySem.W.findIn X.K (.ref C) "__init__" = some (some (.ref fI)))
    (tI : PySem.W.typeIn X.K (.ref fI) = some (.type "function"))
    (F : FnOk X.prog X.w X.K X.mg X.base CX k fI fd ps sp) (hr : Room (k + 1) X.A)
    (hb : Binds X.K fd ps ds) (hd : Vals dvs ds) (hx : Passes CX X (fun _ _ _ => False))
    (hg : Gl X x) (hm : X.mg x = some (.ref C)) (ha : PA X (e :: es) ta)
    (hdb : (x == ("__debug__" : Str)) = false := by decide)
    (he : starEach (e :: es) X.env = (false, eval e X.env) :: starEach es X.env := by rfl)
    (hpl : (backTo pos (starEach es X.env)).any (·.1) = false := by rfl) :
    PE X (.Call (.Name x p) (e :: es) [] pos) (tMkV C sp dvs ta) := by
  constructor
  intro pins s σ H Q I h
  obtain ⟨nm, q, N, bs, bm, sn, sub, ab, col, dd, k0, k1, k2, k3, k5, hC, hbm⟩ := T.cls
  refine wpAny_Call_Name_kw (ld_glob I hg hm ?_ hdb)
  refine PySem.W.callWith_K (h₀ := X.base) I.ok.mod.kin T.kC ?_ he hpl
  refine thn (ha.run pos pins s σ H _ I h) ?_
  rintro us s1 ⟨vs, H1, I1, r1, hz, q1⟩
  refine ⟨I1.kIn, ?_⟩
  show wpAny _ _ (call (.ref C) us) _ _ _
  obtain ⟨hp, g, dr, tk, os⟩ := s1
  let a := hp.objs.size + 1
  let h2 : Heap := (hp.push (PySem.W.kdv_tup us)).push (PySem.HandSPX.excO C hp.objs.size)
  have hn : H1 a = none := I1.hok.fresh (Nat.le_succ _)
  have kk : ∀ b o, hp.get? b = some o → h2.get? b = some o := fun b o e =>
    Heap.get?_push_of_some _ (Heap.get?_push_of_some _ e)
  have hget : h2.get? a = some (PySem.HandSPX.excO C hp.objs.size) := by
    show ((hp.push _).push _).get? (hp.objs.size + 1) = _
    heap_get
  have I2 : Inv X pins σ (upd H1 a (exo a C none)) ⟨h2, g, dr, tk, os⟩ :=
    I1.laid (t' := tk) (a := a) (o := exo a C none) (h' := h2) kk (Nat.le_succ _) (exo_ok hget)
  have r2 : Vals (V.ref a :: (vs ++ dvs)) (Value.ref a :: (us ++ ds)) := .cons rfl (r1.append hd)
  have hq := q1 a hn
  have hl : (Value.ref a :: us ++ ds).length = ps.length := r2.length.symm.trans (F.len _ _ _ _ hq)
  have hus : us.length ≤ sizeLine := by
    rw [← Paired.length r1, sizeLine_eq]
    omega
  have run := F.run _ X.stack _ _ ⟨Value.ref a :: us, []⟩ (Value.ref a :: (us ++ ds)) _ _
    (fun _ _ _ => False) (hr.make C us []) (I2.env0.make C us [])
    (hb _ (Value.ref a :: us) I2.kIn hl) r2 hq
  refine wpAny_call (PySem.HandSPX.call_own PySem.F.excBase_ValueError
    (fun Y => PySem.HandSPX.refsVE_contains Y bm hbm) (I1.kIn _ _ hC)
    (PySem.W.looks_findIn I1.kIn iC) (fun self => PySem.W.bind_fn I1.kIn self tI) hus
    (codeAny_mono run ?_))
  intro r s' hq'
  match r, hq' with
  | .error er, hq' => exact hx pins σ _ _ er s' I2 hq'
  | .ok (.ret u), hq' =>
    obtain ⟨v, H2, J, rv, ev, q2⟩ := I2.after hq'
    subst ev
    exact ⟨rv, .ref a, H2, J, rfl, q2⟩
/-- C(), a class without its own __init__ -/
def tMk0 (C : Addr) : TE := fun _ H Q => ∀ a, H a = none → Q (.ref a) (upd H a (exv a C none))
theorem pe_mk0 {C : Addr} {bmB : List Value} {B newId initId : String} {x : Str} {p pos : Pos}
    (F : ExcBaseFacts B newId initId bmB) (q : PySem.W.excIn X.K C bmB newId = true)
    (gC : X.mg x = some (.ref C)) (kC : PySem.W.keepIn X.K (.ref C) = true) (hg : Gl X x)
    (hdb : (x == ("__debug__" : Str)) = false := by decide) :
    PE X (.Call (.Name x p) [] [] pos) (tMk0 C) := by
  constructor
  intro pins s σ H Q I h
  refine wpAny_Call_Name_kw (ld_glob I hg gC ?_ hdb)
  refine PySem.W.callWith_K0 I.kIn kC ?_
  show wpAny _ _ (call (.ref C) []) _ _ _
  obtain ⟨bm, N, nm, qn, bs, hdct, sn, sub, ab, col, dd, k0, k1, k2, k3, k5, mN, hC, hN, hni, T⟩ :=
    exc_obj I.kIn q
  refine wpAny_call_exc_subT F T hC hN hni ?_ (Nat.zero_le _)
  intro h' a hm
  have hn : H a = none := I.hok.gone hm.new
  obtain ⟨t, ht, _, _⟩ := hm.there
  exact ⟨.ref a, upd H a (exv a C none), I.laidN hm.keeps hm.new hn
    (exv_ok ht ⟨rfl, rfl⟩ ⟨_, rfl⟩), rfl, h a hn⟩
end
end Q
set_option Elab.async false
set_option linter.all false
set_option maxRecDepth 100000
set_option maxHeartbeats 4000000
namespace Q
open PySem PySem.Spec PyProof.Rows L2

/-! ### data in the heap, with dicts, and how repr writes it -/
mutual
inductive Rk (h : Heap) : Value → PyData → Prop
  | none : Rk h .none .none
  | bool (b : Bool) : Rk h (.bool b) (.bool b)
  | int (i : Int) (t : Tok) : Rk h (.int i t) (.int i)
  | str (x : Str) (t : Tok) : Rk h (.str x t) (.str x)
  | list {a : Addr} {o : Obj} {vs : Array Value} {n : Nat} {xs : List PyData} : h.get? a = some o →
      o.cls = .type "list" → o.data = .seq vs n → RkAll h vs.toList xs → Rk h (.ref a) (.list xs)
  | tuple {a : Addr} {o : Obj} {vs : Array Value} {n : Nat} {xs : List PyData} : h.get? a = some o →
      o.cls = .type "tuple" → o.data = .seq vs n → RkAll h vs.toList xs → Rk h (.ref a) (.tuple xs)
  | dict {a : Addr} {o : Obj} {es : Array DictEntry} {n : Nat} {kvs : List (PyData × PyData)} :
      h.get? a = some o → o.cls = .type "dict" → o.data = .dict es n → (a == sysModules) = false →
      RkAll h (es.toList.map (·.key)) (kvs.map (·.1)) → RkAll h (es.toList.map (·.val)) (kvs.map (·.2)) →
      Rk h (.ref a) (.dict kvs)
inductive RkAll (h : Heap) : List Value → List PyData → Prop
  | nil : RkAll h [] []
  | cons {v : Value} {vs : List Value} {d : PyData} {ds : List PyData} : Rk h v d → RkAll h vs ds →
      RkAll h (v :: vs) (d :: ds)
end
mutual
theorem Rk.reads {h : Heap} : ∀ {v : Value} {d : PyData}, Rk h v d → ∃ as, Reads h v d as
  | _, _, .none => ⟨_, .none⟩
  | _, _, .bool b => ⟨_, .bool b⟩
  | _, _, .int i t => ⟨_, .int i t⟩
  | _, _, .str x t => ⟨_, .str x t⟩
  | _, _, .list h1 h2 h3 h4 => let ⟨_, r⟩ := RkAll.reads h4; ⟨_, .list h1 h2 h3 r⟩
  | _, _, .tuple h1 h2 h3 h4 => let ⟨_, r⟩ := RkAll.reads h4; ⟨_, .tuple h1 h2 h3 r⟩
  | _, _, .dict h1 h2 h3 _ h4 h5 =>
    let ⟨_, r⟩ := RkAll.reads h4
    let ⟨_, q⟩ := RkAll.reads h5
    ⟨_, .dict h1 h2 h3 r q⟩
theorem RkAll.reads {h : Heap} : ∀ {v : List Value} {d : List PyData}, RkAll h v d → ∃ as, ReadsAll h v d as
  | _, _, .nil => ⟨_, .nil⟩
  | _, _, .cons a b =>
    let ⟨_, r⟩ := Rk.reads a
    let ⟨_, q⟩ := RkAll.reads b
    ⟨_, .cons r q⟩
end

section
variable {prog : Program} {w : World} {h₀ : Heap}
abbrev LenOk (x : Str) : Prop := x.length ≤ sizeLine
theorem lt_depth {n m : Nat} (e : m = n + 1) : n < m := by omega
mutual
theorem rk_shown : ∀ {v : Value} {d : PyData}, Rk h₀ v d → d.showable = true → LenOk d.shown →
    ∃ bs, ReadAtMost h₀ d.depth bs ∧ ReprK prog w bs h₀ d.depth v d.shown
  | _, _, .none, _, _ => ⟨[], nofun, by simp only [PyData.shown]; exact .of_is ReprIs.none _ _ _⟩
  | _, _, .bool b, _, _ => ⟨[], nofun, by simp only [PyData.shown]; exact .of_is (ReprIs.bool b) _ _ _⟩
  | _, _, .int i t, hs, _ => by
    have z : i.natAbs.log2 < 1920 := by simpa [PyData.showable] using hs
    exact ⟨[], nofun, by simp only [PyData.shown]; exact .of_is (ReprIs.int t z) _ _ _⟩
  | _, _, .str x t, _, hz => by
    simp only [PyData.shown] at hz ⊢
    exact ⟨[], nofun, .of_is (ReprIs.str x t hz) _ _ _⟩
  | _, _, .list (a := a) (vs := vs) (xs := xs) h1 h2 h3 h4, hs, hz => by
    have r : Rk h₀ (.ref a) (.list xs) := .list h1 h2 h3 h4
    obtain ⟨as, r⟩ := r.reads
    simp only [PyData.shown, PyData.showable] at hz hs
    obtain ⟨bs, hb, hk⟩ := rk_all h4 hs (fun t m => Nat.le_trans (listText_mem_le m) hz)
    have hna : a ∉ bs := not_mem_of_deeper r (lt_depth (by simp only [PyData.depth])) hb
    refine ⟨a :: bs, ReadAtMost.cons r (by simp only [PyData.depth]; omega) hb, ?_⟩
    simp only [PyData.depth, PyData.shown]
    obtain ⟨l⟩ := vs
    match l, h3, h4, hk with
    | [], h3, h4, _ =>
      cases (show RkAll h₀ [] xs from h4)
      simp only [PyData.shownAll, listText_nil]
      exact ReprK.listEmpty h1 h2 h3
    | x :: l, h3, h4, hk =>
      exact ReprK.list h1 h2 h3 hna (by simpa using hk.length_eq) (fun i y e => hk.item i y (by simpa using e))
  | _, _, .tuple (a := a) (xs := xs) h1 h2 h3 h4, hs, hz => by
    have r : Rk h₀ (.ref a) (.tuple xs) := .tuple h1 h2 h3 h4
    obtain ⟨as, r⟩ := r.reads
    simp only [PyData.shown, PyData.showable] at hz hs
    obtain ⟨bs, hb, hk⟩ := rk_all h4 hs (fun t m => Nat.le_trans (tupleText_mem_le m) hz)
    have hna : a ∉ bs := not_mem_of_deeper r (lt_depth (by simp only [PyData.depth])) hb
    refine ⟨a :: bs, ReadAtMost.cons r (by simp only [PyData.depth]; omega) hb, ?_⟩
    simp only [PyData.depth, PyData.shown]
    exact ReprK.tuple h1 h2 h3 hna hk
  | _, _, .dict (a := a) (es := es) (kvs := kvs) h1 h2 h3 hm h4 h5, hs, hz => by
    have r : Rk h₀ (.ref a) (.dict kvs) := .dict h1 h2 h3 hm h4 h5
    obtain ⟨as, r⟩ := r.reads
    simp only [PyData.shown, PyData.showable] at hz hs
    obtain ⟨s1, s2⟩ := PyData.showableKv_split kvs hs
    have le : ∀ p ∈ PyData.shownKv kvs, p.length ≤ sizeLine := fun p m => Nat.le_trans (dictText_mem_le m) hz
    obtain ⟨b1, hb1, k1⟩ := rk_all h4 s1 (fun t m =>
      let ⟨p, hp, hl⟩ := PyData.shownKv_key_le kvs t m; Nat.le_trans hl (le p hp))
    obtain ⟨b2, hb2, k2⟩ := rk_all h5 s2 (fun t m =>
      let ⟨p, hp, hl⟩ := PyData.shownKv_val_le kvs t m; Nat.le_trans hl (le p hp))
    have hb := (hb1.mono (PyData.depthAll_keys_le kvs)).append (hb2.mono (PyData.depthAll_vals_le kvs))
    have hna : a ∉ b1 ++ b2 := not_mem_of_deeper r (lt_depth (by simp only [PyData.depth])) hb
    refine ⟨a :: (b1 ++ b2), ReadAtMost.cons r (by simp only [PyData.depth]; omega) hb, ?_⟩
    simp only [PyData.depth, PyData.shown, PyData.shownKv_eq]
    have e1 := k1.more_le (fun b hb => List.mem_append_left b2 hb) (PyData.depthAll_keys_le kvs)
    have e2 := k2.more_le (fun b hb => List.mem_append_right b1 hb) (PyData.depthAll_vals_le kvs)
    exact ReprK.dict h1 h2 h3 hm hna (ReprEntriesK.of_two es.toList _ _ e1 e2)
theorem rk_all : ∀ {vs : List Value} {ds : List PyData}, RkAll h₀ vs ds → PyData.showableAll ds = true →
    (∀ t ∈ PyData.shownAll ds, LenOk t) → ∃ bs, ReadAtMost h₀ (PyData.depthAll ds) bs ∧
      ReprAllK prog w bs h₀ (PyData.depthAll ds) vs (PyData.shownAll ds)
  | _, _, .nil, _, _ => ⟨[], nofun, by simp only [PyData.shownAll]; exact .nil⟩
  | _, _, .cons (d := d) (ds := ds) r rs, hs, hz => by
    simp only [PyData.showableAll, Bool.and_eq_true] at hs
    simp only [PyData.shownAll] at hz ⊢
    obtain ⟨b1, hb1, k1⟩ := rk_shown r hs.1 (hz _ (List.mem_cons_self ..))
    obtain ⟨b2, hb2, k2⟩ := rk_all rs hs.2 (fun t m => hz t (List.mem_cons_of_mem _ m))
    simp only [PyData.depthAll]
    refine ⟨b1 ++ b2, (hb1.mono (Nat.le_max_left _ _)).append (hb2.mono (Nat.le_max_right _ _)), ?_⟩
    have e1 := (k1.more fun b hb => List.mem_append_left b2 hb).level_le (Nat.le_max_left d.depth (PyData.depthAll ds))
    exact .cons e1 (k2.more_le (fun b hb => List.mem_append_right b1 hb) (Nat.le_max_right _ _))
end

/-- repr(v) of data, no display under way -/
theorem repr_rk {A : Around} {E : Value → Shared → Prop} {s : Shared} {Q : Value → Shared → Prop} {v : Value}
    {d : PyData} (r : Rk s.heap v d) (hs : d.showable = true) (hz : LenOk d.shown) (hg : A.guards = some [])
    (hu : A.units + (d.depth + 1) < cLine)
    (hQ : ∀ h' u tk, (∀ b o, s.heap.get? b = some o → h'.get? b = some o) →
      Q (.str d.shown u) { s with heap := h', toks := tk }) :
    wpAny (model prog w) A (call (.builtin "repr") [v]) Q E s := by
  have same : ∀ u tk, Q (.str d.shown u) { s with toks := tk } := fun u tk => hQ s.heap u tk fun _ _ e => e
  have in1 : A.in1.guards = some [] := hg
  have un1 : ∀ n, A.units + (n + 1 + 1) < cLine → A.in1.units + (n + 1) < cLine := fun n z => by
    show A.units + 1 + (n + 1) < cLine
    omega
  cases r with
  | none =>
    simp only [PyData.shown] at same
    exact PySem.P.repr_of_none (same _ _)
  | bool b =>
    simp only [PyData.shown] at same
    exact PySem.P.repr_of_bool (same _ _)
  | int i t =>
    simp only [PyData.shown] at same
    exact PySem.P.repr_of_int (by simpa [PyData.showable] using hs) (same _ _)
  | str x t =>
    simp only [PyData.shown] at same hz
    exact PySem.P.repr_of_str (same _ _) hz
  | list h1 h2 h3 h4 =>
    rename_i a o vs n xs
    simp only [PyData.shown, PyData.showable, PyData.depth] at hz hs hu hQ same
    obtain ⟨as, rr⟩ := (Rk.list h1 h2 h3 h4).reads
    obtain ⟨bs, hb, hk⟩ := rk_all (prog := prog) (w := w) h4 hs (fun t m => Nat.le_trans (listText_mem_le m) hz)
    have hna : a ∉ bs := not_mem_of_deeper rr (lt_depth (by simp only [PyData.depth])) hb
    refine call_repr_slot (by omega) ⟨o, h1, h2⟩ PySem.F.slot_list_repr.toG ?_
    obtain ⟨l⟩ := vs
    match l, h3, h4, hk with
    | [], h3, h4, _ =>
      cases (show RkAll s.heap [] xs from h4)
      simp only [PyData.shownAll, listText_nil] at same
      exact call_list_repr_empty ⟨o, h1, h2⟩ h1 h3 ⟨_, _, rfl, same _ _⟩
    | x :: l, h3, h4, hk =>
      exact call_list_reprK h1 h2 h3 hna (by simpa using hk.length_eq)
        (fun i y e => hk.item i y (by simpa using e)) in1 (fun b _ => Clear.nil b) (un1 _ hu) (fun _ _ e => e)
        (fun h' u tk k => ⟨_, _, rfl, hQ h' u tk k⟩) hz
  | tuple h1 h2 h3 h4 =>
    rename_i a o vs n xs
    simp only [PyData.shown, PyData.showable, PyData.depth] at hz hs hu hQ same
    obtain ⟨as, rr⟩ := (Rk.tuple h1 h2 h3 h4).reads
    obtain ⟨bs, hb, hk⟩ := rk_all (prog := prog) (w := w) h4 hs (fun t m => Nat.le_trans (tupleText_mem_le m) hz)
    have hna : a ∉ bs := not_mem_of_deeper rr (lt_depth (by simp only [PyData.depth])) hb
    refine call_repr_slot (by omega) ⟨o, h1, h2⟩ PySem.F.slot_tuple_repr ?_
    exact call_tuple_reprK h1 h2 h3 hna hk in1 (fun b _ => Clear.nil b) (un1 _ hu) (fun _ _ e => e)
      (fun h' u tk k => ⟨_, _, rfl, hQ h' u tk k⟩) hz
  | dict h1 h2 h3 hm h4 h5 =>
    rename_i a o es n kvs
    simp only [PyData.shown, PyData.showable, PyData.depth] at hz hs hu hQ same
    obtain ⟨as, rr⟩ := (Rk.dict h1 h2 h3 hm h4 h5).reads
    obtain ⟨s1, s2⟩ := PyData.showableKv_split kvs hs
    have le : ∀ p ∈ PyData.shownKv kvs, p.length ≤ sizeLine := fun p m => Nat.le_trans (dictText_mem_le m) hz
    obtain ⟨b1, hb1, k1⟩ := rk_all (prog := prog) (w := w) h4 s1 (fun t m =>
      let ⟨p, hp, hl⟩ := PyData.shownKv_key_le kvs t m; Nat.le_trans hl (le p hp))
    obtain ⟨b2, hb2, k2⟩ := rk_all (prog := prog) (w := w) h5 s2 (fun t m =>
      let ⟨p, hp, hl⟩ := PyData.shownKv_val_le kvs t m; Nat.le_trans hl (le p hp))
    have hb := (hb1.mono (PyData.depthAll_keys_le kvs)).append (hb2.mono (PyData.depthAll_vals_le kvs))
    have hna : a ∉ b1 ++ b2 := not_mem_of_deeper rr (lt_depth (by simp only [PyData.depth])) hb
    have e1 := k1.more_le (fun b hb => List.mem_append_left b2 hb) (PyData.depthAll_keys_le kvs)
    have e2 := k2.more_le (fun b hb => List.mem_append_right b1 hb) (PyData.depthAll_vals_le kvs)
    refine call_repr_slot (by omega) ⟨o, h1, h2⟩ PySem.F.slot_dict_repr ?_
    rw [PyData.shownKv_eq] at hz
    simp only [PyData.shownKv_eq] at hQ
    exact call_dict_reprK h1 h2 h3 hm hna (ReprEntriesK.of_two es.toList _ _ e1 e2) in1
      (fun b _ => Clear.nil b) (un1 _ hu) (fun _ _ e => e) (fun h' u tk k => ⟨_, _, rfl, hQ h' u tk k⟩) hz
end

/-! ### the same over the abstract heap -/
def keyD : Key → PyData
  | .inl i => .int i
  | .inr x => .str x
mutual
inductive Dd (K : PySem.W.Frag) (H : Hp) : V → PyData → Prop
  | non : Dd K H .non .none
  | bl (b : Bool) : Dd K H (.bl b) (.bool b)
  | int (i : Int) : Dd K H (.int i) (.int i)
  | str (x : Str) : Dd K H (.str x) (.str x)
  | lst {a : Addr} {xs : List V} {ds : List PyData} : SqL K H a xs → DdAll K H xs ds → Dd K H (.ref a) (.list ds)
  | tup {a : Addr} {xs : List V} {ds : List PyData} : SqT K H a xs → DdAll K H xs ds → Dd K H (.ref a) (.tuple ds)
  | dic {a : Addr} {kvs : List (Key × V)} {ps : List (PyData × PyData)} : H a = some (.dK kvs) →
      ps.map (·.1) = kvs.map (fun p => keyD p.1) → DdAll K H (kvs.map (·.2)) (ps.map (·.2)) → Dd K H (.ref a) (.dict ps)
inductive DdAll (K : PySem.W.Frag) (H : Hp) : List V → List PyData → Prop
  | nil : DdAll K H [] []
  | cons {v : V} {vs : List V} {d : PyData} {ds : List PyData} : Dd K H v d → DdAll K H vs ds →
      DdAll K H (v :: vs) (d :: ds)
end
section
variable {X : Cx} {pins : List (Addr × Obj)} {σ : L2.St} {H : Hp} {s : Shared}
theorem keys_rk {h : Heap} : ∀ {kvs : List (Key × V)} {vs : List (Key × Value)} {es : List DictEntry},
    KV kvs vs → Pairs (mixKind X.prog X.w) es vs → RkAll h (es.map (·.key)) (kvs.map fun p => keyD p.1)
  | _, _, _, .nil, .nil => .nil
  | (k, _) :: _, (k', _) :: _, e :: _, .cons hk r, .cons he _ q => by
    obtain ⟨e1, _⟩ := hk
    dsimp only at e1
    subst e1
    refine .cons ?_ (keys_rk r q)
    rcases keyIs_shape he with ⟨i, t, rfl, e2⟩ | ⟨x, t, rfl, e2⟩
    · show Rk h e.key (.int i)
      rw [e2]; exact .int i t
    · show Rk h e.key (.str x)
      rw [e2]; exact .str x t
theorem vals_of {kvs : List (Key × V)} : ∀ {vs : List (Key × Value)} {es : List DictEntry},
    KV kvs vs → Pairs (mixKind X.prog X.w) es vs → Vals (kvs.map (·.2)) (es.map (·.val)) := by
  induction kvs with
  | nil =>
    intro vs es r q
    cases r
    cases q
    exact .nil
  | cons p kvs ih =>
    intro vs es r q
    cases r with
    | cons hk r =>
      cases q with
      | cons _ hv q => exact .cons (by dsimp only; rw [hv]; exact hk.2) (ih r q)
mutual
theorem Dd.rk (I : Inv X pins σ H s) : ∀ {d : PyData} {v : V} {u : Value}, Dd X.K H v d → RelV v u → Rk s.heap u d
  | .none, _, _, .non, r => by cases r; exact .none
  | .bool b, _, _, .bl _, r => by cases r; exact .bool b
  | .int i, _, _, .int _, r => by obtain ⟨t, rfl⟩ := r; exact .int i t
  | .str x, _, _, .str _, r => by obtain ⟨t, rfl⟩ := r; exact .str x t
  | .list ds, _, _, .lst hs ha, r => by
    cases r
    obtain ⟨its, rv, ⟨o, n, ho, hc, _, hd⟩, _⟩ := I.list hs
    exact .list ho hc hd (DdAll.rk I ha rv)
  | .tuple ds, _, _, .tup hs ha, r => by
    cases r
    obtain ⟨its, rv, ⟨o, ho, hc, n, hd⟩, _⟩ := I.tuple hs
    exact .tuple ho hc hd (DdAll.rk I ha rv)
  | .dict ps, _, _, .dic hs hk ha, r => by
    cases r
    obtain ⟨_, hm, vs, kv, o, es, ep, ho, hx, hd, _, hp, _⟩ := I.hok _ _ hs
    refine .dict ho hx.1 hd hm ?_ ?_
    · rw [hk]
      exact keys_rk (X := X) kv hp
    · exact DdAll.rk I ha (vals_of (X := X) kv hp)
theorem DdAll.rk (I : Inv X pins σ H s) : ∀ {ds : List PyData} {vs : List V} {us : List Value},
    DdAll X.K H vs ds → Vals vs us → RkAll s.heap us ds
  | [], _, _, .nil, r => by cases r; exact .nil
  | _ :: _, _, _, .cons h1 h2, r => by
    cases r with
    | cons r1 r2 => exact .cons (Dd.rk I h1 r1) (DdAll.rk I h2 r2)
end
/-- data stays where nothing tracked is changed -/
theorem SqT.same {K : PySem.W.Frag} {H H' : Hp} {a : Addr} {xs : List V} (s : Same H H') (h : SqT K H a xs) :
    SqT K H' a xs := by
  rcases h with (h | ⟨o, h⟩) | h
  · exact .inl (.inl (s _ _ h))
  · exact .inl (.inr ⟨o, s _ _ h⟩)
  · exact .inr h
mutual
theorem Dd.same {K : PySem.W.Frag} {H H' : Hp} (s : Same H H') : ∀ {d : PyData} {v : V}, Dd K H v d → Dd K H' v d
  | _, _, .non => .non
  | _, _, .bl b => .bl b
  | _, _, .int i => .int i
  | _, _, .str x => .str x
  | _, _, .lst h a => .lst (s.seq h) (DdAll.same s a)
  | _, _, .tup h a => .tup (SqT.same s h) (DdAll.same s a)
  | _, _, .dic h k a => .dic (s _ _ h) k (DdAll.same s a)
theorem DdAll.same {K : PySem.W.Frag} {H H' : Hp} (s : Same H H') : ∀ {d : List PyData} {v : List V},
    DdAll K H v d → DdAll K H' v d
  | _, _, .nil => .nil
  | _, _, .cons a b => .cons (Dd.same s a) (DdAll.same s b)
end
/-- what repr can write here -/
structure Shows (d : PyData) : Prop where
  ok : d.showable = true
  len : d.shown.length ≤ sizeLine
  dp : d.depth ≤ 100
/-- repr(x), x data -/
def rRepr (K : PySem.W.Frag) : List V → Hp → VK → Prop := fun xs H Q =>
  ∃ (x : V) (d : PyData), xs = [x] ∧ Dd K H x d ∧ Shows d ∧ Q (.str d.shown) H
theorem call_repr {k : Nat} (hg : X.A.guards = some []) (hr : Room k X.A) :
    CallR X (.builtin "repr") (rRepr X.K) := by
  intro pins s σ H xs us Q I r h
  obtain ⟨x, d, rfl, hd, ⟨h1, h2, h3⟩, q⟩ := h
  obtain ⟨u, rfl, ru⟩ := vals1 r
  have hu : X.A.units + (d.depth + 1) < cLine := by
    have := hr.un
    omega
  exact repr_rk (hd.rk I ru) h1 h2 hg hu fun h' u tk k => ⟨.str d.shown, H, I.kept k, ⟨u, rfl⟩, q⟩
end
end Q
set_option Elab.async false
set_option linter.all false
set_option maxRecDepth 100000
set_option maxHeartbeats 4000000
namespace Q
open PySem PySem.Spec PyProof.Rows L2

section
variable {X : Cx} {pins : List (Addr × Obj)} {σ : L2.St} {H : Hp} {s : Shared} {a : Addr} {o : HO}
/-- an object of this def's own making, so far untracked, is tracked from here on -/
theorem Inv.track (I : Inv X pins σ H s) (n : H a = none) (n0 : X.s_0.heap.get? a = none)
    (nL : a ≠ X.env.locals) (nC : ∀ x c, X.env.cells.lookup x = some c → c ≠ a)
    (nP : ∀ p ∈ X.pn ++ pins, p.1 ≠ a) (new : ObjOk X.prog X.w (upd H a o) s.heap a o) :
    Inv X pins σ (upd H a o) s := by
  have ne0 : ∀ {b ob}, X.s_0.heap.get? b = some ob → b ≠ a := fun e z => by rw [z, n0] at e; cases e
  have neH : ∀ {b u}, H b = some u → b ≠ a := fun e => ne_of_none e n
  obtain ⟨k1, k2, k3, k4, k5, k6, k7⟩ := I.base
  refine ⟨I.ok, I.os, I.bare, ⟨k1, k2, ?_, k4, ?_, ?_, ?_⟩, I.loc, I.cell, ?_, ?_, ?_, ?_, I.len⟩
  · intro b ob e z hx
    rw [upd_ne (ne0 e)]
    exact k3 b ob e z hx
  · intro b xs e
    rw [upd_ne (neH (k5 b xs e))]
    exact k5 b xs e
  · intro b ob u e
    rw [upd_ne (neH (k6 b ob u e))]
    exact k6 b ob u e
  · intro b ps e
    obtain ⟨more, q⟩ := k7 b ps e
    exact ⟨more, by rw [upd_ne (neH q)]; exact q⟩
  · rw [upd_ne (Ne.symm nL)]
    exact I.free
  · intro x c e
    rw [upd_ne (nC x c e)]
    exact I.freeC x c e
  · intro p hp
    obtain ⟨q1, q2, q3⟩ := I.pin p hp
    exact ⟨q1, by rw [upd_ne (nP p hp)]; exact q2, q3⟩
  · intro b u e
    by_cases z : b = a
    · subst z
      rw [upd_same] at e
      cases e
      exact new
    · rw [upd_ne z] at e
      refine (I.hok b u e).stay (fun _ _ _ q => q) (fun c q => ?_) (fun c xs q => ?_)
      · rw [upd_ne (neH q)]
        exact q
      · rw [upd_ne (neH q)]
        exact q
end

/-- what 'except x as n: ..' wishes, the exception kept behind the suite -/
def wKeep (K : PySem.W.Frag) (c : Value) (i : Nat) (ts : Addr → Value → Option Addr → TS) (Wout : WX)
    (D : Ends) : WX := fun cls d σ H =>
  ∃ b, PySem.W.exmOne K cls c = some b ∧
    (b = true → ∃ C, cls = .ref C ∧ ∀ a, H a = none → ts a cls d
      { nx := fun σ' H' => D.nx (σ'.set i none) (upd H' a (exv a C d)),
        rt := fun v H' => D.rt v (upd H' a (exv a C d)) } (σ.set i (some (.ref a))) H) ∧
    (b = false → Wout cls d σ H)
section
variable {X : Cx} {x n : Str} {c : Value} {i : Nat} {body suite : List Stmt} {b₀ : Stmt}
  {np pos pos' : Pos} {tb : WX → TS} {ts : Addr → Value → Option Addr → TS} {Wout : WX}
theorem ps_try_keep (hs : X.stack = X.env :: X.outer) (hf : X.env.frame = some X.env.locals)
    (hex : X.ex = []) (hN : X.N.Nodup) (hi : X.N[i]? = some n) (hln : X.env.kindOf n = some .local)
    (hc : Names X x c) (tk : Takes X Wout)
    (hb : ∀ (W : WX) (pn : List (Addr × Obj)) (xe : Value → Shared → Prop), Takes (X.tr pn xe) W →
      PassesOwn (model X.prog X.w) X.A X.env xe → PSs (X.tr pn xe) body (tb W))
    (hsu : ∀ (a : Addr) (oe : Obj) (cls : Value) (d : Option Addr) (pn : List (Addr × Obj)),
      Zc cls d oe → (∃ vs, oe.data = .fields vs) → PSs (X.suite a ((a, oe) :: pn)) (b₀ :: suite) (ts a cls d)) :
    PS X (.Try body [.ExceptHandler (some (.Name x np)) (some n) (b₀ :: suite) pos'] [] [] pos)
      (fun D σ H => tb (wKeep X.K c i ts Wout D) D σ H) := by
  constructor
  intro pins s σ H D I h
  have ok := I.ok
  have hfr : X.A.frames = some (X.env :: X.outer) := ok.frames.trans (by rw [hs])
  refine wpAny_Try_except ?_
  have run := (hb (wKeep X.K c i ts Wout D) (X.pn ++ pins)
    (fun e s₁ => wpAny (model X.prog X.w) X.A (noteFrame e X.env)
      (fun _ s₂ => wpAny (model X.prog X.w) X.A (setFlight e none)
        (fun _ s₃ => wpAny (model X.prog X.w) X.A
          (handleBy e X.env [.ExceptHandler (some (.Name x np)) (some n) (b₀ :: suite) pos'])
          (SP X pins D) X.xe s₃) X.xe s₂) X.xe s₁) ?caught PassesOwn.looking).run [] s σ H D (I.toTry _) h
  case caught =>
    rintro u s' ⟨a, B, sI, pins', σ', H', cls, d, rfl, J', nb, up, sky, na, os, ag, b, hb1, hyes, hno⟩
    have J : Inv X pins σ' H' sI := J'.ofTry ok
    rw [show (X.tr (X.pn ++ pins) _).stack = X.env :: X.outer from hs] at sky
    show wpAny (model X.prog X.w) X.A (noteFrame (.ref a) X.env) _ _ _
    refine Sky.land Zc.steady hfr hf sky ?_
    intro h3 fl3 up3
    have J3 : Inv X pins σ' H' { s' with heap := h3 } := J.landed nb fl3.1 (up.trans up3) os ag
    obtain ⟨oe3, vs3, he3, hz3, hd3⟩ := fl3.there
    have nfr : a ∉ frs (X.env :: X.outer) := by
      intro hm
      obtain ⟨_, ob, e', hnf⟩ := fl3.2.2.1.mem hm
      rw [he3] at e'
      cases e'
      exact hnf _ hd3
    have nL : a ≠ X.env.locals := fun z => nfr (List.mem_filterMap.mpr ⟨X.env, List.mem_cons_self, hf.trans (by rw [z])⟩)
    have nF : a ∉ X.fs := by
      intro hm
      obtain ⟨e, he, q⟩ := List.mem_filterMap.mp hm
      exact nfr (List.mem_filterMap.mpr ⟨e, List.mem_cons_of_mem _ he, q⟩)
    -- the exception was not there before
    have nB : B.get? a = none := by
      have z := fl3
      exact z.2.1
    have inI : ∀ {e ob}, sI.heap.get? e = some ob → e ∉ frs (X.env :: X.outer) → e ≠ a := by
      rintro e ob q nq rfl
      have q2 := nb e ob q (by show e ∉ frs X.stack; rw [hs]; exact nq)
      rw [nB] at q2
      cases q2
    have n0 : X.s_0.heap.get? a = none := by
      cases q : X.s_0.heap.get? a with
      | none => rfl
      | some ob =>
        obtain ⟨ob2, q2⟩ := J.base.there a ob q (by rw [hex]; exact List.not_mem_nil)
        exact absurd rfl (inI q2 nfr)
    have nP : ∀ p ∈ X.pn ++ pins, p.1 ≠ a := by
      intro p hp
      obtain ⟨q1, _, q3, q4, _⟩ := J.pin p hp
      refine inI q1 ?_
      intro hm
      obtain ⟨e, he, q⟩ := List.mem_filterMap.mp hm
      rcases List.mem_cons.mp he with z | z
      · rw [z, hf] at q
        exact q3 (Option.some.inj q).symm
      · exact q4 (List.mem_filterMap.mpr ⟨e, z, q⟩)
    have S3 := J3.suite he3 hd3 na nL nF
    refine wpAny_handleBy_cons (codeAny_handlers_test ?_) nofun
    have LT : PySem.W.Looks (model X.prog X.w) h3 (typeOf (.ref a)) cls :=
      fun A Q E s k q => wpAny_typeOf_ref (k _ _ he3) (by rw [hz3.1]; exact q)
    have LM := PySem.W.exm_one (M := model X.prog X.w) (J3.kIn) LT hb1
    have test : ∀ {Q : Value → Shared → Prop} {E : Value → Shared → Prop}, Q c { s' with heap := h3 } →
        wpAny (model X.prog X.w) (X.A.mark (some (.ref a))) (eval (.Name x np) X.env) Q E { s' with heap := h3 } := by
      intro Q E q
      obtain ⟨hg, hdbg, hm⟩ := hc
      rcases hm with hm | ⟨hm, hv, hnn⟩
      · exact ld_glob (X := X.suite a ((a, oe3) :: (X.pn ++ pins))) S3 hg hm q hdbg
      · exact ld_blt (X := X.suite a ((a, oe3) :: (X.pn ++ pins))) S3 hg hm hv q hnn hdbg
    refine test (LM.here ?_)
    cases b with
    | true =>
      obtain ⟨C, ec, hyes⟩ := hyes rfl
      subst ec
      refine codeAny_handlers_suite_as (HandSPX.lands_againZ fl3 ?_)
      intro h4 fl4 up4
      have J4 : Inv X pins σ' H' { s' with heap := h4 } := J.landed nb fl4.1 ((up.trans up3).trans up4) os ag
      obtain ⟨oe4, vs4, he4, hz4, hd4⟩ := fl4.there
      have S4 := J4.suite he4 hd4 na nL nF
      refine store_ok (X := X.suite a ((a, oe4) :: (X.pn ++ pins))) (v := .ref a) S4 hN hi (.inl hln) rfl ?_ (.inr hln)
      intro s5 S5
      have suiteRun := (hsu a oe4 (.ref C) d (X.pn ++ pins) hz4 ⟨_, hd4⟩).run [] s5 _ H' _ S5 (hyes a na)
      refine wpAny_mono suiteRun ?_ (fun _ _ z => False.elim z)
      intro f s6 hsp
      have fin : ∀ {σ6 : L2.St} {H6 : Hp} {Q : Shared → Prop},
          Inv (X.suite a ((a, oe4) :: (X.pn ++ pins))) [] σ6 H6 s6 →
          (∀ s7, Inv X pins (σ6.set i none) (upd H6 a (exv a C d)) s7 → Q s7) →
          wpAny (model X.prog X.w) X.A (do bindName X.env n .none; unbindBehindTheSuite X.env n pos')
            (fun _ s7 => Q s7) X.xe s6 := by
        intro σ6 H6 Q S6 hq
        obtain ⟨g1, g2, _⟩ := S6.pin (a, oe4) (List.mem_append.mpr (.inl List.mem_cons_self))
        have U := S6.unsuite ok
        have nC : ∀ y e, X.env.cells.lookup y = some e → e ≠ a := by
          rintro y e q rfl
          obtain ⟨v, ob, q1, q2⟩ := U.cell y e q
          have g1' : s6.heap.get? e = some oe4 := g1
          rw [q1] at g1'
          cases g1'
          rw [hd4] at q2
          cases q2
        have V := Inv.track (o := exv a C d) U g2 n0 nL nC nP (exv_ok g1 hz4 ⟨_, hd4⟩)
        exact gone_ok V hN hi hln hq
      match f, hsp with
      | .next, ⟨σ6, H6, S6, q6⟩ => exact fin S6 fun s7 J7 => ⟨_, _, J7, q6⟩
      | .brk, ⟨σ6, H6, S6, q6⟩ => exact False.elim q6
      | .cont, ⟨σ6, H6, S6, q6⟩ => exact False.elim q6
      | .ret u, ⟨v6, σ6, H6, S6, r6, q6⟩ => exact fin S6 fun s7 J7 => ⟨_, _, _, J7, r6, q6⟩
    | false =>
      show wpAny _ X.A (handleBy (.ref a) X.env []) _ _ _
      refine wpAny_handleBy_nil ?_
      obtain ⟨k1, k2, k3, oe, vs, TT, oT, ts', he, hz, hd, h1, hr⟩ := id fl3
      unfold PySem.passOn
      refine wpAny_bind (wpAny_field he hd h1 ?_)
      rw [if_neg (show ¬ ((Value.ref TT == Value.none) = true) from by simp)]
      have out : wpAny (model X.prog X.w) X.A (setFlight (.ref a) X.env.frame)
          (fun _ s4 => wpAny (model X.prog X.w) X.A (throw (.ref a) : Sem Flow) (SP X pins D) X.xe s4)
          X.xe { s' with heap := h3 } := by
        rw [hf]
        refine HandSPX.setFlight_upZ fl3 ?_
        intro h4 hh4 up4
        refine wpAny_throw (tk _ _ ?_)
        have sky4 : Sky B X.stack a (Zc cls d) X.env.locals h4 := .inr (.inr (by rw [hs]; exact hh4))
        exact ⟨a, B, sI, pins, σ', H', cls, d, rfl, J, nb, (up.trans up3).trans up4, sky4, na, os, ag, hno rfl⟩
      first
        | exact wpAny_bind (wpAny_pure (wpAny_bind out))
        | exact wpAny_bind out
  refine wpAny_mono run ?_ (fun e s1 he => he)
  intro f s1 hsp
  match f, hsp with
  | .next, ⟨σ', H', J', q⟩ => exact wpAny_execs_nil ⟨σ', H', J'.ofTry ok, q⟩
  | .brk, ⟨σ', H', J', q⟩ => exact ⟨σ', H', J'.ofTry ok, q⟩
  | .cont, ⟨σ', H', J', q⟩ => exact ⟨σ', H', J'.ofTry ok, q⟩
  | .ret u, ⟨v, σ', H', J', r, q⟩ => exact ⟨v, σ', H', J'.ofTry ok, r, q⟩
end
/-- repr(e) -/
theorem pe_repr {X : Cx} {k : Nat} {e : Expr} {te : TE} {p pos : Pos} (hgd : X.A.guards = some [])
    (hr : Room k X.A) (hm : X.mg "repr" = none) (ha : PE X e te) (hg : Gl X "repr" := by rfl)
    (h1 : starEach [e] X.env = (false, eval e X.env) :: starEach [] X.env := by rfl)
    (h2 : (backTo pos (starEach [] X.env)).any (·.1) = false := by rfl) :
    PE X (.Call (.Name "repr" p) [e] [] pos) (tCB (rRepr X.K) (tCons te tNil)) :=
  pe_callB (call_repr hgd hr) hg hm (by decide +kernel) (pa_cons ha pa_nil h1) (by decide) (by decide) h1 h2
end Q
set_option Elab.async false
set_option linter.all false
set_option maxRecDepth 100000
set_option maxHeartbeats 4000000
namespace Q
open PySem PySem.Spec PyProof.Rows L2

/-! sets made from lists, whatever the items are: the shell -/
def noneYet (w : World) : Obj :=
  { cls := .type "set"
    dict := none
    data := .set #[] 0 (.fresh 0 0 (!w.params.followText "set-order")) }
def walker (l : Addr) : Obj :=
  { cls := .type "list_iterator"
    data := .fields #[.ref l, .int 0 0] }
/-- the heap at which the items begin to come -/
def laidTwo (w : World) (h : Heap) (l : Addr) : Heap := (h.push (noneYet w)).push (walker l)

section
variable {P : Program} {w : World} {A : Around} {E : Value → Shared → Prop} {s : Shared}

theorem laid_set (h : Heap) (l : Addr) : (laidTwo w h l).get? h.objs.size = some (noneYet w) :=
  Heap.get?_push_of_some _ (Heap.get?_push_size _ rfl)
theorem laid_old {h : Heap} {l b : Addr} {o : Obj} (e : h.get? b = some o) : (laidTwo w h l).get? b = some o :=
  Heap.get?_push_of_some _ (Heap.get?_push_of_some _ e)

set_option maxRecDepth 100000 in
set_option maxHeartbeats 3200000 in
theorem set_shell {l : Addr} {items : Array Value} {Q : Value → Shared → Prop} (Post : Heap → Prop) (hl : s.heap.IsList l items)
    (loop : codeAny (model P w) A.in1.in1 (.builtin "set.update.loop" ⟨[.ref s.heap.objs.size, .ref (s.heap.push (noneYet w)).objs.size], []⟩)
      (fun r z => r = .ok (.ret .none) ∧ z.gens = s.gens ∧ z.drawn = s.drawn ∧ z.os = s.os ∧ Post z.heap) { s with heap := laidTwo w s.heap l })
    (next : ∀ (h' : Heap) (tk : Nat), Post h' → Q (.ref s.heap.objs.size) { s with heap := h', toks := tk }) :
    wpAny (model P w) A (call (.type "set") [.ref l]) Q E s := by
  obtain ⟨mroHead, mroTail, ofMro⟩ := F.called_set.mro
  have g1 := F.called_set.made
  have g2 := F.called_set.sub
  refine wpAny_call (codeAny_of_tree ?_)
  show wpAny _ _ (callAny (.type "set") _) _ _ _
  refine wpAny_pure ⟨Code.quiet_builtin _ (by decide +kernel), codeAny_builtin F.entry_type_call ?_⟩
  rw [Around.under_plain (weight_type_call_type "set" [.ref l] []) rfl]
  have g3 := F.called_set.notType
  have g4 := F.called_set.canCreate
  have g5 := F.typeCall_set_1 (.ref l)
  repeat (any_goals (first | assumption | wp_step))
  refine codeAny_mono (code_set_led1 (.ref l) (E := E) (Q₁ := fun v z => v = .ref s.heap.objs.size ∧ z = { s with heap := s.heap.push (noneYet w) }) ⟨rfl, rfl⟩) fun r z hz => ?_
  cases r with
  | error e => exact hz
  | ok fl =>
    cases fl with
    | ret v =>
      obtain ⟨rfl, rfl⟩ := hz
      have at1 : (s.heap.push (noneYet w)).get? s.heap.objs.size = some (noneYet w) := Heap.get?_push_size _ rfl
      have isSet : Shared.TypeIs { s with heap := s.heap.push (noneYet w) } (.ref s.heap.objs.size) "set" := ⟨_, at1, rfl⟩
      have g6 := F.called_set.init.lookup
      have g7 := F.called_set.init.bind (.ref s.heap.objs.size)
      repeat (any_goals (first | assumption | wp_step))
      refine codeAny_mono (codeAny_call_builtin (R := wants (fun r z => r = .none ∧ ∃ h' tk, z = { s with heap := h', toks := tk } ∧ Post h') E)
        F.called_set.init.plain F.entry_set_init (check_set_init_1 isSet ?_)) fun r z hz => ?_
      · obtain ⟨⟨lcls, ldict, ldata, lslots⟩, lat, lc, ln, ld⟩ := hl
        simp only at lc ld
        subst lc
        subst ld
        have lat1 : (s.heap.push (noneYet w)).get? l = some { cls := .type "list", dict := ldict, data := .seq items ln, slots := lslots } := Heap.get?_push_of_some _ lat
        have lis1 : (s.heap.push (noneYet w)).IsList l items := ⟨_, lat1, rfl, ln, rfl⟩
        have g8 := F.sub_list_set
        have g9 := F.sub_list_frozenset
        have g10 : (Value.type "list" == Value.type "dict") = false := by decide
        unfold Builtin.«set.__init__» noKeywords Builtin.Frozenset.updateFrom
        generalize hold : pyIter = PI
        wp_walk
        subst hold
        refine wpAny_pyIter_list lis1 ?_
        refine wpAny_bind (wpAny_runValue ?_)
        refine codeAny_mono loop fun r z hz => ?_
        obtain ⟨rfl, e1, e2, e3, hp⟩ := hz
        obtain ⟨zh, zg, zd, zt, zo⟩ := z
        dsimp only at e1 e2 e3 hp
        subst e1; subst e2; subst e3
        show wpAny _ _ _ _ _ _
        refine wpAny_pure ?_
        show wpAny _ _ (ret Value.none) _ _ _
        exact wpAny_pure ⟨rfl, zh, zt, rfl, hp⟩
      · cases r with
        | error e => exact hz
        | ok fl =>
          cases fl with
          | ret v =>
            obtain ⟨rfl, h', tk, rfl, hp⟩ := hz
            repeat (any_goals (first | assumption | wp_step))
            exact next _ _ hp
          | _ => exact hz.elim
    | _ => exact hz.elim
end
end Q
set_option Elab.async false
set_option linter.all false
set_option maxRecDepth 100000
set_option maxHeartbeats 4000000
namespace Q
open PySem PySem.Spec PyProof.Rows L2 PySem.W

/-! sorted(..) of a set whose members read as data -/
theorem each_perm {β : Type} {R : Value → β → Prop} {us vs : List Value} (p : vs.Perm us) : ∀ {bs : List β}, EachIs R us bs → ∃ cs : List β, cs.Perm bs ∧ EachIs R vs cs := by
  induction p with
  | nil => intro bs e; cases e; exact ⟨[], .nil, .nil⟩
  | cons x _ ih =>
    intro bs e
    cases e with
    | cons h t =>
      obtain ⟨cs, q, r⟩ := ih t
      exact ⟨_ :: cs, .cons _ q, .cons h r⟩
  | swap x y l =>
    intro bs e
    cases e with
    | cons h t =>
      cases t with
      | cons h2 t2 => exact ⟨_, .swap _ _ _, .cons h2 (.cons h t2)⟩
  | trans _ _ ih1 ih2 =>
    intro bs e
    obtain ⟨cs, q, r⟩ := ih2 e
    obtain ⟨ds, q2, r2⟩ := ih1 r
    exact ⟨ds, q2.trans q, r2⟩

/-- the set at a: its members are, in some order, the values us -/
def Members (w : World) (h : Heap) (a : Addr) (us : List Value) : Prop :=
  ∃ es ep t, SetAt h a es ep t ∧ (es.toList.map (·.2)).Perm us ∧ t.fits es.size = true ∧ es.size < scanBound ∧ Ris t.place.toList ∧
    (w.params.followText "set-order" = true ∨ t.led = true)
theorem Members.at {w : World} {h h' : Heap} {a : Addr} {us : List Value} (m : Members w h a us) (k : ∀ o, h.get? a = some o → h'.get? a = some o) : Members w h' a us := by
  obtain ⟨es, ep, t, sa, r⟩ := m
  exact ⟨es, ep, t, sa.at k, r⟩
theorem Members.ob {w : World} {h : Heap} {a : Addr} {us : List Value} (m : Members w h a us) : ∃ o, h.get? a = some o := by
  obtain ⟨es, ep, t, ⟨o, e, _⟩, _⟩ := m
  exact ⟨o, e⟩

section
variable {P : Program} {w : World} {A : Around} {E : Value → Shared → Prop} {s : Shared}
theorem sorted_members {β : Type} {R : Value → β → Prop} {enc : β → PyData} {a : Addr} {us : List Value} {bs : List β} {Q : Value → Shared → Prop}
    (m : Members w s.heap a us) (hh : A.handled = none) (e : EachIs (fun v b => R v b ∧ Reads s.heap v (enc b) []) us bs)
    (hal : ∀ cs : List β, cs.Perm bs → AllAlike (cs.map enc)) (hk : ∀ cs : List β, cs.Perm bs → Sortable (cs.map enc))
    (hu : ∀ b, b ∈ bs → A.units + 2 + (enc b).depth < cLine)
    (next : ∀ z p (out : Array Value) (c : Nat) (cs : List β), (∀ b o, s.heap.get? b = some o → z.heap.get? b = some o) → z.gens = s.gens → z.os = s.os → s.heap.objs.size ≤ p →
      z.heap.get? p = some (seqObj "list" out c) → cs.Perm bs → EachIs R out.toList (cs.mergeSort (dataLe false enc)) → Q (.ref p) z) :
    wpAny (model P w) A (call (.builtin "sorted") [.ref a]) Q E s := by
  obtain ⟨es, ep, t, sa, pm, hf, hb, hr, hl⟩ := m
  have lu : us.length = bs.length := e.length
  have le : us.length < scanBound := by
    rw [← pm.length_eq, List.length_map, Array.length_toList]
    exact hb
  refine Calls.call_function_entry kind_sorted plain_sorted entry_sorted (args_sorted1 _) ?_
  unfold Builtin.«sorted»
  refine wpAny_bind (m := checkCount "sorted" 1 1 _) (wpAny_pure ?_)
  refine wpAny_bind (collect_set (A := A.in1) hh sa hf hb hr hl fun s1 vs k1 hz g1 o1 q1 => ?_)
  have pv : vs.Perm us := q1.trans pm
  obtain ⟨cs, pc, ec⟩ := each_perm pv e
  have lv : vs.length = us.length := pv.length_eq
  have big : scanBound ≤ sizeLine := Nat.le_of_lt_succ (by rw [sizeLine_eq]; decide)
  refine wpAny_bind (wpAny_newList ?_ (by omega))
  have fresh : (s1.heap.push (seqObj "list" vs.toArray 0)).get? s1.heap.objs.size = some (seqObj "list" vs.toArray 0) := Heap.get?_push_size _ rfl
  have kept : ∀ b o, s.heap.get? b = some o → (s1.heap.push (seqObj "list" vs.toArray 0)).get? b = some o := fun b o q => Heap.get?_push_of_some _ (k1 b o q)
  refine wpAny_bind (wpAny_holding (list_sort_data (A := A.in1) (s := { s1 with heap := s1.heap.push (seqObj "list" vs.toArray 0) }) (vs := vs) (bs := cs) (enc := enc) (R := R) fresh
    (ec.mono fun _ _ q => q.1) (ec.mono fun _ _ q => ⟨[], PyProof.Rows.Reads.keeps kept q.2, by simp⟩) (hal cs pc) (hk cs pc) ?_ (fun b hb => ?_) fun out lo eo => ?_))
  · rw [pc.length_eq]
    omega
  · have q := hu b (pc.mem_iff.mp hb)
    show (A.units + 1) + 1 + (enc b).depth < cLine
    omega
  · obtain ⟨c, hc⟩ := sortedHeap_at (vs := vs) (out := out.toArray) fresh
    refine wpAny_pure ⟨_, rfl, next _ s1.heap.objs.size out.toArray c cs (fun b o q => ?_) g1 o1 hz hc pc (by simpa using eo)⟩
    have q2 := k1 b o q
    have lt := Heap.lt_size q2
    show (sortedHeap (s1.heap.push (seqObj "list" vs.toArray 0)) s1.heap.objs.size vs out.toArray).get? b = some o
    rw [sortedHeap_old (Nat.ne_of_lt lt) (by rw [size_push']; exact Nat.lt_succ_of_lt lt)]
    exact Heap.get?_push_of_some _ q2
end
end Q
set_option Elab.async false
set_option linter.all false
set_option maxRecDepth 100000
set_option maxHeartbeats 4000000
namespace Q
open PySem PySem.Spec PyProof.Rows L2

/-! sets of tuples whose items are texts and whole numbers; only new members come -/
theorem range_back {α : Type} : ∀ l : List α, (List.range l.length).filterMap (fun i => l[i]?) = l
  | [] => rfl
  | x :: l => by
    have ih := range_back l
    rw [List.length_cons, List.range_succ_eq_map, List.filterMap_cons_some (b := x) (by rfl), List.filterMap_map]
    congr 1
theorem reorder {α : Type} (es : Array α) (order : Array Nat) (f : α → Int) (p : order.toList.Perm (List.range es.size)) :
    ((order.filterMap (es[·]?)).toList).Perm es.toList ∧ (order.filterMap (es[·]?)).toList.map f = order.toList.map fun i => (es.map f).getD i 0 := by
  have e0 : (order.filterMap (es[·]?)).toList = order.toList.filterMap fun i => es.toList[i]? := by simp
  rw [e0]
  constructor
  · have q := p.filterMap fun i => es.toList[i]?
    have q2 := range_back es.toList
    rw [Array.length_toList] at q2
    rw [q2] at q
    exact q
  · have inside : ∀ i ∈ order.toList, i < es.size := fun i hi => List.mem_range.mp (p.mem_iff.mp hi)
    clear p e0
    generalize order.toList = l at inside
    induction l with
    | nil => rfl
    | cons i l ih =>
      have hi : i < es.size := inside i List.mem_cons_self
      have e1 : es.toList[i]? = some es[i] := by simp [hi]
      rw [List.filterMap_cons_some (f := fun i => es.toList[i]?) e1, List.map_cons, List.map_cons, ih fun j hj => inside j (List.mem_cons_of_mem _ hj)]
      congr 1
      simp [Array.getD_eq_getD_getElem?, hi]

abbrev tkh (P : Program) (w : World) (k : List Key) : Int := tupleKeyHash (mixKind P w) k
abbrev TupAt (P : Program) (w : World) (h : Heap) (k : List Key) (b : Addr) : Prop := IsTupleKey (mixKind P w) h k b
abbrev spot (m : Nat) (x : Int) (c : Nat) : SetTable.Probe := nth m (runAt m (SetTable.bits x % (m + 1)) (SetTable.bits x)) c

theorem TupAt.mono {P : Program} {w : World} {h h' : Heap} {k : List Key} {b : Addr} (x : TupAt P w h k b) (kp : ∀ o, h.get? b = some o → h'.get? b = some o) : TupAt P w h' k b := by
  obtain ⟨o, its, n, q, r⟩ := x
  exact ⟨o, its, n, kp o q, r⟩
theorem TupAt.notSet {P : Program} {w : World} {h : Heap} {k : List Key} {a b : Addr} {o : Obj} {es : Array (Int × Value)} {ep : Nat} {t : SetTable} (x : TupAt P w h k b) (q : h.get? a = some o) (d : o.data = .set es ep t) : b ≠ a := by
  rintro rfl
  obtain ⟨o2, its, n, q2, _, d2, _⟩ := x
  rw [q] at q2
  cases q2
  rw [d] at d2
  cases d2

/-- the set at a with its table; the members are tuples that stand in the heap -/
structure Bag (P : Program) (w : World) (h : Heap) (a : Addr) (es : Array (Int × Value)) (ep : Nat) (t : SetTable) : Prop where
  ob : ∃ o, h.get? a = some o ∧ o.ExactSet ∧ o.data = .set es ep t
  tab : TabOk t (es.toList.map (·.1))
  el : ∀ e ∈ es.toList, ∃ b k, e = (tkh P w k, Value.ref b) ∧ TupAt P w h k b
  led : w.params.followText "set-order" = true ∨ t.led = true
  room : es.size * 5 < t.mask * 3
  few : es.size < 64

section
variable {P : Program} {w : World} {A : Around} {E : Value → Shared → Prop} {s : Shared} {a : Addr} {es : Array (Int × Value)} {ep : Nat} {t : SetTable}

theorem tab_fits (T : TabOk t (es.toList.map (·.1))) (hr : es.size ≤ t.mask) : t.fits es.size = true := by
  have h1 := T.sz
  rw [List.length_map, Array.length_toList] at h1
  unfold SetTable.fits SetTable.fill
  rw [T.dm, Bool.and_eq_true, beq_iff_eq, decide_eq_true_eq]
  refine ⟨h1, ?_⟩
  show t.place.size + 0 ≤ t.mask
  omega
theorem Bag.fits (R : Bag P w s.heap a es ep t) : t.fits es.size = true := tab_fits R.tab (by have := R.room; omega)

/-! what the model asks of the items -/
theorem key_class (n : Nat) {k : Key} {v : Value} (h : (mixKind P w).is k v = true) : ofAClassStatement n v = pure false := by
  rcases keyIs_shape h with ⟨i, u, rfl, rfl⟩ | ⟨x, u, rfl, rfl⟩ <;> cases n <;> rfl
theorem items_shape {ks : List Key} {vs : List Value} (h : ItemsAre (mixKind P w) ks vs) : ∀ v ∈ vs, ∃ k, (mixKind P w).is k v = true := by
  induction h with
  | nil => intro v hv; cases hv
  | cons h1 _ ih =>
    intro v hv
    rcases List.mem_cons.mp hv with rfl | hv
    · exact ⟨_, h1⟩
    · exact ih v hv
theorem key_hashBy (n : Nat) {k : Key} {v : Value} (h : (mixKind P w).is k v = true) : ∃ b, hashByValue n v = pure b := by
  rcases keyIs_shape h with ⟨i, u, rfl, rfl⟩ | ⟨x, u, rfl, rfl⟩
  · exact ⟨true, by cases n <;> rfl⟩
  · exact ⟨false, by cases n <;> rfl⟩

theorem tup_class {k : List Key} {b : Addr} {Q : Bool → Shared → Prop} (x : TupAt P w s.heap k b) (h : Q false s) : wpAny (model P w) A (ofAClassStatement 8 (.ref b)) Q E s := by
  have ty := x.typeIs
  obtain ⟨o, its, n, q, _, d, r⟩ := x
  unfold ofAClassStatement
  refine wpAny_bind (wpAny_typeOf ty ?_)
  dsimp only
  simp only [show (("tuple" : String) == "tuple") = true by decide, if_true, Bool.not_true, Bool.false_eq_true, if_false]
  try refine wpAny_bind (wpAny_pure ?_)
  try simp only [Bool.not_true, Bool.false_eq_true, if_false]
  show wpAny _ _ (seqItems? (.ref b) >>= _) _ _ s
  refine wpAny_bind (wpAny_seqItems q d ?_)
  dsimp only
  refine wpAny_bind ?_
  show wpAny _ _ (forIn its _ _) _ _ s
  rw [← Array.forIn_toList]
  refine wpAny_forIn_list _ (fun left r z => r.1 = none ∧ z = s ∧ ∀ v ∈ left, ∃ k, (mixKind P w).is k v = true) _ ?_ ?_ _ _ ⟨rfl, rfl, items_shape r⟩
  · rintro v left r z ⟨_, rfl, all⟩
    obtain ⟨k1, h1⟩ := all v List.mem_cons_self
    rw [key_class _ h1]
    refine wpAny_bind (wpAny_pure ?_)
    simp only [Bool.false_eq_true, if_false]
    exact wpAny_pure ⟨rfl, rfl, fun u hu => all u (List.mem_cons_of_mem _ hu)⟩
  · rintro ⟨r1, r2⟩ z ⟨hr, rfl, _⟩
    simp only at hr
    subst hr
    exact wpAny_pure h
theorem tup_hashBy {k : List Key} {b : Addr} {Q : Bool → Shared → Prop} (x : TupAt P w s.heap k b) (h : ∀ y, Q y s) : wpAny (model P w) A (hashByValue 8 (.ref b)) Q E s := by
  have ty := x.typeIs
  obtain ⟨o, its, n, q, _, d, r⟩ := x
  unfold hashByValue
  refine wpAny_bind (wpAny_specialOf ty F.slot_tuple_hash.lookup ?_)
  show wpAny _ _ (seqItems? (.ref b) >>= _) _ _ s
  refine wpAny_bind (wpAny_seqItems q d ?_)
  refine wpAny_bind ?_
  show wpAny _ _ (forIn its _ _) _ _ s
  rw [← Array.forIn_toList]
  refine wpAny_forIn_list _ (fun left r z => z = s ∧ (∀ v ∈ left, ∃ k, (mixKind P w).is k v = true)) _ ?_ ?_ _ _ ⟨rfl, items_shape r⟩
  · rintro v left r z ⟨rfl, all⟩
    obtain ⟨k1, h1⟩ := all v List.mem_cons_self
    obtain ⟨y, hy⟩ := key_hashBy (P := P) (w := w) 7 h1
    rw [hy]
    refine wpAny_bind (wpAny_pure ?_)
    cases y
    · simp only [Bool.not_false, if_true]
      exact wpAny_pure (by dsimp only; exact wpAny_pure (h _))
    · simp only [Bool.not_true, Bool.false_eq_true, if_false]
      exact wpAny_pure ⟨rfl, fun u hu => all u (List.mem_cons_of_mem _ hu)⟩
  · rintro ⟨r1, r2⟩ z ⟨rfl, _⟩
    cases r1
    · exact wpAny_pure (h _)
    · exact wpAny_pure (h _)
theorem tup_seen {k : List Key} {b : Addr} {Q : Bool → Shared → Prop} (x : TupAt P w s.heap k b) {ys : List Value} (hy : ∀ y ∈ ys, ∃ c k2, y = Value.ref c ∧ TupAt P w s.heap k2 c) (h : Q false s) :
    wpAny (model P w) A (searchCouldBeSeen (.ref b) ys) Q E s := by
  unfold searchCouldBeSeen
  refine wpAny_bind ?_
  refine wpAny_forIn_list _ (fun left r z => r.1 = none ∧ z = s ∧ ∀ y ∈ left, ∃ c k2, y = Value.ref c ∧ TupAt P w s.heap k2 c) _ ?_ ?_ _ _ ⟨rfl, rfl, hy⟩
  · rintro v left r z ⟨_, rfl, all⟩
    obtain ⟨c, k2, rfl, xc⟩ := all v List.mem_cons_self
    have all2 : ∀ y ∈ left, ∃ c k2, y = Value.ref c ∧ TupAt P w z.heap k2 c := fun u hu => all u (List.mem_cons_of_mem _ hu)
    dsimp only
    by_cases same : (b == c || (carriedByValue (.ref b) && carriedByValue (.ref c))) = true
    · exact wp_if_pos same (wpAny_pure ⟨rfl, rfl, all2⟩)
    · refine wp_if_neg same (wpAny_bind (wpAny_eqIsQuiet_tuple x ?_))
      simp only [Bool.not_true, Bool.false_eq_true, if_false]
      refine wpAny_bind (wpAny_eqIsQuiet_tuple xc ?_)
      simp only [Bool.not_true, Bool.false_eq_true, if_false]
      refine wpAny_bind (tup_class x ?_)
      simp only [Bool.false_eq_true, if_false]
      refine wpAny_bind (tup_class xc ?_)
      simp only [Bool.false_eq_true, if_false]
      exact wpAny_pure ⟨rfl, rfl, all2⟩
  · rintro ⟨r1, r2⟩ z ⟨hr, rfl, _⟩
    simp only at hr
    subst hr
    exact wpAny_pure h
end
end Q
set_option Elab.async false
set_option linter.all false
set_option maxRecDepth 100000
set_option maxHeartbeats 4000000
namespace Q
open PySem PySem.Spec PyProof.Rows L2
section
variable {P : Program} {w : World} {A : Around} {E : Value → Shared → Prop} {s : Shared} {a : Addr} {es : Array (Int × Value)} {ep : Nat} {t : SetTable}

theorem spot_dummy (m : Nat) (x : Int) (c : Nat) : (spot m x c).dummy = none := by
  have main : ∀ (n : Nat) (q : SetTable.Probe), q.dummy = none → (nth m q n).dummy = none := by
    intro n
    induction n with
    | zero => exact fun q h => h
    | succ n ih =>
      refine fun q h => ih (adv m q) ?_
      unfold adv
      split
      · exact h
      · exact h
  exact main c _ rfl
theorem spot_shift (m : Nat) (x : Int) (c d : Nat) : nth m (spot m x c) d = spot m x (c + d) := (nth_add m c _ d).symm

/-- a key that is not there: the search ends at the first empty slot of its way -/
theorem search_new (R : Bag P w s.heap a es ep t) {x : Addr} {k : List Key} (hx : TupAt P w s.heap k x) (hu : A.units < cLine)
    (new : ∀ e ∈ es.toList, ∀ b k2, e = (tkh P w k2, Value.ref b) → TupAt P w s.heap k2 b → k2 ≠ k) {K : Nat} (hK1 : K < 10 * SetTable.turns t.mask)
    (hK2 : (spot t.mask (tkh P w k) K).j ∉ t.place.toList) (hK3 : ∀ c, c < K → (spot t.mask (tkh P w k) c).j ∈ t.place.toList)
    {Q : SetFound → Shared → Prop} (next : Q (.free (spot t.mask (tkh P w k) K).j false) s) :
    ∀ (f c : Nat) (stand : Option SetTable.Probe), stand.getD (t.probeStart (tkh P w k)) = spot t.mask (tkh P w k) c → c ≤ K → K - c < f →
      wpAny (model P w) A (setSearchFrom a (.ref x) (tkh P w k) true f stand) Q E s := by
  obtain ⟨o, ho, hex, hd⟩ := R.ob
  intro f
  induction f with
  | zero => exact fun c stand _ _ z => absurd z (Nat.not_lt_zero _)
  | succ f ih =>
    intro c stand st hc hf
    rw [setSearchFrom_succ]
    refine wpAny_bind (wpAny_setState_of ho hd R.fits ?_)
    dsimp only
    refine wp_if_neg (by unfold SetTable.gaveWay; rw [mask_odd R.tab.mok]; decide) ?_
    try refine wpAny_bind (wpAny_pure ?_)
    have spec := go_spec t R.tab.ris R.tab.dm (fun i => (es[i]?.map (·.1)).getD 0) (tkh P w k) (10 * SetTable.turns t.mask) (K - c) (spot t.mask (tkh P w k) c) (spot_dummy _ _ _) (by omega)
      (fun d hd => by rw [spot_shift]; exact hK3 _ (by omega)) (by rw [spot_shift, Nat.add_sub_cancel' hc]; exact hK2)
    rcases spec with ⟨d, i, hd1, hi, hh, _, pr⟩ | ⟨_, pr⟩
    · rw [spot_shift] at hi
      rw [spot_shift, spot_shift] at pr
      have pr2 : t.probe (fun i => (es[i]?.map (·.1)).getD 0) (tkh P w k) (stand.getD (t.probeStart (tkh P w k))) = some (.candidate (spot t.mask (tkh P w k) (c + d)).j i (spot t.mask (tkh P w k) (c + (d + 1)))) := by
        rw [st]
        exact pr
      rw [pr2]
      dsimp only
      have il : i < es.size := by
        have q1 := (List.getElem?_eq_some_iff.mp hi).1
        have q2 := R.tab.sz
        rw [List.length_map, Array.length_toList] at q2
        rw [Array.length_toList] at q1
        omega
      have ei : es[i]? = some es[i] := Array.getElem?_eq_getElem il
      have em : es[i] ∈ es.toList := Array.getElem_mem_toList il
      obtain ⟨b, k2, e2, xb⟩ := R.el _ em
      have ne : k2 ≠ k := new _ em b k2 e2 xb
      rw [e2] at ei
      have onward : wpAny (model P w) A (searchRest a (.ref x) (tkh P w k) true f es t (spot t.mask (tkh P w k) (c + d)).j i (spot t.mask (tkh P w k) (c + (d + 1)))) Q E s := by
        unfold searchRest
        rw [ei]
        dsimp only
        refine wpAny_bind (wpAny_holding (wpAny_eqBool_tuple hu xb hx ?_))
        refine wpAny_bind (wpAny_setState_of ho hd R.fits ?_)
        dsimp only
        refine wp_if_neg (by simp [ne]) ?_
        try refine wpAny_bind (wpAny_pure ?_)
        rw [sameMem]
        dsimp only
        simp only [if_true, slot_live R.tab.ris hi, ei]
        refine wpAny_bind (wpAny_isSame_ref_self (wpAny_bind (wpAny_pure ?_)))
        simp only [if_true]
        refine wp_if_neg (by simp [ne]) ?_
        exact ih (c + (d + 1)) _ rfl (by omega) (by omega)
      by_cases hl : t.led = true
      · refine wp_if_neg (by simp [hl]) ?_
        try refine wpAny_bind (wpAny_pure ?_)
        exact onward
      · refine wp_if_pos (by simp [hl]) ?_
        refine wpAny_bind (tup_seen hx (fun y hy => ?_) ?_)
        · obtain ⟨e, he, ee⟩ := List.mem_map.mp hy
          have inE : e ∈ es.toList := by
            have z : e ∈ es ∧ e.1 = tkh P w k := by simpa using he
            simpa using z.1
          obtain ⟨b2, k3, e3, x3⟩ := R.el e inE
          exact ⟨b2, k3, by rw [← ee, e3], x3⟩
        · refine wp_if_neg (by decide) ?_
          try refine wpAny_bind (wpAny_pure ?_)
          exact onward
    · rw [spot_shift, Nat.add_sub_cancel' hc] at pr
      have pr2 : t.probe (fun i => (es[i]?.map (·.1)).getD 0) (tkh P w k) (stand.getD (t.probeStart (tkh P w k))) = some (.empty (spot t.mask (tkh P w k) K).j none) := by
        rw [st]
        exact pr
      rw [pr2]
      dsimp only
      exact wpAny_pure next

/-- the table grows -/
theorem relay_bag {o : Obj} (ho : s.heap.get? a = some o) (hex : o.ExactSet) (hd : o.data = .set es ep t) (T : TabOk t (es.toList.map (·.1))) (fit : es.size ≤ t.mask)
    (el : ∀ e ∈ es.toList, ∃ b k, e = (tkh P w k, Value.ref b) ∧ TupAt P w s.heap k b) (ld : w.params.followText "set-order" = true ∨ t.led = true) (few : es.size < 64) {n M : Nat}
    (hn1 : SetTable.sizeAbove n - 1 = M) (hM : MaskOk M) (hn2 : SetTable.sizeAbove n ≤ 128) (hn3 : es.size * 5 < M * 3) {Q : Unit → Shared → Prop}
    (next : ∀ h' es2 ep2 t2, Heap.SameBut a s.heap h' → Bag P w h' a es2 ep2 t2 → es2.toList.Perm es.toList → Q () { s with heap := h' }) : wpAny (model P w) A (setRelay a n) Q E s := by
  obtain ⟨t2, order, e, po, T2, m2, l2, _, _⟩ := relaid_ok t (hs := es.map (·.1)) (wanted := n) hn1 hM (by rw [Array.size_map]; omega)
  rw [Array.size_map] at po
  obtain ⟨r1, r2⟩ := reorder es order (·.1) po
  rw [← r2] at T2
  have z2 : (order.filterMap (es[·]?)).size = es.size := by
    have q := r1.length_eq
    rw [Array.length_toList, Array.length_toList] at q
    exact q
  rw [setRelay_eq]
  refine wpAny_bind (wpAny_setState_of ho hd (tab_fits T fit) ?_)
  dsimp only
  refine wp_if_neg (by rw [sizeLine_eq]; omega) ?_
  try refine wpAny_bind (wpAny_pure ?_)
  rw [e]
  dsimp only
  refine wpAny_bind ?_
  refine wp_if_neg (by rw [z2]; simp) ?_
  try refine wpAny_bind (wpAny_pure ?_)
  refine wpAny_pure ?_
  dsimp only
  refine wpAny_storeSet_of ho hd ?_ (by rw [z2, sizeLine_eq]; omega)
  have sb : Heap.SameBut a s.heap (s.heap.update a (Obj.putSet (order.filterMap (es[·]?)) t2)) := Heap.SameBut.update ..
  refine next _ (order.filterMap (es[·]?)) (ep + 1) t2 sb ⟨⟨_, store_at ho hd, ⟨hex.1, hex.2.1, hex.2.2⟩, rfl⟩, T2, fun e1 he => ?_, by rw [l2]; exact ld, by rw [z2, m2]; exact hn3, by rw [z2]; exact few⟩ r1
  obtain ⟨b, k, e3, x3⟩ := el e1 (r1.mem_iff.mp he)
  exact ⟨b, k, e3, x3.mono fun o2 q => (sb.2 b (x3.notSet ho hd)).trans q⟩

theorem tab_plain {hs : List Int} (T : TabOk t hs) : TabOk { t with plain := false } hs := ⟨T.ris, T.dm, T.sz, T.mok, T.bd, T.reach⟩

/-- a new tuple comes in -/
theorem add_new (R : Bag P w s.heap a es ep t) {x : Addr} {k : List Key} (hx : TupAt P w s.heap k x) (hu : A.units < cLine)
    (new : ∀ e ∈ es.toList, ∀ b k2, e = (tkh P w k2, Value.ref b) → TupAt P w s.heap k2 b → k2 ≠ k) (few : es.size + 1 < 64) {Q : Bool → Shared → Prop}
    (next : ∀ h' es2 ep2 t2, Heap.SameBut a s.heap h' → Bag P w h' a es2 ep2 t2 → es2.toList.Perm ((tkh P w k, Value.ref x) :: es.toList) → Q true { s with heap := h' }) :
    wpAny (model P w) A (setAddHashed a (.ref x) (tkh P w k)) Q E s := by
  obtain ⟨o, ho, hex, hd⟩ := R.ob
  have room := R.room
  have lh : (es.toList.map (·.1)).length = es.size := by rw [List.length_map, Array.length_toList]
  obtain ⟨K, hK1, hK2, hK3⟩ := R.tab.first (by rw [lh]; omega) (tkh P w k)
  have hK4 : K < 100000 := by
    have q : 10 * SetTable.turns t.mask ≤ 1420 := by
      unfold SetTable.turns
      rcases R.tab.mok with e | e | e <;> omega
    omega
  unfold setAddHashed
  refine wpAny_holding ?_
  rw [show (100000 : Nat) = 99999 + 1 from rfl, setAddHashedIn_succ]
  refine wpAny_bind (wpAny_setState_of ho hd R.fits ?_)
  dsimp only
  refine wp_if_neg (by simp [byScan, Value.scannable]) ?_
  try refine wpAny_bind (wpAny_pure ?_)
  unfold setSearch
  refine wpAny_bind (search_new R hx hu new hK1 hK2 hK3 ?_ 100000 0 none rfl (Nat.zero_le _) (by omega))
  dsimp only
  refine wpAny_bind (wpAny_setState_of ho hd R.fits ?_)
  dsimp only
  obtain ⟨q1, q2, q3, q4, q5, q6, q7, q8, q9⟩ := R.tab.put hK2 hK3
  rw [lh] at q2 q9
  generalize hput : t.put (spot t.mask (tkh P w k) K).j = pt at q1 q3 q4 q5 q6 q7 q8 q9 ⊢
  obtain ⟨t1, p⟩ := pt
  dsimp only at q1 q3 q4 q5 q6 q7 q8 q9 ⊢
  subst q1
  have goal2 : ∀ t2 : SetTable, t2 = t1 ∨ t2 = { t1 with plain := false } → wpAny (model P w) A (do
      storeSet a (SetTable.insertAt es (SetTable.below t.place (spot t.mask (tkh P w k) K).j) (tkh P w k, Value.ref x)) t2
      if (!false && t2.tooFull) = true then setRelay a (SetTable.grown (es.size + 1))
      return true) Q E s := fun t2 ht2 => by
    have T2 : TabOk t2 ((es.toList.map (·.1)).take (SetTable.below t.place (spot t.mask (tkh P w k) K).j) ++ tkh P w k :: (es.toList.map (·.1)).drop (SetTable.below t.place (spot t.mask (tkh P w k) K).j)) := by
      rcases ht2 with rfl | rfl
      · exact q3
      · exact tab_plain q3
    have m2 : t2.mask = t.mask := by rcases ht2 with rfl | rfl <;> exact q4
    have l2 : t2.led = t.led := by rcases ht2 with rfl | rfl <;> exact q5
    have f2 : t2.fill = es.size + 1 := by rcases ht2 with rfl | rfl <;> exact q9
    clear q3 q4 q5 q6 q7 q8 q9 ht2 hput
    generalize SetTable.below t.place (spot t.mask (tkh P w k) K).j = p at q2 T2 ⊢
    have i1 : (SetTable.insertAt es p (tkh P w k, Value.ref x)).toList = es.toList.take p ++ (tkh P w k, Value.ref x) :: es.toList.drop p := SetTable.toList_insertAt ..
    have pm : (SetTable.insertAt es p (tkh P w k, Value.ref x)).toList.Perm ((tkh P w k, Value.ref x) :: es.toList) := by
      rw [i1]
      exact put_perm _ _ _
    rw [← List.map_take, ← List.map_drop, ← List.map_cons (f := fun e : Int × Value => e.1) (a := (tkh P w k, Value.ref x)), ← List.map_append, ← i1] at T2
    generalize SetTable.insertAt es p (tkh P w k, Value.ref x) = es1 at pm T2 ⊢
    have z1 : es1.size = es.size + 1 := by
      have q := pm.length_eq
      rw [List.length_cons, Array.length_toList, Array.length_toList] at q
      exact q
    refine wpAny_bind (wpAny_storeSet_of ho hd ?_ (by rw [z1, sizeLine_eq]; omega))
    have sb : Heap.SameBut a s.heap (s.heap.update a (Obj.putSet es1 t2)) := Heap.SameBut.update ..
    have ho1 := store_at (es' := es1) (t' := t2) ho hd
    generalize s.heap.update a (Obj.putSet es1 t2) = h1 at sb ho1 ⊢
    have el1 : ∀ e ∈ es1.toList, ∃ b k, e = (tkh P w k, Value.ref b) ∧ TupAt P w h1 k b := fun e he => by
      rcases List.mem_cons.mp (pm.mem_iff.mp he) with q | q
      · exact ⟨x, k, q, hx.mono fun o2 z => (sb.2 x (hx.notSet ho hd)).trans z⟩
      · obtain ⟨b, k3, e3, x3⟩ := R.el e q
        exact ⟨b, k3, e3, x3.mono fun o2 z => (sb.2 b (x3.notSet ho hd)).trans z⟩
    have ld1 : w.params.followText "set-order" = true ∨ t2.led = true := by rw [l2]; exact R.led
    have full : t2.tooFull = decide ((es.size + 1) * 5 ≥ t.mask * 3) := by
      unfold SetTable.tooFull
      rw [f2, m2]
    by_cases hf : t2.tooFull = true
    · have big : (es.size + 1) * 5 ≥ t.mask * 3 := by
        rw [full, decide_eq_true_eq] at hf
        exact hf
      first
        | (refine wpAny_bind ?_; refine wp_if_pos (by simp [hf]) ?_)
        | (refine wp_if_pos (by simp [hf]) ?_; refine wpAny_bind ?_)
      have two : (t.mask = 7 ∧ es.size = 4) ∨ (t.mask = 31 ∧ es.size = 18) := by
        rcases R.tab.mok with e | e | e <;> rw [e] at big room <;> first | (exact .inl ⟨e, by omega⟩) | (exact .inr ⟨e, by omega⟩) | (exfalso; omega)
      have grow : ∀ M, SetTable.sizeAbove (SetTable.grown (es.size + 1)) - 1 = M → MaskOk M → SetTable.sizeAbove (SetTable.grown (es.size + 1)) ≤ 128 → (es.size + 1) * 5 < M * 3 →
          wpAny (model P w) A (setRelay a (SetTable.grown (es.size + 1))) (fun _ z => wpAny (model P w) A (pure true) Q E z) E { s with heap := h1 } := fun M c1 c2 c3 c4 => by
        refine relay_bag (s := { s with heap := h1 }) ho1 ⟨hex.1, hex.2.1, hex.2.2⟩ rfl T2 (by rw [m2, z1]; rcases two with ⟨e, e2⟩ | ⟨e, e2⟩ <;> omega) el1 ld1 (by rw [z1]; exact few) c1 c2 c3 (by rw [z1]; exact c4) ?_
        intro h2 es2 ep2 t3 sb2 R2 pm2
        exact wpAny_pure (next h2 es2 ep2 t3 (sb.trans sb2) R2 (pm2.trans pm))
      rcases two with ⟨_, e2⟩ | ⟨_, e2⟩
      · exact grow 31 (by rw [e2, size_20]) (.inr (.inl rfl)) (by rw [e2, size_20]; decide) (by omega)
      · exact grow 127 (by rw [e2, size_76]) (.inr (.inr rfl)) (by rw [e2, size_76]; decide) (by omega)
    · first
        | refine wp_if_neg (by simp [hf]) ?_
        | (refine wpAny_bind ?_; refine wp_if_neg (by simp [hf]) ?_; refine wpAny_pure ?_)
      refine wpAny_pure (next h1 es1 (ep + 1) t2 sb ⟨⟨_, ho1, ⟨hex.1, hex.2.1, hex.2.2⟩, rfl⟩, T2, el1, ld1, ?_, by rw [z1]; exact few⟩ pm)
      rw [full, decide_eq_true_eq] at hf
      rw [z1, m2]
      omega
  by_cases hp : t1.plain = true
  · first
      | (refine wpAny_bind ?_; refine wp_if_pos hp ?_; refine tup_hashBy hx fun y => ?_)
      | refine wp_if_pos hp (wpAny_bind (tup_hashBy hx fun y => ?_))
    cases y
    · exact goal2 _ (.inr rfl)
    · exact goal2 _ (.inl rfl)
  · first
      | (refine wpAny_bind ?_; refine wp_if_neg hp ?_; refine wpAny_pure ?_)
      | refine wp_if_neg hp (wpAny_bind (wpAny_pure ?_))
      | refine wp_if_neg hp ?_
    exact goal2 _ (.inl rfl)
end
end Q
set_option Elab.async false
set_option linter.all false
set_option maxRecDepth 100000
set_option maxHeartbeats 4000000
namespace Q
open PySem PySem.Spec PyProof.Rows L2
section
variable {P : Program} {w : World} {A : Around} {E : Value → Shared → Prop} {s : Shared}

/-- the loop that fills a set; J: what holds behind i items -/
theorem fill_loop {I : Addr} {fp wr : List Addr} {G : Array GenState → Array GenState → Prop} {n : Nat} {Pv : Nat → Value → Prop} {St : Nat → Shared → Prop} {R : Result → Shared → Prop}
    (W : WalksS P w A.in1 I fp wr G n Pv St) (S : Addr) (apart : S ∉ fp) (J : Nat → Heap → Prop)
    (moves : ∀ i h h', J i h → (∀ b o, b ∉ wr → h.get? b = some o → h'.get? b = some o) → J i h')
    (step : ∀ (E : Value → Shared → Prop) (i : Nat) (v : Value) (z : Shared) (Q : Bool → Shared → Prop), i < n → Pv i v → J i z.heap →
      (∀ b h' tk, z.toks ≤ tk → Heap.SameBut S z.heap h' → J (i + 1) h' → Q b { z with heap := h', toks := tk }) → wpAny (model P w) A.in1 (setAdd S v) Q E z) :
    ∀ (k i : Nat) (z : Shared), n - i = k → i ≤ n → St i z → J i z.heap → (∀ z', Moved (S :: wr) G z z' → J n z'.heap → R (.ok (.ret .none)) z') →
      codeAny (model P w) A (.builtin "set.update.loop" ⟨[.ref S, .ref I], []⟩) R z := by
  have wide : ∀ b ∈ wr, b ∈ S :: wr := fun _ q => List.mem_cons_of_mem _ q
  intro k
  induction k with
  | zero =>
    intro i z ek hi st j fin
    have ei : i = n := by omega
    subst ei
    refine codeAny_builtin F.entry_set_update_loop ?_
    rw [Around.under_plainId F.plain_set_update_loop _]
    show wpAny _ A.in1 (pyNext (.ref I) >>= _) _ _ z
    refine wpAny_bind (W.done z _ _ st fun z1 mv => ?_)
    show wpAny _ A.in1 (ret Value.none) _ _ z1
    exact wpAny_pure (fin z1 (mv.mono wide) (moves _ _ _ j fun b o nb q => mv.heap b o nb q))
  | succ k ih =>
    intro i z ek hi st j fin
    have lt : i < n := by omega
    refine codeAny_builtin F.entry_set_update_loop ?_
    rw [Around.under_plainId F.plain_set_update_loop _]
    show wpAny _ A.in1 (pyNext (.ref I) >>= _) _ _ z
    refine wpAny_bind (W.item i z _ _ lt st fun v z1 pv st1 mv => ?_)
    have j1 := moves _ _ _ j fun b o nb q => mv.heap b o nb q
    show wpAny _ A.in1 (holding [v] (setAdd S v) >>= _) _ _ z1
    refine wpAny_bind (wpAny_holding ?_)
    refine step _ i v z1 _ lt pv j1 fun b h' tk le sb j2 => ?_
    refine wpAny_pure ⟨plainId_quiet F.plain_set_update_loop _, ih (i + 1) _ (by omega) lt (W.frame _ z1 _ _ st1 le fun c hc o q => ?_) j2 fun z2 mv2 j3 => ?_⟩
    · rw [sb.2 c fun e : c = S => apart (by rw [← e]; exact hc)]
      exact q
    · refine fin z2 (Moved.trans W.gtrans ((mv.mono wide).then_heap le fun c o hc q => ?_) mv2) j3
      rw [sb.2 c fun e : c = S => hc (by rw [e]; exact List.mem_cons_self)]
      exact q

/-- a set of a list, by what each item's coming in does -/
theorem set_filled {l : Addr} {items : Array Value} {Q : Value → Shared → Prop} (J : Nat → Heap → Prop) (hh : A.handled = none) (hl : s.heap.IsList l items)
    (begin_ : J 0 (laidTwo w s.heap l))
    (moves : ∀ i h h', J i h → (∀ b o, b ≠ (s.heap.push (noneYet w)).objs.size → h.get? b = some o → h'.get? b = some o) → J i h')
    (step : ∀ (E : Value → Shared → Prop) (i : Nat) (v : Value) (z : Shared) (Q : Bool → Shared → Prop), i < items.size → items[i]? = some v → J i z.heap →
      (∀ b h' tk, z.toks ≤ tk → Heap.SameBut s.heap.objs.size z.heap h' → J (i + 1) h' → Q b { z with heap := h', toks := tk }) → wpAny (model P w) A.in1.in1.in1 (setAdd s.heap.objs.size v) Q E z)
    (next : ∀ (h' : Heap) (tk : Nat), (∀ b o, s.heap.get? b = some o → h'.get? b = some o) → J items.size h' → Q (.ref s.heap.objs.size) { s with heap := h', toks := tk }) :
    wpAny (model P w) A (call (.type "set") [.ref l]) Q E s := by
  obtain ⟨o, ho, hc, n, hd⟩ := id hl
  have ll : l < s.heap.objs.size := Heap.lt_size ho
  have z1 : (s.heap.push (noneYet w)).objs.size = s.heap.objs.size + 1 := Heap.size_push ..
  have lis1 : (s.heap.push (noneYet w)).IsList l items := ⟨o, Heap.get?_push_of_some _ ho, hc, n, hd⟩
  have h3 : A.in1.in1.in1.handled = none := by simp [hh]
  have nI : l ≠ (s.heap.push (noneYet w)).objs.size := by rw [z1]; exact Nat.ne_of_lt (Nat.lt_succ_of_lt ll)
  have apart : s.heap.objs.size ∉ [(s.heap.push (noneYet w)).objs.size, l] := by
    rw [z1]
    simp only [List.mem_cons, List.mem_singleton, List.not_mem_nil, or_false, not_or]
    exact ⟨Nat.ne_of_lt (Nat.lt_succ_self _), Nat.ne_of_gt ll⟩
  refine set_shell (fun h' => J items.size h' ∧ ∀ b o, s.heap.get? b = some o → h'.get? b = some o) hl ?_ fun h' tk q => next h' tk q.2 q.1
  refine fill_loop (A := A.in1.in1) (n := items.size) (Walks.list h3 (s.heap.push (noneYet w)).objs.size l nI items).toS s.heap.objs.size apart J
    (fun i h h' j k => moves i h h' j fun b o nb q => k b o (by simpa using nb) q) (fun E i v z Q lt pv j k => step E i v z Q lt pv j k)
    (items.size - 0) 0 _ rfl (Nat.zero_le _) ⟨⟨_, Heap.get?_push_size _ rfl, rfl, rfl⟩, lis1.push _⟩ begin_ fun z' mv j => ⟨rfl, mv.gens, mv.drawn, mv.os, j, fun b o q => ?_⟩
  have lb : b < s.heap.objs.size := Heap.lt_size q
  refine mv.heap b o ?_ (laid_old q)
  rw [z1]
  simp only [List.mem_cons, List.mem_singleton, List.not_mem_nil, or_false, not_or]
  exact ⟨Nat.ne_of_lt lb, Nat.ne_of_lt (Nat.lt_succ_of_lt lb)⟩
end
end Q
set_option Elab.async false
set_option linter.all false
set_option maxRecDepth 100000
set_option maxHeartbeats 4000000
namespace Q
open PySem PySem.Spec PyProof.Rows L2 PySem.Froz
section
variable {P : Program} {w : World} {A : Around} {E : Value → Shared → Prop} {s : Shared}

theorem addTx_more {D : SD} {x : Int} {v : Value} (r : Ris D.2.2.place.toList) :
    Ris (addTx x v D).2.2.place.toList ∧ (addTx x v D).2.2.led = D.2.2.led ∧ (addTx x v D).1.toList.Perm ((x, v) :: D.1.toList) := by
  have r1 := layNew_ris D.2.2 D.1 x v r
  have l1 := layNew_led D.2.2 D.1 x v
  have p1 := layNew_perm D.2.2 D.1 x v
  rw [Array.toList_push] at p1
  have p2 := p1.trans (List.perm_append_singleton _ _)
  unfold addTx tailTx
  generalize hT : (if (layNew D.2.2 D.1 x v).2.1.plain = true then { (layNew D.2.2 D.1 x v).2.1 with plain := false } else (layNew D.2.2 D.1 x v).2.1) = T
  have rT : Ris T.place.toList := by rw [← hT]; split <;> exact r1
  have lT : T.led = D.2.2.led := by rw [← hT]; split <;> exact l1
  split
  · exact ⟨relayAll_ris _ _ _, (relayAll_led _ _ _).trans lT, (relayAll_perm _ _ _).trans p2⟩
  · exact ⟨rT, lT, p2⟩

/-- behind i texts -/
def TxtJ (P : Program) (w : World) (S : Addr) (items : List Value) (ys : List Str) (i : Nat) (h : Heap) : Prop :=
  ∃ D : SD, h.get? S = some (sObj "set" D) ∧ TxOk P w D (ys.take i).reverse ∧ Ris D.2.2.place.toList ∧ (w.params.followText "set-order" = true ∨ D.2.2.led = true) ∧
    (D.1.toList.map (·.2)).Perm (items.take i)

theorem strs_get {vs : List Value} {ys : List Str} (r : StrsAre vs ys) : ∀ {i : Nat} {v : Value}, vs[i]? = some v → ∃ y t, ys[i]? = some y ∧ v = .str y t := by
  induction r with
  | nil => intro i v h; simp at h
  | cons y t _ ih =>
    intro i v h
    cases i with
    | zero =>
      simp at h
      exact ⟨y, t, rfl, h.symm⟩
    | succ i =>
      simp only [List.getElem?_cons_succ] at h ⊢
      exact ih h
theorem not_taken {ys : List Str} (nd : ys.Nodup) {i : Nat} {y : Str} (h : ys[i]? = some y) : y ∉ (ys.take i).reverse := by
  rw [List.mem_reverse]
  intro hm
  obtain ⟨j, hj, e⟩ := List.getElem_of_mem hm
  rw [List.length_take] at hj
  rw [List.getElem_take] at e
  obtain ⟨hi, ei⟩ := List.getElem?_eq_some_iff.mp h
  exact List.pairwise_iff_getElem.mp nd j i (by omega) hi (by omega) (by rw [e, ei])

theorem set_texts {l : Addr} {items : Array Value} {ys : List Str} {Q : Value → Shared → Prop} (hh : A.handled = none) (hl : s.heap.IsList l items) (r : StrsAre items.toList ys) (nd : ys.Nodup) (few : ys.length < 4000)
    (next : ∀ (h' : Heap) (tk : Nat), (∀ b o, s.heap.get? b = some o → h'.get? b = some o) → Members w h' s.heap.objs.size items.toList → Q (.ref s.heap.objs.size) { s with heap := h', toks := tk }) :
    wpAny (model P w) A (call (.type "set") [.ref l]) Q E s := by
  have ly : items.size = ys.length := by rw [← StrsAre.len_eq r, Array.length_toList]
  refine set_filled (TxtJ P w s.heap.objs.size items.toList ys) hh hl ?_ (fun i h h' j k => ?_) (fun E i v z Q lt pv j k => ?_) fun h' tk kp j => ?_
  · refine ⟨(#[], 0, .fresh 0 0 (!w.params.followText "set-order")), laid_set _ _, TxOk.nil (by rfl), List.Pairwise.nil, ?_, .nil⟩
    show _ ∨ (!w.params.followText "set-order") = true
    cases w.params.followText "set-order"
    · exact .inr rfl
    · exact .inl rfl
  · obtain ⟨D, e, rest⟩ := j
    refine ⟨D, k _ _ ?_ e, rest⟩
    rw [Heap.size_push]
    exact Nat.ne_of_lt (Nat.lt_succ_self _)
  · obtain ⟨D, e, tx, ri, ld, pm⟩ := j
    obtain ⟨y, t, ey, rfl⟩ := strs_get r (i := i) (v := v) (by rw [Array.getElem?_toList]; exact pv)
    unfold setAdd
    refine wpAny_holding ?_
    refine wpAny_bind ((PySem.strKind P w).pyHash (k := y) (is_str y t) ?_)
    have fresh := not_taken nd ey
    have lt2 : (ys.take i).reverse.length + 1 < scanBound := by
      rw [List.length_reverse, List.length_take]
      show _ < 4096
      omega
    refine add_x (s := { z with toks := z.toks + 1 }) e tx fresh lt2 (k true _ _ (Nat.le_succ _) (Heap.SameBut.update ..) ?_)
    obtain ⟨m1, m2, m3⟩ := addTx_more (x := hashStr w y) (v := .str y t) ri
    refine ⟨addTx (hashStr w y) (.str y t) D, get_upd _ e rfl, ?_, m1, by rw [m2]; exact ld, ?_⟩
    · have q := add_ok t tx (k := y)
      have e2 : (ys.take (i + 1)).reverse = y :: (ys.take i).reverse := by
        rw [List.take_add_one, ey]
        simp
      rw [e2]
      exact q
    · have e3 : items.toList.take (i + 1) = items.toList.take i ++ [.str y t] := by
        rw [List.take_add_one, Array.getElem?_toList, pv]
        rfl
      rw [e3]
      exact ((m3.map (·.2)).trans (List.Perm.cons _ pm)).trans (List.perm_append_singleton _ _).symm
  · obtain ⟨D, e, tx, ri, ld, pm⟩ := j
    have el : items.toList.take items.size = items.toList := List.take_of_length_le (by rw [Array.length_toList]; exact Nat.le_refl _)
    rw [el] at pm
    refine next h' tk kp ⟨D.1, D.2.1, D.2.2, ⟨_, e, rfl, rfl⟩, pm, tx.fit, ?_, ri, ld⟩
    have q := tx.sz
    rw [List.length_reverse, List.length_take] at q
    show _ < 4096
    omega

/-- behind i tuples -/
def TupJ (P : Program) (w : World) (S : Addr) (h0 : Heap) (ks : List (Addr × List Key)) (i : Nat) (h : Heap) : Prop :=
  (∀ b o, h0.get? b = some o → h.get? b = some o) ∧ ∃ es ep t, Bag P w h S es ep t ∧ es.toList.Perm ((ks.take i).map fun p => (tkh P w p.2, Value.ref p.1))

theorem set_tups {l : Addr} {items : Array Value} {ks : List (Addr × List Key)} {Q : Value → Shared → Prop} (hh : A.handled = none) (hu : A.units + 3 < cLine) (hl : s.heap.IsList l items)
    (it : items.toList = ks.map fun p => Value.ref p.1) (tp : ∀ p ∈ ks, TupAt P w s.heap p.2 p.1) (nd : (ks.map (·.2)).Nodup) (few : ks.length < 64)
    (next : ∀ (h' : Heap) (tk : Nat), (∀ b o, s.heap.get? b = some o → h'.get? b = some o) → Members w h' s.heap.objs.size items.toList → Q (.ref s.heap.objs.size) { s with heap := h', toks := tk }) :
    wpAny (model P w) A (call (.type "set") [.ref l]) Q E s := by
  have lk : items.size = ks.length := by rw [← Array.length_toList, it, List.length_map]
  have none_ : ∀ b, s.heap.objs.size ≤ b → ∀ c o, s.heap.get? c = some o → c ≠ b := fun b hb c o q e => by
    have lt := Heap.lt_size q
    rw [e] at lt
    exact absurd (Nat.lt_of_lt_of_le lt hb) (Nat.lt_irrefl _)
  refine set_filled (TupJ P w s.heap.objs.size s.heap ks) hh hl ?_ (fun i h h' j k => ?_) (fun E i v z Q lt pv j k => ?_) fun h' tk kp j => ?_
  · refine ⟨fun b o q => laid_old q, #[], 0, .fresh 0 0 (!w.params.followText "set-order"), ⟨⟨_, laid_set _ _, ⟨rfl, rfl, rfl⟩, rfl⟩, ?_, fun e he => (by cases he), ?_, ?_, ?_⟩, .nil⟩
    · exact ⟨List.Pairwise.nil, rfl, rfl, .inl rfl, fun x hx => (by cases hx), fun i x j hi => (by simp at hi)⟩
    · show _ ∨ (!w.params.followText "set-order") = true
      cases w.params.followText "set-order"
      · exact .inr rfl
      · exact .inl rfl
    · show 0 * 5 < 7 * 3
      decide
    · show 0 < 64
      decide
  · obtain ⟨old, es, ep, t, B, pm⟩ := j
    have kb : ∀ b o, s.heap.get? b = some o → h'.get? b = some o := fun b o q => k b o (none_ _ (by rw [Heap.size_push]; exact Nat.le_succ _) b o q) (old b o q)
    obtain ⟨o, ho, rest⟩ := B.ob
    refine ⟨kb, es, ep, t, ⟨⟨o, k _ _ ?_ ho, rest⟩, B.tab, fun e he => ?_, B.led, B.room, B.few⟩, pm⟩
    · rw [Heap.size_push]
      exact Nat.ne_of_lt (Nat.lt_succ_self _)
    · obtain ⟨p, hp, ep⟩ := List.mem_map.mp (pm.mem_iff.mp he)
      exact ⟨p.1, p.2, ep.symm, (tp p (List.mem_of_mem_take hp)).mono fun o q => kb _ o q⟩
  · obtain ⟨old, es, ep, t, B, pm⟩ := j
    have sz : es.size = i := by
      have q := pm.length_eq
      rw [List.length_map, List.length_take, Array.length_toList] at q
      omega
    have hi : i < ks.length := by omega
    have ev : v = .ref ks[i].1 := by
      have q : items.toList[i]? = some v := by rw [Array.getElem?_toList]; exact pv
      rw [it, List.getElem?_map, List.getElem?_eq_getElem hi] at q
      exact (Option.some.inj q).symm
    have eg : ks[i]? = some ks[i] := List.getElem?_eq_getElem hi
    have hm : ks[i] ∈ ks := List.getElem_mem hi
    generalize ks[i] = p at ev eg hm
    subst ev
    have xp : TupAt P w z.heap p.2 p.1 := (tp p hm).mono fun o q => old _ o q
    unfold setAdd
    refine wpAny_holding ?_
    have hu3 : A.in1.in1.in1.in1.units ≤ A.units + 4 := Nat.le_refl _
    refine wpAny_bind (wpAny_pyHash_tuple (by show A.units + 3 < cLine; exact hu) xp ?_)
    refine add_new (s := { z with toks := z.toks + (p.2.length + 1) }) B xp (by show A.units + 3 < cLine; exact hu) (fun e he b k2 ee xb => ?_) (by omega) fun h' es2 ep2 t2 sb B2 pm2 => ?_
    · obtain ⟨p2, hp2, e2⟩ := List.mem_map.mp (pm.mem_iff.mp he)
      rw [ee] at e2
      injection e2 with _ e3
      injection e3 with e3
      have x2 : TupAt P w z.heap p2.2 p2.1 := (tp p2 (List.mem_of_mem_take hp2)).mono fun o q => old _ o q
      rw [e3] at x2
      have ek : k2 = p2.2 := xb.inj x2
      rw [ek]
      intro same
      obtain ⟨j, hj, ej⟩ := List.getElem_of_mem hp2
      rw [List.length_take] at hj
      rw [List.getElem_take] at ej
      have e4 : ks[i] = p := by
        rw [List.getElem?_eq_getElem hi] at eg
        exact Option.some.inj eg
      exact List.pairwise_iff_getElem.mp nd j i (by rw [List.length_map]; omega) (by rw [List.length_map]; omega) (by omega) (by simp [ej, e4, same])
    · refine k true h' _ (Nat.le_add_right _ _) sb ⟨fun b o q => ?_, es2, ep2, t2, B2, ?_⟩
      · rw [sb.2 b (none_ _ (Nat.le_refl _) b o q)]
        exact old b o q
      · have e3 : ks.take (i + 1) = ks.take i ++ [p] := by
          rw [List.take_add_one, eg]
          rfl
        rw [e3, List.map_append]
        exact (pm2.trans (List.Perm.cons _ pm)).trans (List.perm_append_singleton _ _).symm
  · obtain ⟨old, es, ep, t, B, pm⟩ := j
    have el : ks.take items.size = ks := List.take_of_length_le (by omega)
    rw [el] at pm
    obtain ⟨o, ho, hx, hd⟩ := B.ob
    refine next h' tk kp ⟨es, ep, t, ⟨o, ho, hx.1, hd⟩, ?_, tab_fits B.tab (by have := B.room; omega), ?_, B.tab.ris, B.led⟩
    · have q := pm.map (·.2)
      rw [List.map_map] at q
      rw [it]
      exact q
    · have q := B.few
      show _ < 4096
      omega
end
end Q
set_option Elab.async false
set_option linter.all false
set_option maxRecDepth 100000
set_option maxHeartbeats 4000000
namespace Q
open PySem PySem.Spec PyProof.Rows L2 PySem.W

/-! the order of texts and of tuples of texts and numbers -/
abbrev tLe (x y : Str) : Prop := x.cps.toList ≤ y.cps.toList
abbrev tLt (x y : Str) : Prop := x.cps.toList < y.cps.toList
theorem str_ext {x y : Str} (h : x.cps.toList = y.cps.toList) : x = y := by
  cases x
  cases y
  congr
  exact Array.ext' h
theorem tLe_lt {x y : Str} (h : tLe x y) (ne : x ≠ y) : tLt x y := by
  rcases Classical.em (tLt x y) with q | q
  · exact q
  · exact absurd (str_ext (List.le_antisymm h (List.not_lt.mp q))) ne

def kD : Key → PyData
  | .inl i => .int i
  | .inr x => .str x
def kLt : Key → Key → Bool
  | .inl i, .inl j => decide (i < j)
  | .inr x, .inr y => decide (tLt x y)
  | _, _ => false
def ksLt : List Key → List Key → Bool
  | a :: as, b :: bs => if a = b then ksLt as bs else kLt a b
  | _, _ => false
abbrev shape (ks : List Key) : List Bool := ks.map Sum.isLeft

theorem kD_alike : ∀ {a b : Key}, a.isLeft = b.isLeft → alike (kD a) (kD b) = true
  | .inl _, .inl _, _ => by simp [kD, alike]
  | .inr _, .inr _, _ => by simp [kD, alike]
theorem kD_eqv : ∀ {a b : Key}, a.isLeft = b.isLeft → (PyData.eqv (kD a) (kD b) = true ↔ a = b)
  | .inl i, .inl j, _ => by simp [kD, PyData.eqv]
  | .inr x, .inr y, _ => by simp [kD, PyData.eqv]
theorem kD_lt : ∀ {a b : Key}, a.isLeft = b.isLeft → dataLt (kD a) (kD b) = kLt a b
  | .inl i, .inl j, _ => by simp only [kD, kLt]; exact dataLt_int i j
  | .inr x, .inr y, _ => by simp only [kD, kLt]; exact dataLt_str x y
theorem alikeAll_keys : ∀ {ks ls : List Key}, shape ks = shape ls → alikeAll (ks.map kD) (ls.map kD) = true
  | [], [], _ => by simp [alikeAll]
  | a :: ks, b :: ls, h => by
    simp only [shape, List.map_cons, List.cons.injEq] at h
    simp only [List.map_cons]
    rw [alikeAll, alikeAll_keys h.2, kD_alike h.1]
    rfl
theorem tup_lt : ∀ {ks ls : List Key}, shape ks = shape ls → dataLt (.tuple (ks.map kD)) (.tuple (ls.map kD)) = ksLt ks ls := by
  have main : ∀ {ks ls : List Key}, shape ks = shape ls → lexLt itemOrd (keyToksAll (ks.map kD)) (keyToksAll (ls.map kD)) = ksLt ks ls := by
    intro ks
    induction ks with
    | nil =>
      intro ls h
      cases ls with
      | nil => exact lex_irrefl _
      | cons b ls => cases h
    | cons a ks ih =>
      intro ls h
      cases ls with
      | nil => cases h
      | cons b ls =>
        simp only [shape, List.map_cons, List.cons.injEq] at h
        rw [List.map_cons, List.map_cons, dataLt_cons (kD_alike h.1), ih h.2, kD_lt h.1]
        unfold ksLt
        by_cases e : a = b
        · rw [if_pos ((kD_eqv h.1).2 e), if_pos e]
          cases ks <;> cases ls <;> rfl
        · rw [if_neg (fun q => e ((kD_eqv h.1).1 q)), if_neg e]
  intro ks ls h
  rw [dataLt_tuple]
  exact main h
theorem kLt_total : ∀ {a b : Key}, a.isLeft = b.isLeft → a ≠ b → kLt b a = false → kLt a b = true
  | .inl i, .inl j, _, ne, h => by
    simp only [kLt, decide_eq_false_iff_not, decide_eq_true_eq] at h ⊢
    have : i ≠ j := fun e => ne (by rw [e])
    omega
  | .inr x, .inr y, _, ne, h => by
    simp only [kLt, decide_eq_false_iff_not, decide_eq_true_eq] at h ⊢
    exact tLe_lt (List.not_lt.mp h) fun e => ne (by rw [e])
theorem ksLt_total : ∀ {ks ls : List Key}, shape ks = shape ls → ks ≠ ls → ksLt ls ks = false → ksLt ks ls = true
  | [], [], _, ne, _ => absurd rfl ne
  | a :: ks, b :: ls, h, ne, q => by
    simp only [shape, List.map_cons, List.cons.injEq] at h
    unfold ksLt at q ⊢
    by_cases e : a = b
    · subst e
      rw [if_pos rfl] at q ⊢
      exact ksLt_total h.2 (fun z => ne (by rw [z])) q
    · rw [if_neg (Ne.symm e)] at q
      rw [if_neg e]
      exact kLt_total h.1 e q
theorem depth_keys : ∀ ks : List Key, PyData.depthAll (ks.map kD) = 0
  | [] => by simp [PyData.depthAll]
  | .inl i :: ks => by
    rw [List.map_cons, PyData.depthAll, depth_keys ks]
    simp [kD, PyData.depth]
  | .inr x :: ks => by
    rw [List.map_cons, PyData.depthAll, depth_keys ks]
    simp [kD, PyData.depth]

/-! as rules -/
def SetM (w : World) (a : Addr) (us : List Value) : HO := .ext fun h => Members w h a us
section
variable {X : Cx} {pins : List (Addr × Obj)} {σ : L2.St} {H : Hp} {s : Shared}
theorem setM_new {P : Program} {w : World} {H : Hp} {h : Heap} {a : Addr} {us : List Value} (m : Members w h a us) : ObjOk P w H h a (SetM w a us) := ⟨m, m.ob, fun _ _ p k => Members.at p k⟩

/-- set(xs), xs a list of unlike texts -/
def rSetTx (K : PySem.W.Frag) (w : World) : List V → Hp → VK → Prop := fun xs H Q => ∃ (l : Addr) (ys : List Str), xs = [V.ref l] ∧ SqL K H l (ys.map V.str) ∧ ys.Nodup ∧ ys.length < 4000 ∧
  ∀ a us, Vals (ys.map V.str) us → H a = none → Q (.ref a) (upd H a (SetM w a us))
theorem cr_setTx (hc : X.calm = true) : CallR X (.type "set") (rSetTx X.K X.w) := by
  intro pins s σ H xs us Q I r h
  obtain ⟨l, ys, rfl, hl, nd, few, q⟩ := h
  rw [Vals.ref1 r]
  obtain ⟨its, rv, pl, _⟩ := I.list hl
  refine set_texts (P := X.prog) (w := X.w) (items := its.toArray) (I.ok.hd hc) pl.isList (strsAre_of rv) nd few fun h' tk kp m => ?_
  exact ⟨.ref s.heap.objs.size, _, I.laid (t' := tk) kp (Nat.le_refl _) (setM_new m), rfl, q _ _ rv (I.hok.fresh (Nat.le_refl _))⟩

/-- set(xs), xs a list of unlike tuples of texts and numbers -/
def rSetTu (K : PySem.W.Frag) (w : World) : List V → Hp → VK → Prop := fun xs H Q => ∃ (l : Addr) (ks : List (Addr × List Key)), xs = [V.ref l] ∧ SqL K H l (ks.map fun p => V.ref p.1) ∧
  (∀ p ∈ ks, SqT K H p.1 (p.2.map kV)) ∧ (ks.map (·.2)).Nodup ∧ ks.length < 64 ∧ ∀ a, H a = none → Q (.ref a) (upd H a (SetM w a (ks.map fun p => Value.ref p.1)))
theorem items_keys {P : Program} {w : World} : ∀ {k : List Key} {us : List Value}, Vals (k.map kV) us → ItemsAre (mixKind P w) k us
  | [], _, .nil => .nil
  | .inl i :: k, _, .cons r t => by
    obtain ⟨tk, rfl⟩ := r
    exact .cons (mixKind_int P w i tk) (items_keys t)
  | .inr x :: k, _, .cons r t => by
    obtain ⟨tk, rfl⟩ := r
    exact .cons (mixKind_str P w x tk) (items_keys t)
theorem vals_rows : ∀ {ks : List (Addr × List Key)} {us : List Value}, Vals (ks.map fun p => V.ref p.1) us → us = ks.map fun p => Value.ref p.1
  | [], _, .nil => rfl
  | _ :: ks, _, .cons r t => by
    cases r
    rw [vals_rows t, List.map_cons]
theorem rows_vals : ∀ (ks : List (Addr × List Key)), Vals (ks.map fun p => V.ref p.1) (ks.map fun p => Value.ref p.1)
  | [] => .nil
  | _ :: ks => .cons rfl (rows_vals ks)
theorem tupAt_of (I : Inv X pins σ H s) {b : Addr} {k : List Key} (h : SqT X.K H b (k.map kV)) : TupAt X.prog X.w s.heap k b := by
  obtain ⟨its, r, ⟨o, ho, hc, n, hd⟩, _⟩ := I.tuple h
  exact ⟨o, its.toArray, n, ho, hc, hd, by simpa using items_keys r⟩
theorem cr_setTu (hc : X.calm = true) (hu : X.A.units + 3 < cLine) : CallR X (.type "set") (rSetTu X.K X.w) := by
  intro pins s σ H xs us Q I r h
  obtain ⟨l, ks, rfl, hl, hk, nd, few, q⟩ := h
  rw [Vals.ref1 r]
  obtain ⟨its, rv, pl, _⟩ := I.list hl
  have ei := vals_rows rv
  refine set_tups (P := X.prog) (w := X.w) (items := its.toArray) (ks := ks) (I.ok.hd hc) hu pl.isList (by simpa using ei) (fun p hp => tupAt_of I (hk p hp)) nd few fun h' tk kp m => ?_
  rw [List.toList_toArray, ei] at m
  exact ⟨.ref s.heap.objs.size, _, I.laid (t' := tk) kp (Nat.le_refl _) (setM_new m), rfl, q _ (I.hok.fresh (Nat.le_refl _))⟩

theorem back_same {s z : Shared} (o : z.os = s.os) : z = { s with heap := z.heap, gens := z.gens, drawn := z.drawn, toks := z.toks } := by
  cases z
  cases s
  cases o
  rfl
theorem laid_list (I : Inv X pins σ H s) {z : Shared} {p : Addr} {xs : List V} {out : Array Value} {c : Nat} (kp : ∀ b o, s.heap.get? b = some o → z.heap.get? b = some o) (g : z.gens = s.gens) (o : z.os = s.os) (le : s.heap.objs.size ≤ p)
    (e : z.heap.get? p = some (seqObj "list" out c)) (r : Vals xs out.toList) (few : xs.length ≤ sizeLine) : Inv X pins σ (upd H p (.lst xs)) z := by
  rw [back_same o]
  exact I.call (ch := []) (Un.laid kp le (I.hok.fresh le)) (I.hok.laid kp le ⟨few, out.toList, c, r, e⟩) (by rw [g]; exact I.bare) fun _ q => nomatch q

theorem each_txt {us : List Value} : ∀ {ys : List Str}, Vals (ys.map V.str) us → EachIs (fun v y => (∃ t, v = Value.str y t) ∧ Reads s.heap v (PyData.str y) []) us ys := by
  induction us with
  | nil =>
    intro ys r
    cases ys with
    | nil => exact .nil
    | cons _ _ => cases r
  | cons u us ih =>
    intro ys r
    cases ys with
    | nil => cases r
    | cons y ys =>
      cases r with
      | cons r1 r2 =>
        obtain ⟨t, rfl⟩ := r1
        exact .cons ⟨⟨t, rfl⟩, .str y t⟩ (ih r2)
theorem txt_each {us : List Value} {ys : List Str} (e : EachIs (fun v y => ∃ t, v = Value.str y t) us ys) : Vals (ys.map V.str) us := by
  induction e with
  | nil => exact .nil
  | cons h _ ih =>
    obtain ⟨t, rfl⟩ := h
    exact .cons ⟨t, rfl⟩ ih

/-- sorted(a set of texts) -/
def rSortTx (w : World) : List V → Hp → VK → Prop := fun xs H Q => ∃ (a : Addr) (us : List Value) (ys : List Str), xs = [V.ref a] ∧ H a = some (SetM w a us) ∧ Vals (ys.map V.str) us ∧ ys.Nodup ∧ ys.length < 4000 ∧
  ∀ (p : Addr) (zs : List Str), zs.Perm ys → zs.Pairwise tLt → H p = none → Q (.ref p) (upd H p (.lst (zs.map V.str)))
theorem cr_sortTx (hc : X.calm = true) (hu : X.A.units + 2 < cLine) : CallR X (.builtin "sorted") (rSortTx X.w) := by
  intro pins s σ H xs us0 Q I r h
  obtain ⟨a, us, ys, rfl, ha, rv, nd, few, q⟩ := h
  rw [Vals.ref1 r]
  have m : Members X.w s.heap a us := (I.hok a _ ha).1
  refine sorted_members (P := X.prog) (enc := PyData.str) m (I.ok.hd hc) (each_txt rv) (fun cs _ => AllAlike.of fun _ _ => by simp [alike]) (fun cs _ => Sortable.others fun _ => ⟨by simp, by simp⟩) (fun b _ => by simpa [PyData.depth] using hu)
    fun z p out c cs kp g o le e pc eo => ?_
  have pz : (cs.mergeSort (dataLe false PyData.str)).Perm ys := (List.mergeSort_perm cs _).trans pc
  have pw : (cs.mergeSort (dataLe false PyData.str)).Pairwise tLt := by
    have w1 := sort_pairwise (sortLe_total (listOrd itemOrd) false fun b : Str => keyToks (PyData.str b)) cs
    have nd2 := pz.nodup_iff.mpr nd
    refine (List.Pairwise.and w1 nd2).imp fun {x y} h => ?_
    have e1 : dataLe false (fun b : Str => PyData.str b) x y = true := h.1
    rw [dataLe_str] at e1
    exact tLe_lt (of_decide_eq_true e1) h.2
  have few2 : ((cs.mergeSort (dataLe false PyData.str)).map V.str).length ≤ sizeLine := by
    rw [List.length_map, pz.length_eq, sizeLine_eq]
    omega
  exact ⟨.ref p, _, laid_list I kp g o le e (txt_each eo) few2, rfl, q p _ pz pw (I.hok.fresh le)⟩

theorem reads_keys {h : Heap} {P : Program} {w : World} {k : List Key} {us : List Value} (r : ItemsAre (mixKind P w) k us) : ReadsAll h us (k.map kD) [] := by
  induction r with
  | nil => exact .nil
  | @cons k0 v ks vs h1 _ ih =>
    rcases keyIs_shape h1 with ⟨i, t, rfl, rfl⟩ | ⟨x, t, rfl, rfl⟩
    · exact .cons (as := []) (.int i t) ih
    · exact .cons (as := []) (.str x t) ih
theorem TupAt.reads {P : Program} {w : World} {h : Heap} {k : List Key} {b : Addr} (x : TupAt P w h k b) : Reads h (.ref b) (.tuple (k.map kD)) [] := by
  obtain ⟨o, its, n, q, c, d, r⟩ := x
  exact .tuple q c d (reads_keys r)
theorem each_rows {P : Program} {w : World} {h : Heap} : ∀ {ks : List (Addr × List Key)}, (∀ p ∈ ks, TupAt P w h p.2 p.1) →
    EachIs (fun v p => v = Value.ref p.1 ∧ Reads h v (.tuple (p.2.map kD)) []) (ks.map fun p => Value.ref p.1) ks
  | [], _ => .nil
  | p :: ks, x => .cons ⟨rfl, (x p List.mem_cons_self).reads⟩ (each_rows fun q hq => x q (List.mem_cons_of_mem _ hq))
theorem rows_each {us : List Value} {ks : List (Addr × List Key)} (e : EachIs (fun v p => v = Value.ref p.1) us ks) : us = ks.map fun p => Value.ref p.1 := by
  induction e with
  | nil => rfl
  | cons h _ ih => rw [h, ih, List.map_cons]

/-- sorted(a set of tuples of texts and numbers, all of one shape) -/
def rSortTu (K : PySem.W.Frag) (w : World) : List V → Hp → VK → Prop := fun xs H Q => ∃ (a : Addr) (ks : List (Addr × List Key)) (sh : List Bool), xs = [V.ref a] ∧ H a = some (SetM w a (ks.map fun p => Value.ref p.1)) ∧
  (∀ p ∈ ks, SqT K H p.1 (p.2.map kV)) ∧ (∀ p ∈ ks, shape p.2 = sh) ∧ sh ≠ [] ∧ (ks.map (·.2)).Nodup ∧ ks.length < 4000 ∧
  ∀ (p : Addr) (zs : List (Addr × List Key)), zs.Perm ks → zs.Pairwise (fun x y => ksLt x.2 y.2 = true) → H p = none → Q (.ref p) (upd H p (.lst (zs.map fun q => V.ref q.1)))
theorem cr_sortTu (hc : X.calm = true) (hu : X.A.units + 3 < cLine) : CallR X (.builtin "sorted") (rSortTu X.K X.w) := by
  intro pins s σ H xs us0 Q I r h
  obtain ⟨a, ks, sh, rfl, ha, hk, hs, ne, nd, few, q⟩ := h
  rw [Vals.ref1 r]
  have m : Members X.w s.heap a (ks.map fun p => Value.ref p.1) := (I.hok a _ ha).1
  refine sorted_members (P := X.prog) (R := fun v p => v = Value.ref p.1) (enc := fun p : Addr × List Key => PyData.tuple (p.2.map kD)) m (I.ok.hd hc) (each_rows fun p hp => tupAt_of I (hk p hp)) (fun cs pc => ?_) (fun cs pc => ?_) (fun b _ => ?_)
    fun z p out c cs kp g o le e pc eo => ?_
  · intro d hd d' hd'
    obtain ⟨p, hp, rfl⟩ := List.mem_map.mp hd
    obtain ⟨p', hp', rfl⟩ := List.mem_map.mp hd'
    have e : shape p.2 = shape p'.2 := (hs p (pc.mem_iff.mp hp)).trans (hs p' (pc.mem_iff.mp hp')).symm
    simpa [alike] using alikeAll_keys e
  · refine .inl fun d hd => ?_
    obtain ⟨p, hp, rfl⟩ := List.mem_map.mp hd
    have e := hs p (pc.mem_iff.mp hp)
    cases hq : p.2 with
    | nil =>
      rw [hq] at e
      exact absurd e.symm ne
    | cons k0 r0 => exact ⟨_, _, by rw [List.map_cons]⟩
  · have e : (PyData.tuple (b.2.map kD)).depth ≤ 1 := by
      simp [PyData.depth, depth_keys]
    show X.A.units + 2 + (PyData.tuple (b.2.map kD)).depth < cLine
    omega
  · have pz : (cs.mergeSort (dataLe false fun p : Addr × List Key => PyData.tuple (p.2.map kD))).Perm ks := (List.mergeSort_perm cs _).trans pc
    have pw : (cs.mergeSort (dataLe false fun p : Addr × List Key => PyData.tuple (p.2.map kD))).Pairwise fun x y => ksLt x.2 y.2 = true := by
      have w1 := sort_pairwise (sortLe_total (listOrd itemOrd) false fun p : Addr × List Key => keyToks (PyData.tuple (p.2.map kD))) cs
      have nd2 : ((cs.mergeSort (dataLe false fun p : Addr × List Key => PyData.tuple (p.2.map kD))).map (·.2)).Nodup := (pz.map (·.2)).nodup_iff.mpr nd
      have nd3 := List.pairwise_map.mp nd2
      refine List.Pairwise.imp_of_mem (fun {x y} hx hy h => ?_) (List.Pairwise.and w1 nd3)
      have se : shape x.2 = shape y.2 := (hs x (pz.mem_iff.mp hx)).trans (hs y (pz.mem_iff.mp hy)).symm
      have e1 : (!dataLt (.tuple (y.2.map kD)) (.tuple (x.2.map kD))) = true := h.1
      rw [tup_lt se.symm, Bool.not_eq_true'] at e1
      exact ksLt_total se h.2 e1
    generalize cs.mergeSort (dataLe false fun p : Addr × List Key => PyData.tuple (p.2.map kD)) = zs at pz pw eo
    have few2 : (zs.map fun q => V.ref q.1).length ≤ sizeLine := by
      rw [List.length_map, pz.length_eq, sizeLine_eq]
      omega
    have rv : Vals (zs.map fun q => V.ref q.1) out.toList := by
      rw [rows_each eo]
      exact rows_vals zs
    exact ⟨.ref p, _, laid_list I kp g o le e rv few2, rfl, q p zs pz pw (I.hok.fresh le)⟩
end
end Q
set_option Elab.async false
set_option linter.all false
set_option maxRecDepth 100000
set_option maxHeartbeats 4000000
namespace Q
open PySem PySem.Spec PyProof.Rows L2 PySem.W

/-! enumerate over a tuple -/
theorem enum_meets {l : Addr} {items : Array Value} :
    Meets (Builtin.«enumerate.__new__» ⟨[.type "enumerate", .ref l], []⟩) (fun _ R z => z.heap.IsTuple l items ∧
      R (.ok (.ret (.ref (z.heap.push { cls := .type "tuple_iterator", data := .fields #[.ref l, .int 0 0] }).objs.size)))
        { z with heap := (z.heap.push { cls := .type "tuple_iterator", data := .fields #[.ref l, .int 0 0] }).push { cls := .type "enumerate", data := .fields #[.none, .bool false, .ref z.heap.objs.size, rawInt 0, .none, .none] } }) :=
  .of_wp fun prog w A R z h => by
    obtain ⟨zh, zg, zd, zt, zo⟩ := z
    obtain ⟨isT, h⟩ := h
    have sub := sub_enumerate
    have begins : ∀ {A' : Around} {E : Value → Shared → Prop} {Q : Value → Shared → Prop}, Q (.ref zh.objs.size) ⟨zh.push { cls := .type "tuple_iterator", data := .fields #[.ref l, .int 0 0] }, zg, zd, zt, zo⟩ →
        wpAny (model prog w) A' (pyIter (.ref l)) Q E ⟨zh, zg, zd, zt, zo⟩ := fun q => (begins_tuple l items).iter prog w _ _ ⟨zh, zg, zd, zt, zo⟩ _ isT q
    wp_walk using begins
    refine wpAny_stack_any fun st => wpAny_pure ?_
    split
    · rename_i c _ _ _ _ _
      cases (c == Value.type "enumerate") <;> (wp_walk using begins; exact ⟨_, rfl, h⟩)
    · wp_walk using begins
      exact ⟨_, rfl, h⟩
section
variable {prog : Program} {w : World} {A : Around} {E : Value → Shared → Prop} {s : Shared}
theorem enum_made {l : Addr} {items : Array Value} {Q : Value → Shared → Prop} (isT : s.heap.IsTuple l items)
    (next : ∀ h', IsEnum h' (s.heap.objs.size + 1) s.heap.objs.size 0 .none → h'.IsTupleIter s.heap.objs.size l 0 → (∀ b o, s.heap.get? b = some o → h'.get? b = some o) →
      Q (.ref (s.heap.objs.size + 1)) { s with heap := h' }) : wpAny (model prog w) A (call (.type "enumerate") [.ref l]) Q E s := by
  refine callType_new F.called_enumerate (by decide) (F.typeCall_enumerate_1 _) (F.newCall_enumerate_1 _) (fun o => F.args_object_init_2 o _) F.entry_enumerate_new enum_meets ⟨isT, ?_⟩
  have z1 : (s.heap.push { cls := .type "tuple_iterator", data := .fields #[.ref l, .int 0 0] }).objs.size = s.heap.objs.size + 1 := Heap.size_push ..
  show _ ∧ _
  rw [z1]
  have ie : IsEnum ((s.heap.push { cls := .type "tuple_iterator", data := .fields #[.ref l, .int 0 0] }).push { cls := .type "enumerate", data := .fields #[.none, .bool false, .ref s.heap.objs.size, rawInt 0, .none, .none] }) (s.heap.objs.size + 1) s.heap.objs.size 0 .none := by
    have q := Heap.get?_push_size (s.heap.push { cls := .type "tuple_iterator", data := .fields #[.ref l, .int 0 0] }) (o := { cls := .type "enumerate", data := .fields #[.none, .bool false, .ref s.heap.objs.size, rawInt 0, .none, .none] }) rfl
    rw [z1] at q
    exact q
  exact ⟨⟨_, ie, rfl⟩, next _ ie ⟨{ cls := .type "tuple_iterator", data := .fields #[.ref l, .int 0 0] }, Heap.get?_push_of_some _ (Heap.get?_push_size _ rfl), rfl, rfl⟩ fun b o q => Heap.get?_push_of_some _ (Heap.get?_push_of_some _ q)⟩
end

/-- the tuple's items, each in a new pair with its place -/
def ItT (K : PySem.W.Frag) (a : Addr) (xs : List V) : It where
  go := fun i H => SqT K H a xs ∧ i < xs.length
  yld := fun i H v H' => ∃ T x, v = .ref T ∧ H T = none ∧ H' = upd H T (.tup [.int (i : Nat), x]) ∧ xs[i]? = some x
  stop := fun i H => SqT K H a xs ∧ i = xs.length
theorem turn_enumT {P : Program} {w : World} {K : PySem.W.Frag} {elts : List Expr} {kk : Nat} {tpos : Pos} (a e it : Addr) (xs : List V) :
    Turn P w K (.Tuple elts kk tpos) (ItT K a xs) [e, it] e (fun i h => (∃ old, IsEnum h e it ((i : Nat) : Int) old) ∧ h.IsTupleIter it a i ∧ e ≠ it ∧ a ≠ it ∧ a ≠ e) where
  mem := List.mem_cons_self
  obj := fun i h st b hb => by
    obtain ⟨⟨old, ie⟩, ⟨o, q, _, d⟩, _⟩ := st
    rcases List.mem_cons.mp hb with z | z
    · rw [z]
      exact ⟨_, ie, fun v y => nomatch y⟩
    · rw [List.mem_singleton.mp z]
      exact ⟨o, q, fun v y => by rw [d] at y; cases y⟩
  keep := fun i h h' st k => by
    obtain ⟨⟨old, ie⟩, ⟨o, q, r⟩, ne⟩ := st
    exact ⟨⟨old, k e (by simp) _ ie⟩, ⟨o, k it (by simp) o q, r⟩, ne⟩
  item := by
    intro X e1 e2 e3 hc i pins s σ H E I hf st hg
    subst e1 e2 e3
    obtain ⟨⟨old, ie⟩, ti, ne, ne2, ne3⟩ := st
    obtain ⟨hx, lt⟩ := hg
    obtain ⟨its, rv, isT, _⟩ := I.tuple hx
    have le : e < s.heap.objs.size := Heap.lt_size ie
    have lit : it < s.heap.objs.size := by
      obtain ⟨_, q, _⟩ := ti
      exact Heap.lt_size q
    have lz : its.toArray.size = xs.length := by
      rw [List.size_toArray]
      exact rv.length.symm
    have hh : X.A.in1.handled = none := I.ok.hd hc
    refine wpAny_pyNext_enum_itemD (Draws.tuple hh it a ne2 its.toArray) ie ⟨ti, isT⟩ (by rw [lz]; exact lt) ne (by
      simp only [List.mem_cons, List.not_mem_nil, or_false, not_or]
      exact ⟨ne, fun z => ne3 z.symm⟩) fun u h' tk pu io st2 hT hsz hk => ?_
    obtain ⟨ti2, isT2⟩ := st2
    obtain ⟨x, hx2, ru⟩ : ∃ x, xs[i]? = some x ∧ RelV x u := by
      have hxi : xs[i]? = some xs[i] := List.getElem?_eq_getElem lt
      obtain ⟨u2, hu2, ru2⟩ := rv.get hxi
      have e4 : u2 = u := by
        have q : its[i]? = some u := by simpa using pu
        rw [hu2] at q
        exact Option.some.inj q
      rw [e4] at ru2
      exact ⟨_, hxi, ru2⟩
    refine ⟨_, rfl, wpAny_letOwnedTupleGo_enum (s := { s with heap := h', toks := tk + 1 }) io fun h'' ie2 sb => ?_⟩
    have hT2 : h''.get? s.heap.objs.size = some { cls := .type "tuple", data := .seq #[.int i tk, u] } := (sb.2 _ (Nat.ne_of_gt le)).trans hT
    have new : ObjOk X.prog X.w (upd H s.heap.objs.size (.tup [.int (i : Nat), x])) h'' s.heap.objs.size (.tup [.int (i : Nat), x]) :=
      ⟨by show 2 ≤ sizeLine; decide, [.int i tk, u], .cons ⟨_, rfl⟩ (.cons ru .nil), ⟨_, hT2, rfl, _, rfl⟩⟩
    have I1 : Inv X pins σ (upd H s.heap.objs.size (.tup [.int (i : Nat), x])) { s with heap := h'', toks := tk + 1 } :=
      I.turnedNew (ch := [e, it]) (fun b o nb q => (sb.2 b fun z => nb (by simp [z])).trans (hk b o (fun z => nb (by simp [z])) (fun z => nb (by simp [z])) q)) hf (Nat.le_refl _) new
    refine ⟨.ref s.heap.objs.size, _, I1, rfl, ⟨_, x, rfl, I.hok.fresh (Nat.le_refl _), rfl, hx2⟩, ⟨⟨u, ?_⟩, ?_, ne, ne2, ne3⟩, fun b hb => ?_⟩
    · have e1 : ((i + 1 : Nat) : Int) = (i : Int) + 1 := by omega
      rw [e1]
      exact ie2
    · obtain ⟨o, q, r⟩ := ti2
      exact ⟨o, (sb.2 it (Ne.symm ne)).trans q, r⟩
    · have lb : b < s.heap.objs.size := by
        rcases List.mem_cons.mp hb with z | z
        · rw [z]; exact le
        · rw [List.mem_singleton.mp z]; exact lit
      rw [upd_ne (Nat.ne_of_lt lb)]
      exact (hf b hb).1
  done := by
    intro X e1 e2 e3 hc i pins s σ H E I hf st hg
    subst e1 e2 e3
    obtain ⟨⟨old, ie⟩, ti, ne, ne2, ne3⟩ := st
    obtain ⟨hx, rfl⟩ := hg
    obtain ⟨its, rv, isT, _⟩ := I.tuple hx
    have hh : X.A.in1.handled = none := I.ok.hd hc
    have lz : its.toArray.size = xs.length := by
      rw [List.size_toArray]
      exact rv.length.symm
    obtain ⟨f0, f1, f2, f3, f4, f5⟩ := hf it (by simp)
    rw [← lz] at ti
    exact wpAny_pyNext_enum_endD (Draws.tuple hh it a ne2 its.toArray) ie ⟨ti, isT⟩ fun h' eb => ⟨rfl, I.turned (t' := s.toks) (fun b o hb q => eb b o hb q) f0 f1 f3 f4 f5⟩
  self := fun A i s Q E st h => by
    obtain ⟨⟨_, ie⟩, _⟩ := st
    exact wpAny_pyIter_enum ie h
def iEnumT (K : PySem.W.Frag) (ta : TA) : TI := fun σ H R => ta σ H fun vs H1 => ∃ a xs, vs = [.ref a] ∧ SqT K H1 a xs ∧ R (ItT K a xs) H1
theorem pi_enumT {X : Cx} {e : Expr} {ta : TA} {p pos tpos : Pos} {elts : List Expr} {kk : Nat} (hg : Gl X "enumerate") (hm : X.mg "enumerate" = none) (ha : PA X [e] ta) (hs : starEach [e] X.env = [(false, eval e X.env)] := by rfl) :
    PI X (.Tuple elts kk tpos) (.Call (.Name "enumerate" p) [e] [] pos) (iEnumT X.K ta) := by
  refine ⟨fun pins s σ H R I h => ?_⟩
  refine Call_ (ld_blt I hg hm boot_enumerate (PyProof.Rows.callWith_type1 (thn (ha.run pos pins s σ H _ I h) fun us s1 ⟨vs, H1, I1, r1, q1⟩ => ?_) hs rfl))
  obtain ⟨a, xs, rfl, hx, q⟩ := q1
  rw [Vals.ref1 r1]
  obtain ⟨its, rv, isT, _⟩ := I1.tuple hx
  have la : a < s1.heap.objs.size := by
    obtain ⟨o, ho, _⟩ := isT
    exact Heap.lt_size ho
  refine enum_made isT fun h' ie ti k => wpAny_pyIter_enum ie ?_
  have I2 : Inv X pins σ H1 { s1 with heap := h' } := I1.kept (t' := s1.toks) k
  refine ⟨s1.heap.objs.size + 1, [s1.heap.objs.size + 1, s1.heap.objs.size], _, _, H1, rfl, I2, turn_enumT a (s1.heap.objs.size + 1) s1.heap.objs.size xs,
    ⟨⟨.none, ie⟩, ti, Nat.succ_ne_self _, Nat.ne_of_lt la, Nat.ne_of_lt (Nat.lt_succ_of_lt la)⟩, fun b hb => ?_, q⟩
  have le : s1.heap.objs.size ≤ b := by
    rcases List.mem_cons.mp hb with z | z
    · rw [z]; exact Nat.le_succ _
    · rw [List.mem_singleton.mp z]; exact Nat.le_refl _
  exact I1.fpOk le (I1.hok.fresh le)
end Q
set_option Elab.async false
set_option linter.all false
set_option maxRecDepth 100000
set_option maxHeartbeats 4000000
namespace Q
open PySem PySem.Spec PyProof.Rows L2 PySem.W
section
variable {X : Cx}
/-- x < y of two tuples of texts and whole numbers, of one shape -/
def rLtK (K : PySem.W.Frag) : R2 := fun x y H Q => ∃ (a b : Addr) (ks ls : List Key), x = V.ref a ∧ y = V.ref b ∧ SqT K H a (ks.map kV) ∧ SqT K H b (ls.map kV) ∧ shape ks = shape ls ∧ Q (.bl (ksLt ks ls)) H
theorem op_ltK (hu : X.A.units + 1 < cLine) : OpR X (compareOp .Lt) (rLtK X.K) := by
  intro pins s σ H x y v u Q I rx ry h
  obtain ⟨a, b, ks, ls, rfl, rfl, ha, hb, sh, q⟩ := h
  cases rx
  cases ry
  have ra := (tupAt_of I ha).reads
  have rb := (tupAt_of I hb).reads
  have da : (PyData.tuple (ks.map kD)).depth = 1 := by rw [PyData.depth, depth_keys]
  refine lt_data ra rb (by simpa [alike] using alikeAll_keys sh) (by simp) (by
    have m := Nat.min_le_left (PyData.tuple (ks.map kD)).depth (PyData.tuple (ls.map kD)).depth
    omega) ?_
  rw [tup_lt sh]
  exact ⟨.bl (ksLt ks ls), H, I, rfl, q⟩
end
end Q
set_option Elab.async false
set_option linter.all false
set_option maxRecDepth 100000
set_option maxHeartbeats 4000000
namespace Q
open PySem PySem.Spec PyProof.Rows L2 PySem.W
section
variable {X : Cx}
/-- raise C(), a class of the program without its own __init__ -/
theorem pmk_own0 {C : Addr} {bmB : List Value} {B newId initId : String} {x : Str} {p pos : Pos} (F : ExcBaseFacts B newId initId bmB) (q : excIn X.K C bmB newId = true)
    (gC : X.mg x = some (.ref C)) (kC : keepIn X.K (.ref C) = true) (r : Raises X (.ref C)) (hg : Gl X x) (hdb : (x == ("__debug__" : Str)) = false := by decide) :
    PMk X (.Call (.Name x p) [] [] pos) (fun _ H Q => Q (.ref C) none H) := by
  intro pins s σ H Q I h
  refine wpAny_Call_Name_kw (ld_glob I hg gC ?_ hdb)
  refine PySem.W.callWith_K0 I.kIn kC ?_
  show wpAny _ _ (call (.ref C) []) _ _ _
  obtain ⟨bm, N, nm, qn, bs, hdct, sn, sub, ab, col, dd, k0, k1, k2, k3, k5, mN, hC, hN, hni, T⟩ := exc_obj I.kIn q
  refine wpAny_call_exc_subT F T hC hN hni (fun h' e hm => ?_) (Nat.zero_le _)
  exact mk_of I hm r h (I.hok.gone hm.new)
/-- sorted(xs), xs a list of unlike tuples of texts and whole numbers, of one shape -/
def rSortTuL (K : PySem.W.Frag) : List V → Hp → VK → Prop := fun xs H Q => ∃ (a : Addr) (ks : List (Addr × List Key)) (sh : List Bool), xs = [V.ref a] ∧ SqL K H a (ks.map fun p => V.ref p.1) ∧
  (∀ p ∈ ks, SqT K H p.1 (p.2.map kV)) ∧ (∀ p ∈ ks, shape p.2 = sh) ∧ sh ≠ [] ∧ (ks.map (·.2)).Nodup ∧ ks.length < 4000 ∧
  ∀ (p : Addr) (zs : List (Addr × List Key)), zs.Perm ks → zs.Pairwise (fun x y => ksLt x.2 y.2 = true) → H p = none → Q (.ref p) (upd H p (.lst (zs.map fun q => V.ref q.1)))
theorem cr_sortTuL (hu : X.A.units + 3 < cLine) : CallR X (.builtin "sorted") (rSortTuL X.K) := by
  intro pins s σ H xs us0 Q I r h
  obtain ⟨a, ks, sh, rfl, ha, hk, hs, ne, nd, few, q⟩ := h
  rw [Vals.ref1 r]
  obtain ⟨its, rv, pl, _⟩ := I.list ha
  have ei := vals_rows rv
  have er := each_rows (P := X.prog) (w := X.w) (h := s.heap) fun p hp => tupAt_of I (hk p hp)
  refine sorted_data (vs := its) (R := fun v p => v = Value.ref p.1) (bs := ks) (enc := fun p : Addr × List Key => PyData.tuple (p.2.map kD)) pl.isList (by rw [ei]; exact er.mono fun _ _ z => z.1) (by rw [ei]; exact er.mono fun _ _ z => ⟨_, z.2⟩) ?_ ?_ ?_ ?_ ?_
  · intro d hd d' hd'
    obtain ⟨p, hp, rfl⟩ := List.mem_map.mp hd
    obtain ⟨p', hp', rfl⟩ := List.mem_map.mp hd'
    have e : shape p.2 = shape p'.2 := (hs p hp).trans (hs p' hp').symm
    simpa [alike] using alikeAll_keys e
  · refine .inl fun d hd => ?_
    obtain ⟨p, hp, rfl⟩ := List.mem_map.mp hd
    have e := hs p hp
    cases hq : p.2 with
    | nil =>
      rw [hq] at e
      exact absurd e.symm ne
    | cons k0 r0 => exact ⟨_, _, by rw [List.map_cons]⟩
  · rw [sizeLine_eq]
    omega
  · intro b hb
    have e : (PyData.tuple (b.2.map kD)).depth ≤ 1 := by
      simp [PyData.depth, depth_keys]
    show X.A.units + 2 + (PyData.tuple (b.2.map kD)).depth < cLine
    omega
  · intro out lo eo
    have pz : (ks.mergeSort (dataLe false fun p : Addr × List Key => PyData.tuple (p.2.map kD))).Perm ks := List.mergeSort_perm ks _
    have pw : (ks.mergeSort (dataLe false fun p : Addr × List Key => PyData.tuple (p.2.map kD))).Pairwise fun x y => ksLt x.2 y.2 = true := by
      have w1 := sort_pairwise (sortLe_total (listOrd itemOrd) false fun p : Addr × List Key => keyToks (PyData.tuple (p.2.map kD))) ks
      have nd2 : ((ks.mergeSort (dataLe false fun p : Addr × List Key => PyData.tuple (p.2.map kD))).map (·.2)).Nodup := (pz.map (·.2)).nodup_iff.mpr nd
      have nd3 := List.pairwise_map.mp nd2
      refine List.Pairwise.imp_of_mem (fun {x y} hx hy h => ?_) (List.Pairwise.and w1 nd3)
      have se : shape x.2 = shape y.2 := (hs x (pz.mem_iff.mp hx)).trans (hs y (pz.mem_iff.mp hy)).symm
      have e1 : (!dataLt (.tuple (y.2.map kD)) (.tuple (x.2.map kD))) = true := h.1
      rw [tup_lt se.symm, Bool.not_eq_true'] at e1
      exact ksLt_total se h.2 e1
    generalize ks.mergeSort (dataLe false fun p : Addr × List Key => PyData.tuple (p.2.map kD)) = zs at pz pw eo
    have few2 : (zs.map fun q => V.ref q.1).length ≤ sizeLine := by
      rw [List.length_map, pz.length_eq, sizeLine_eq]
      omega
    obtain ⟨c, hc⟩ := sortedAll_at s.heap its (List.toArray out)
    have rv2 : Vals (zs.map fun q => V.ref q.1) (List.toArray out).toList := by
      rw [List.toList_toArray, rows_each eo]
      exact rows_vals zs
    have le : s.heap.objs.size ≤ s.heap.objs.size + 1 := Nat.le_succ _
    exact ⟨.ref (s.heap.objs.size + 1), _, laid_list I (c := c) (fun _ _ => sortedAll_old) rfl rfl le hc rv2 few2, rfl, q _ zs pz pw (I.hok.fresh le)⟩
end
end Q
set_option Elab.async false
set_option linter.all false
set_option maxRecDepth 100000
set_option maxHeartbeats 4000000
/-! The end of a law whose defs make lambdas, over FnG. -/
namespace Q
open PySem PySem.Spec PyProof.Rows L2 LamX

/-- an empty table of code objects -/
abbrev emptyTab : Obj := { cls := .none, data := .fields #[] }
section
variable {P : Program} {w : World} {K : PySem.W.Frag} {mg mb : Str → Option Value} {k : Nat}
  {fa a : Addr} {fd : FuncData} {x : Str} {sp : Sp} {s₁ : Shared} {vs : List Value} {ns : List Int} {c1 P1 c2 P2 : Addr}
/-- what may be tracked at the start: the script as it stands, the two tables -/
def OnlyT (P1 P2 : Addr) (H : Hp) : Prop := ∀ b, H b = none ∨ (b = P1 ∨ b = P2) ∨ ∃ o xs, H b = some (.frz o (.lst xs))
structure Two (s₁ : Shared) (K : PySem.W.Frag) (c1 P1 c2 P2 : Addr) : Prop where
  e1 : s₁.heap.get? P1 = some emptyTab
  e2 : s₁.heap.get? P2 = some emptyTab
  n1 : K.lookup P1 = none
  n2 : K.lookup P2 = none
  h1 : PySem.W.CodeHd s₁.heap c1 P1
  h2 : PySem.W.CodeHd s₁.heap c2 P2
theorem law_coreT (KX : K.In s₁.heap) (hns : s₁.heap.Ns mainGlobals mg) (hb : s₁.heap.Ns builtinsNs mb)
    (hbb : ∀ x : Str, x ≠ "__name__" → mb x = bootBuiltins x) (hlim : s₁.heap.NoLimit) (hg : s₁.gens = #[])
    (tw : Two s₁ K c1 P1 c2 P2)
    (hbm : ∃ (bm : Addr) (ob : Obj), mg "__builtins__" = some (.ref bm) ∧ bm ≠ builtinsNs ∧ s₁.heap.get? bm = some ob ∧
      ob.cls = .type "module" ∧ ob.dict = some builtinsNs ∧ ob.data = .plain)
    (ha : s₁.heap.get? a = some { cls := .type "list", data := .seq vs.toArray }) (hr : Room k callerA)
    (F : ∀ base : Heap, K.In base → base.Ns mainGlobals mg → TabB base mg c1 P1 → TabB base mg c2 P2 → FnG P w K mg base CX0 k fa fd [x] sp)
    (hbind : ∀ (s : Shared) (u : Value), BindsTo s fd ⟨[u], []⟩ [(x, u)])
    (H : Hp) (hO : OnlyT P1 P2 H) (hH1 : H P1 = some (.tbl #[])) (hH2 : H P2 = some (.tbl #[]))
    (hS : sp [.ref a] H (fun v _ => v = .bl true) fun _ _ _ => False)
    (hok : HOk P w H s₁.heap) (hA : ∀ b, H b ≠ none → b = a ∨ b = P1 ∨ b = P2) (hK : H a ≠ none → K.lookup a = none) :
    codeAny (model P w) callerA (.call (.ref fa) ⟨[.ref a], []⟩) (LawEnd s₁) s₁ := by
  -- an object that is neither the script nor a table is not tracked
  have off : ∀ {b : Addr} {o : Obj}, s₁.heap.get? b = some o → (∀ us n, o.data ≠ .seq us n) → o.data ≠ .fields #[] → H b = none := by
    intro b o e d1 d2
    cases q : H b with
    | none => rfl
    | some u =>
      rcases hA b (by rw [q]; exact nofun) with z | z | z
      · rw [z, ha] at e
        cases e
        exact absurd rfl (d1 _ _)
      · rw [z, tw.e1] at e
        cases e
        exact absurd rfl d2
      · rw [z, tw.e2] at e
        cases e
        exact absurd rfl d2
  have ns_free : ∀ {b m}, s₁.heap.Ns b m → (hidT s₁.heap H).Ns b m := by
    rintro b m ⟨o, es, ep, e, d, r⟩
    exact ⟨o, es, ep, hidT_get e (off e (fun us n z => by rw [d] at z; cases z) (fun z => by rw [d] at z; cases z)), d, r⟩
  have kin : K.In (hidT s₁.heap H) := fun b o e => by
    refine hidT_get (KX b o e) ?_
    cases q : H b with
    | none => rfl
    | some u =>
      rcases hA b (by rw [q]; exact nofun) with z | z | z
      · subst z
        rw [hK (by rw [q]; exact nofun)] at e
        cases e
      · rw [z, tw.n1] at e
        cases e
      · rw [z, tw.n2] at e
        cases e
  obtain ⟨mc, l1, l2⟩ := hlim
  have md : Mod K mg (hidT s₁.heap H) :=
    { kin := kin, glob := ns_free hns, blt := ⟨mb, ns_free hb, hbb⟩, nolimit := ⟨mc, ns_free l1, l2⟩ }
  have e0 : Env0 P w K mg (hidT s₁.heap H) callerA [] s₁ H :=
    ⟨rfl, md, fun b o e => of_hidT e, Nat.le_of_eq (hidT_size _ _), trivial,
      fun b z => absurd (show b ∈ ([] : List Addr) from z) List.not_mem_nil, hok, .of_eq hg⟩
  have tabOf : ∀ {c T : Addr}, PySem.W.CodeHd s₁.heap c T → s₁.heap.get? T = some emptyTab → TabB (hidT s₁.heap H) mg c T := by
    intro c T hd eT
    obtain ⟨o, us, fl, tf, fg, tg, iF, tx, tt, q1, q2, q3, q4, q5⟩ := hd
    obtain ⟨bm, ob, y1, y2, y3, y4, y5, y6⟩ := hbm
    refine ⟨⟨o, us, fl, tf, fg, tg, iF, tx, tt, hidT_get q1 (off q1 ?_ ?_), q2, q3, q4, q5⟩, ⟨bm, ob, y1, y2, ?_, ?_, hidT_get y3 (off y3 ?_ ?_), y4, y5, y6⟩, ?_⟩
    · intro us' n z
      rw [q3] at z
      cases z
    · intro z
      rw [q3] at z
      cases z
      cases q4
    · rintro rfl
      obtain ⟨o', es, ep, e, d, _⟩ := hns
      rw [e] at y3
      cases y3
      rw [d] at y6
      cases y6
    · rintro rfl
      rw [eT] at y3
      cases y3
      cases y6
    · intro us' n z
      rw [y6] at z
      cases z
    · intro z
      rw [y6] at z
      cases z
    · rintro rfl
      obtain ⟨o', es, ep, e, d, _⟩ := hns
      rw [eT] at e
      cases e
      cases d
  have run := (F _ kin (ns_free hns) (tabOf tw.h1 tw.e1) (tabOf tw.h2 tw.e2)).go callerA [] s₁ H ⟨[.ref a], []⟩ [.ref a] [.ref a] _ _ rfl hr e0
    (hbind s₁ (.ref a)) (.cons rfl .nil) hS
  refine codeAny_mono run ?_
  intro r s' h
  match r, h with
  | .error e, h => exact False.elim h
  | .ok (.ret u), ⟨v, H', os, bare, un, hok', r', q⟩ =>
    subst q
    obtain rfl : u = Value.bool true := r'
    have grown : ∀ {T : Addr}, H T = some (.tbl #[]) → ∃ more : Array Value, s'.heap.get? T = some { cls := .none, data := .fields more } := by
      intro T hT
      obtain ⟨more, z⟩ := un.tbls T #[] hT
      exact ⟨_, hok' T _ z⟩
    have rest : ∀ b o, b ≠ P1 → b ≠ P2 → s₁.heap.get? b = some o → s'.heap.get? b = some o := by
      intro b o z1 z2 e
      cases q : H b with
      | none => exact un.keep b o e q (fun z => absurd (show b ∈ ([] : List Addr) from z) List.not_mem_nil) List.not_mem_nil
      | some u =>
        rcases hO b with z | (z | z) | ⟨ob, xs, z⟩
        · rw [q] at z; cases z
        · exact absurd z z1
        · exact absurd z z2
        · have y2 := (hok' b _ (un.frzs b ob _ z)).1
          have y1 := (hok b _ z).1
          rw [e] at y1
          cases y1
          exact y2
    refine ⟨rfl, ⟨fun b o e => ?_, fun b o e => ?_⟩, os, bare⟩
    · by_cases z1 : b = P1
      · subst z1
        obtain ⟨more, hm⟩ := grown hH1
        rw [tw.e1] at e
        cases e
        exact .inr (.inl ⟨(tw.h1.tab tw.e1).isCodeTable, rfl, #[], more, rfl, by rw [hm, Array.empty_append]⟩)
      · by_cases z2 : b = P2
        · subst z2
          obtain ⟨more, hm⟩ := grown hH2
          rw [tw.e2] at e
          cases e
          exact .inr (.inl ⟨(tw.h2.tab tw.e2).isCodeTable, rfl, #[], more, rfl, by rw [hm, Array.empty_append]⟩)
        · exact .inl (rest b o z1 z2 e)
    · by_cases z1 : b = P1
      · subst z1
        exact let ⟨_, hm⟩ := grown hH1; ⟨_, hm⟩
      · by_cases z2 : b = P2
        · subst z2
          exact let ⟨_, hm⟩ := grown hH2; ⟨_, hm⟩
        · exact ⟨o, rest b o z1 z2 e⟩
theorem law_callTG (KX : K.In s₁.heap) (hns : s₁.heap.Ns mainGlobals mg) (hb : s₁.heap.Ns builtinsNs mb)
    (hbb : ∀ x : Str, x ≠ "__name__" → mb x = bootBuiltins x) (hlim : s₁.heap.NoLimit) (hg : s₁.gens = #[])
    (tw : Two s₁ K c1 P1 c2 P2)
    (hbm : ∃ (bm : Addr) (ob : Obj), mg "__builtins__" = some (.ref bm) ∧ bm ≠ builtinsNs ∧ s₁.heap.get? bm = some ob ∧
      ob.cls = .type "module" ∧ ob.dict = some builtinsNs ∧ ob.data = .plain)
    (ha : s₁.heap.get? a = some { cls := .type "list", data := .seq vs.toArray }) (hi : IntsAre vs ns)
    (hl : ns.length ≤ sizeLine) (hr : Room k callerA)
    (F : ∀ base : Heap, K.In base → base.Ns mainGlobals mg → TabB base mg c1 P1 → TabB base mg c2 P2 → FnG P w K mg base CX0 k fa fd [x] sp)
    (hbind : ∀ (s : Shared) (u : Value), BindsTo s fd ⟨[u], []⟩ [(x, u)])
    (hsp : ∀ H : Hp, H P1 = some (.tbl #[]) → H P2 = some (.tbl #[]) → SqL K H a (ns.map V.int) →
      sp [.ref a] H (fun v _ => v = .bl true) fun _ _ _ => False) :
    codeAny (model P w) callerA (.call (.ref fa) ⟨[.ref a], []⟩) (LawEnd s₁) s₁ := by
  have rv := vals_ints hi
  have lenV := hi.length
  have aT : ∀ {T : Addr}, s₁.heap.get? T = some emptyTab → T ≠ a := fun {T} e z => by
    rw [z, ha] at e
    cases e
  have tblOk : ∀ {H : Hp} {T : Addr}, s₁.heap.get? T = some emptyTab → ObjOk P w H s₁.heap T (.tbl #[]) := fun {H T} e => e
  cases hk : K.lookup a with
  | some o =>
    have e := KX a o hk
    rw [ha] at e
    cases e
    let H : Hp := fun b => if b = P1 ∨ b = P2 then some (.tbl #[]) else none
    have on : ∀ b, b = P1 ∨ b = P2 → H b = some (.tbl #[]) := fun b z => if_pos z
    have off : ∀ b, ¬ (b = P1 ∨ b = P2) → H b = none := fun b z => if_neg z
    have hS : SqL K H a (ns.map V.int) := by
      refine .inr ⟨_, vs.toArray, _, hk, rfl, rfl, rfl, ?_, by simpa using rv⟩
      rw [List.size_toArray, lenV]
      exact hl
    have nA : ¬ (a = P1 ∨ a = P2) := fun z => z.elim (fun z => aT tw.e1 z.symm) (fun z => aT tw.e2 z.symm)
    refine law_coreT KX hns hb hbb hlim hg tw hbm ha hr F hbind H (fun b => ?_) (on _ (.inl rfl)) (on _ (.inr rfl)) (hsp H (on _ (.inl rfl)) (on _ (.inr rfl)) hS) (fun b u z => ?_) (fun b z => ?_) (fun z => absurd (off a nA) z)
    · by_cases z : b = P1 ∨ b = P2
      · exact .inr (.inl z)
      · exact .inl (off b z)
    · by_cases y : b = P1 ∨ b = P2
      · rw [on b y] at z
        cases z
        rcases y with rfl | rfl
        · exact tblOk tw.e1
        · exact tblOk tw.e2
      · rw [off b y] at z
        cases z
    · by_cases y : b = P1 ∨ b = P2
      · exact .inr y
      · exact absurd (off b y) z
  | none =>
    let ob : Obj := { cls := .type "list", data := .seq vs.toArray }
    let H : Hp := fun b => if b = a then some (.frz ob (.lst (ns.map V.int))) else if b = P1 ∨ b = P2 then some (.tbl #[]) else none
    have at_a : H a = some (.frz ob (.lst (ns.map V.int))) := if_pos rfl
    have on : ∀ b, b ≠ a → b = P1 ∨ b = P2 → H b = some (.tbl #[]) := fun b n z => (if_neg n).trans (if_pos z)
    have off : ∀ b, b ≠ a → ¬ (b = P1 ∨ b = P2) → H b = none := fun b n z => (if_neg n).trans (if_neg z)
    have h1 : H P1 = some (.tbl #[]) := on _ (aT tw.e1) (.inl rfl)
    have h2 : H P2 = some (.tbl #[]) := on _ (aT tw.e2) (.inr rfl)
    refine law_coreT KX hns hb hbb hlim hg tw hbm ha hr F hbind H (fun b => ?_) h1 h2 (hsp H h1 h2 (.inl (.inr ⟨ob, at_a⟩))) (fun b u z => ?_) (fun b z => ?_) (fun _ => hk)
    · by_cases n : b = a
      · subst n
        exact .inr (.inr ⟨_, _, at_a⟩)
      · by_cases z : b = P1 ∨ b = P2
        · exact .inr (.inl z)
        · exact .inl (off b n z)
    · by_cases n : b = a
      · subst n
        rw [at_a] at z
        cases z
        exact ⟨ha, by rw [List.length_map]; exact hl, vs, _, rv, ha⟩
      · by_cases y : b = P1 ∨ b = P2
        · rw [on b n y] at z
          cases z
          rcases y with rfl | rfl
          · exact tblOk tw.e1
          · exact tblOk tw.e2
        · rw [off b n y] at z
          cases z
    · by_cases n : b = a
      · exact .inl n
      · by_cases y : b = P1 ∨ b = P2
        · exact .inr y
        · exact absurd (off b n y) z
end
/-- a def of the program, its code object and that one's table, as the written part tells them -/
def OneTab (K : PySem.W.Frag) (mg : Str → Option Value) (n : Str) (c T : Addr) : Prop :=
  ∃ (f : Addr) (o : Obj) (fd : FuncData), mg n = some (.ref f) ∧ K.lookup f = some o ∧ o.data = .func fd ∧ fd.code = .ref c ∧
    PySem.W.codeHdIn K c T = true ∧ K.lookup T = none
/-- the goal that the head leaves, from the law's promise; the defs n1 and n2 make lambdas -/
theorem walkTG {l : PySem.W.OpenLaw} {n k : Nat} {q : Program} {loose : List Str}
    {XP : (Str → Option Value) → Heap → Prop} {YP : World → Heap → Prop} {d : DefRec}
    {K : Params → PySem.W.Frag} {sp : Addr → Addr → PySem.W.Frag → Sp} {x n1 n2 : Str} (hn : l.most = some n)
    (hn2 : n ≤ sizeLine) (hdf : d.params.defaults = []) (hr : Room k callerA)
    (r1 : ((recsOf q).any fun e => e.name == n1) = true) (r2 : ((recsOf q).any fun e => e.name == n2) = true)
    (hY : ∀ (w : World) (h : Heap), YP w h → (K w.params).In h)
    (F : ∀ (w : World) (mg : Str → Option Value) (fa : Addr) (h : Heap), (K w.params).In h →
      h.Ns mainGlobals mg → mg d.name = some (.ref fa) →
      ∃ (fd : FuncData) (c1 P1 c2 P2 : Addr), OneTab (K w.params) mg n1 c1 P1 ∧ OneTab (K w.params) mg n2 c2 P2 ∧
        (∀ (s : Shared) (u : Value), BindsTo s fd ⟨[u], []⟩ [(x, u)]) ∧
        ∀ base : Heap, (K w.params).In base → base.Ns mainGlobals mg → TabB base mg c1 P1 → TabB base mg c2 P2 →
          FnG l.prog w (K w.params) mg base CX0 k fa fd [x] (sp P1 P2 (K w.params)))
    (hsp : ∀ (P1 P2 : Addr) (K : PySem.W.Frag) (H : Hp) (a : Addr) (ns : List Int), ns.length ≤ n → H P1 = some (.tbl #[]) → H P2 = some (.tbl #[]) →
      SqL K H a (ns.map V.int) → sp P1 P2 K [.ref a] H (fun v _ => v = .bl true) fun _ _ _ => False) :
    PySem.W.WalkO q loose XP YP l.row.toRowW d [] (fun f vs => PySem.call f vs) := by
  refine Att.attach_call hn hdf ?_
  intro w s₀ s₁ mg mb fa o pm cd doc a vs ns G Y ho hd hcd hmg hobj hints hlen hg
  have KX := hY w _ Y
  obtain ⟨fd, c1, P1, c2, P2, o1, o2, hb, hF⟩ := F w mg fa _ KX G.T.g hmg
  have get : ∀ {n c T}, ((recsOf q).any fun e => e.name == n) = true → OneTab (K w.params) mg n c T → s₁.heap.get? T = some emptyTab ∧ (K w.params).lookup T = none ∧ PySem.W.CodeHd s₁.heap c T := by
    rintro n c T r ⟨f, o, fd, z1, z2, z3, z4, z5, z6⟩
    obtain ⟨dL, hm, hnm⟩ := List.any_eq_true.mp r
    obtain rfl : dL.name = n := beq_iff_eq.mp hnm
    obtain ⟨a', o', fd', c', T', y1, y2, y3, y4, y5, y6⟩ := G.T.tab dL hm
    cases z1.symm.trans y1
    cases (KX _ _ z2).symm.trans y2
    cases z3.symm.trans y3
    cases z4.symm.trans y4
    have H1 := PySem.W.codeHd_of_K KX z5
    obtain ⟨⟨ob, us, x1, _, x3, x4⟩, x5⟩ := y6
    obtain ⟨ob2, us2, _, _, _, _, _, _, _, w1, _, w3, w4, _⟩ := id H1
    cases x1.symm.trans w1
    cases x3.symm.trans w3
    cases x4.symm.trans w4
    exact ⟨x5, z6, H1⟩
  obtain ⟨t1, u1, v1⟩ := get r1 o1
  obtain ⟨t2, u2, v2⟩ := get r2 o2
  exact law_callTG KX G.T.g G.T.b G.T.builtins G.T.nolimit hg ⟨t1, t2, u1, u2, v1, v2⟩ G.T.bmain hobj hints (Nat.le_trans hlen hn2) hr hF hb
    (fun H hH1 hH2 hS => hsp P1 P2 _ H a ns hlen hH1 hH2 hS)
end Q
set_option Elab.async false
set_option linter.all false
set_option maxRecDepth 100000
set_option maxHeartbeats 4000000
/-! Values of every kind beside texts: in, and == of pairs. -/
namespace PySem.SeqAt
open MeetsSeq
section
variable {A : Around} {s : Shared}
theorem odd_str_eq_dict (b : Str) (u : Tok) (a : Addr) (c : Value) (dd : Option Addr) (es : Array DictEntry) (ep : Nat) (sl : Array (Option Value)) :
    Meets (Builtin.«str.__eq__» ⟨[.str b u, .ref a], []⟩) (fun _ R s => s.heap.get? a = some { cls := c, dict := dd, data := .dict es ep, slots := sl } ∧ R (.ok (.ret .notImplemented)) s) :=
  .of_wp fun prog w A R s h => by
    obtain ⟨hp, g, d, tk, os⟩ := s
    obtain ⟨hl, h⟩ := h
    wp_walk using wpAny_loadPart' hl, wpAny_load hl
    exact ⟨_, rfl, h⟩
theorem odd_dict_eq_str (b : Str) (u : Tok) (a : Addr) (dd : Option Addr) (es : Array DictEntry) (ep : Nat) (sl : Array (Option Value)) :
    Meets (Builtin.«dict.__eq__» ⟨[.ref a, .str b u], []⟩) (fun _ R s => s.heap.get? a = some { cls := .type "dict", dict := dd, data := .dict es ep, slots := sl } ∧ R (.ok (.ret .notImplemented)) s) :=
  .of_wp fun prog w A R s h => by
    obtain ⟨hl, h⟩ := h
    have hT : s.TypeIs (.ref a) "dict" := ⟨_, hl, rfl⟩
    show wpAny _ _ (Builtin.Dict.dictSlotArgs "__eq__" ⟨[.ref a, .str b u], []⟩ >>= _) _ _ s
    refine wpAny_bind ?_
    unfold Builtin.Dict.dictSlotArgs
    refine wpAny_bind (wpAny_notOrdered_dict hT ?_)
    show wpAny _ _ (pure (Value.ref a, Value.str b u)) _ _ s
    refine wpAny_pure (wpAny_bind (wpAny_isInstance (T := "str") (typeIs_str s b u) F.sub_str_dict ?_))
    simp only [Bool.not_false, if_true]
    exact wpAny_bind (wpAny_rule (wpAny_pure ⟨_, rfl, h⟩))
theorem rc_str_dict {a : Addr} {dd : Option Addr} {es : Array DictEntry} {ep : Nat} {sl : Array (Option Value)} (b : Str) (u : Tok)
    (hl : s.heap.get? a = some { cls := .type "dict", dict := dd, data := .dict es ep, slots := sl }) (hu : A.units < cLine) : RcAt A s (.str b u) (.ref a) false := fun prog w E Q h =>
  rc_eq_decline_or (k := false) (typeIs_str s b u) ⟨_, hl, rfl⟩ (by decide) F.sub_dict_str F.slot_str_eq F.slot_dict_eq_refl
    (fun _ hq => call_meets F.slot_str_eq (typeIs_str s b u) F.entry_str_eq (F.args_str_eq_2 _ _) (odd_str_eq_dict b u a _ dd es ep sl) ⟨hl, hq⟩)
    (fun _ hq => call_meets F.slot_dict_eq_refl ⟨_, hl, rfl⟩ F.entry_dict_eq (F.args_dict_eq_2 _ _) (odd_dict_eq_str b u a dd es ep sl) ⟨hl, hq⟩)
    (fun _ hq => wpAny_of_eq (rfl : isSame (.str b u) (.ref a) = pure false) hq) (.inr hu) h
theorem eqAt_str_dict {a : Addr} {dd : Option Addr} {es : Array DictEntry} {ep : Nat} {sl : Array (Option Value)} (b : Str) (u : Tok)
    (hl : s.heap.get? a = some { cls := .type "dict", dict := dd, data := .dict es ep, slots := sl }) (hu : A.units < cLine) : EqAt A s (.str b u) (.ref a) false := fun prog w E Q h => by
  unfold eqBool
  refine wpAny_holding (wpAny_ite_split (fun hab => absurd (eq_of_beq hab) nofun) fun _ => ?_)
  exact wpAny_bind (rc_str_dict b u hl hu prog w E _ (wpAny_truthy_bool h))
end
end PySem.SeqAt
namespace Q
open PySem PySem.Spec PyProof.Rows L2 PySem.W
/-- a value of a told kind -/
inductive Odd (K : PySem.W.Frag) (H : Hp) : V → Prop
  | non : Odd K H .non
  | bl (b : Bool) : Odd K H (.bl b)
  | int (i : Int) : Odd K H (.int i)
  | str (x : Str) : Odd K H (.str x)
  | lst {a : Addr} {xs : List V} : SqL K H a xs → Odd K H (.ref a)
  | tup {a : Addr} {xs : List V} : SqT K H a xs → Odd K H (.ref a)
  | dic {a : Addr} {kvs : List (Key × V)} : H a = some (.dK kvs) → Odd K H (.ref a)
/-- whether it is this text -/
def isStr (x : V) (z : Str) : Bool := match x with
  | .str y => z == y
  | _ => false
section
variable {X : Cx} {pins : List (Addr × Obj)} {σ : L2.St} {H : Hp} {s : Shared}
theorem eqAt_odd {A : Around} {x : V} {v : Value} (I : Inv X pins σ H s) (hu : A.units < cLine) (o : Odd X.K H x) (rx : RelV x v) (z : Str) (t : Tok) : SeqAt.EqAt A s (.str z t) v (isStr x z) := by
  cases o with
  | non =>
    cases (show v = Value.none from rx)
    exact SeqAt.EqAt.str_none z t
  | bl b =>
    cases (show v = Value.bool b from rx)
    exact SeqAt.EqAt.str_bool z t b
  | int i =>
    obtain ⟨u, q⟩ := (show ∃ u, v = Value.int i u from rx)
    cases q
    exact SeqAt.EqAt.str_int z t i u
  | str y =>
    obtain ⟨u, q⟩ := (show ∃ u, v = Value.str y u from rx)
    cases q
    exact SeqAt.EqAt.str_str z t y u
  | @lst a xs h =>
    cases (show v = Value.ref a from rx)
    obtain ⟨its, _, pl, _⟩ := I.list h
    exact SeqAt.EqAt.str_list z t pl.isList hu
  | @tup a xs h =>
    cases (show v = Value.ref a from rx)
    obtain ⟨its, _, pl, _⟩ := I.tuple h
    exact SeqAt.EqAt.str_tuple z t pl hu
  | @dic a kvs h =>
    cases (show v = Value.ref a from rx)
    obtain ⟨_, _, vs, kv, o, es, ep, ho, hx, hd, _⟩ := I.hok _ _ h
    obtain ⟨c, dd, da, sl⟩ := o
    have hc := hx.1
    simp only at hc hd
    subst hc hd
    exact SeqAt.eqAt_str_dict z t ho hu
def isStrU (x : V) : Value → Bool
  | .str z _ => isStr x z
  | _ => false
theorem any_isStrU {x : V} : ∀ {zs : List Str} {us : List Value}, Vals (zs.map V.str) us → us.any (isStrU x) = zs.any (isStr x)
  | [], _, .nil => rfl
  | z :: zs, _, .cons r t => by
    obtain ⟨tk, rfl⟩ := r
    rw [List.any_cons, List.any_cons, any_isStrU t]
    rfl
theorem strs_each {A : Around} {x : V} {v : Value} (I : Inv X pins σ H s) (hu : A.units < cLine) (o : Odd X.K H x) (rx : RelV x v) : ∀ {zs : List Str} {us : List Value}, Vals (zs.map V.str) us → ∀ u ∈ us, SeqAt.EqAt A s u v (isStrU x u)
  | [], _, .nil, u, hu' => by cases hu'
  | z :: zs, _, .cons r t, u, hu' => by
    rcases List.mem_cons.mp hu' with q | q
    · subst q
      obtain ⟨tk, rfl⟩ := r
      exact eqAt_odd I hu o rx z tk
    · exact strs_each I hu o rx t u q
/-- x in a tuple of texts, x of any told kind -/
def rInO (K : PySem.W.Frag) (neg : Bool) : R2 := fun x y H Q => ∃ (p : Addr) (zs : List Str), y = .ref p ∧ SqT K H p (zs.map V.str) ∧ Odd K H x ∧ Q (.bl (if neg then !(zs.any (isStr x)) else zs.any (isStr x))) H
theorem op_inO (hu : X.A.units + 1 < cLine) : OpR X (compareOp .In) (rInO X.K false) := by
  intro pins s σ H x y v u Q I rx ry h
  obtain ⟨p, zs, rfl, hp, o, q⟩ := h
  cases ry
  obtain ⟨its, r, pl, _⟩ := I.tuple hp
  refine SeqAt.in_tupleAt (isStrU x) pl (fun y hy => strs_each I hu o rx r y (by simpa using hy)) ⟨.bl _, H, I, rfl, ?_⟩
  rw [show its.toArray.any (isStrU x) = its.any (isStrU x) by simp, any_isStrU r]
  exact q
theorem op_notInO (hu : X.A.units + 1 < cLine) : OpR X (compareOp .NotIn) (rInO X.K true) := by
  intro pins s σ H x y v u Q I rx ry h
  obtain ⟨p, zs, rfl, hp, o, q⟩ := h
  cases ry
  obtain ⟨its, r, pl, _⟩ := I.tuple hp
  refine SeqAt.notIn_tupleAt (isStrU x) pl (fun y hy => strs_each I hu o rx r y (by simpa using hy)) ⟨.bl _, H, I, rfl, ?_⟩
  rw [show its.toArray.any (isStrU x) = its.any (isStrU x) by simp, any_isStrU r]
  exact q
/-- (z, t) == (x, y), two texts beside two values of any told kind -/
def rEqP (K : PySem.W.Frag) (ne : Bool) : R2 := fun u v H Q => ∃ (a b : Addr) (z t : Str) (x y : V), u = .ref a ∧ v = .ref b ∧ SqT K H a [.str z, .str t] ∧ SqT K H b [x, y] ∧ Odd K H x ∧ Odd K H y ∧
  Q (.bl (if ne then !(isStr x z && isStr y t) else (isStr x z && isStr y t))) H
theorem op_eqP (hu : X.A.units + 1 < cLine) : OpR X (compareOp .Eq) (rEqP X.K false) := by
  intro pins s σ H u v w1 w2 Q I ru rv h
  obtain ⟨a, b, z, t, x, y, rfl, rfl, ha, hb, ox, oy, q⟩ := h
  cases ru
  cases rv
  obtain ⟨its, r1, pl1, _⟩ := I.tuple ha
  obtain ⟨its2, r2, pl2, _⟩ := I.tuple hb
  obtain ⟨v1, v2, rfl, ⟨tz, rfl⟩, ⟨tt, rfl⟩⟩ := vals2 r1
  obtain ⟨v3, v4, rfl, rx, ry⟩ := vals2 r2
  have hu1 : X.A.in1.units < cLine := hu
  refine SeqAt.eq_tupleAt (e := fun i => if i = 0 then isStr x z else isStr y t) pl1 pl2 (by omega) (fun j h1 h2 => ?_) ⟨.bl _, H, I, rfl, ?_⟩
  · match j, h1, h2 with
    | 0, _, _ => exact eqAt_odd I hu1 ox rx z tz
    | 1, _, _ => exact eqAt_odd I hu1 oy ry t tt
    | j + 2, h1, _ => exact absurd h1 (by simp)
  · have e : ((List.range (min (#[Value.str z tz, Value.str t tt] : Array Value).size (#[v3, v4] : Array Value).size)).all (fun i => if i = 0 then isStr x z else isStr y t) && (#[Value.str z tz, Value.str t tt] : Array Value).size == (#[v3, v4] : Array Value).size) = (isStr x z && isStr y t) := by
      show ((List.range 2).all (fun i => if i = 0 then isStr x z else isStr y t) && true) = _
      rw [Bool.and_true]
      show ([0, 1].all fun i => if i = 0 then isStr x z else isStr y t) = _
      simp
    show Q (.bl _) H
    rw [show ([Value.str z tz, Value.str t tt] : List Value).toArray = #[Value.str z tz, Value.str t tt] from rfl, show ([v3, v4] : List Value).toArray = #[v3, v4] from rfl, e]
    exact q
theorem op_neP (hu : X.A.units + 1 < cLine) : OpR X (compareOp .NotEq) (rEqP X.K true) := by
  intro pins s σ H u v w1 w2 Q I ru rv h
  obtain ⟨a, b, z, t, x, y, rfl, rfl, ha, hb, ox, oy, q⟩ := h
  cases ru
  cases rv
  obtain ⟨its, r1, pl1, _⟩ := I.tuple ha
  obtain ⟨its2, r2, pl2, _⟩ := I.tuple hb
  obtain ⟨v1, v2, rfl, ⟨tz, rfl⟩, ⟨tt, rfl⟩⟩ := vals2 r1
  obtain ⟨v3, v4, rfl, rx, ry⟩ := vals2 r2
  have hu1 : X.A.in1.units < cLine := hu
  refine SeqAt.RcNeAt.tuples (e := fun i => if i = 0 then isStr x z else isStr y t) pl1 pl2 (by omega) (fun j h1 h2 => ?_) X.prog X.w _ _ ⟨.bl _, H, I, rfl, ?_⟩
  · match j, h1, h2 with
    | 0, _, _ => exact eqAt_odd I hu1 ox rx z tz
    | 1, _, _ => exact eqAt_odd I hu1 oy ry t tt
    | j + 2, h1, _ => exact absurd h1 (by simp)
  · have e : ((List.range (min (#[Value.str z tz, Value.str t tt] : Array Value).size (#[v3, v4] : Array Value).size)).all (fun i => if i = 0 then isStr x z else isStr y t) && (#[Value.str z tz, Value.str t tt] : Array Value).size == (#[v3, v4] : Array Value).size) = (isStr x z && isStr y t) := by
      show ((List.range 2).all (fun i => if i = 0 then isStr x z else isStr y t) && true) = _
      rw [Bool.and_true]
      show ([0, 1].all fun i => if i = 0 then isStr x z else isStr y t) = _
      simp
    show Q (.bl _) H
    rw [show ([Value.str z tz, Value.str t tt] : List Value).toArray = #[Value.str z tz, Value.str t tt] from rfl, show ([v3, v4] : List Value).toArray = #[v3, v4] from rfl, e]
    exact q
end
end Q
set_option Elab.async false
set_option linter.all false
set_option maxRecDepth 100000
set_option maxHeartbeats 4000000
/-! Lambdas as values: made, kept in lists, passed on, called elsewhere. -/
namespace Q
open PySem PySem.Spec PyProof.Rows L2 LamX NdefX

/-! ### the closure's object -/
/-- at f stands the closure F with this body -/
def CloO (f : Addr) (F : NF) (body : Expr) : HO :=
  .ext fun h => ∃ pm ctv : Value, h.get? f = some (PySem.W.kla_obj F.name F.qual F.params body F.scope F.cl pm F.c ctv)
section
variable {P : Program} {w : World} {H : Hp} {h : Heap} {f : Addr} {F : NF} {body : Expr}
theorem cloO_at (ok : HOk P w H h) (e : H f = some (CloO f F body)) :
    ∃ pm ctv : Value, h.get? f = some (PySem.W.kla_obj F.name F.qual F.params body F.scope F.cl pm F.c ctv) := (ok f _ e).1
end
section
variable {X : Cx} {pins : List (Addr × Obj)} {σ : L2.St} {H : Hp} {s : Shared}
theorem clo_laid {F : NF} {body : Expr} {pm ctv : Value} {tk : Nat} {h' : Heap} (J : Inv X pins σ H { s with heap := h', toks := tk }) :
    Inv X pins σ (upd H h'.objs.size (CloO h'.objs.size F body))
      { s with heap := h'.push (PySem.W.kla_obj F.name F.qual F.params body F.scope F.cl pm F.c ctv), toks := tk } := by
  have top : (h'.push (PySem.W.kla_obj F.name F.qual F.params body F.scope F.cl pm F.c ctv)).get? h'.objs.size = some (PySem.W.kla_obj F.name F.qual F.params body F.scope F.cl pm F.c ctv) :=
    Heap.get?_push_size _ rfl
  refine J.laid (t' := tk) (fun _ _ e => Heap.get?_push_of_some _ e) (Nat.le_refl h'.objs.size) ?_
  refine ⟨⟨pm, ctv, top⟩, ⟨_, top⟩, ?_⟩
  rintro g g' ⟨pm', ctv', e⟩ st
  exact ⟨pm', ctv', st _ e⟩
/-- a lambda is made: the closure is tracked -/
theorem lam_val {T : List (Addr × Str)} {c P : Addr} {params : Arguments} {body : Expr} {scope : Scope} {pos : Pos} {E Q : Value → Shared → Prop}
    (I : Inv X pins σ H s) (TB : TabB X.base X.mg c P) (code : X.env.code = .ref c) (hm : (P, X.env.qual ++ "<lambda>") ∈ T)
    (hu : ∀ p ∈ T, p.1 = P → p.2 = X.env.qual ++ "<lambda>") (hT : Tabs T H) (hdef : defaultsOf params X.env = ([], []))
    (hfree : ∀ y ∈ scope.names, y.2 = .free → ∃ c, X.env.cells.lookup y.1 = some c)
    (k : ∀ (f c' : Addr) (H1 : Hp) (s' : Shared), Inv X pins σ H1 s' → ExtN H H1 → Tabs T H1 → H f = none →
      H1 f = some (CloO f ⟨"<lambda>", X.env.qual ++ "<lambda>", params, [], scope, cloFrom X.env.cells scope.names [], c'⟩ body) →
      H1 c' = some (CodeO c' (X.env.qual ++ "<lambda>")) → Q (.ref f) s') :
    wpAny (model X.prog X.w) X.A (eval (.Lambda params body scope pos) X.env) Q E s := by
  have tab := hT _ hm
  obtain ⟨ps, atP, tri, amg⟩ := tab
  have bl := TB.bm.keeps I.bk
  have hp := I.hok P _ atP
  refine PySem.W.kla_eval hdef ?_
  -- what the new closure adds to a heap that holds the tables
  have last : ∀ {H0 : Hp} {h' : Heap} {tk : Nat} {c' : Addr} {pm ctv : Value}, Inv X pins σ H0 { s with heap := h', toks := tk } → ExtN H H0 → Tabs T H0 → H0 c' = some (CodeO c' (X.env.qual ++ "<lambda>")) → s.heap.objs.size ≤ h'.objs.size →
      Q (.ref h'.objs.size) { s with heap := h'.push (PySem.W.kla_obj "<lambda>" (X.env.qual ++ "<lambda>") params body scope (cloFrom X.env.cells scope.names []) pm c' ctv), toks := tk } := by
    intro H0 h' tk c' pm ctv J ext tb hc sz
    have new : H0 h'.objs.size = none := J.hok.fresh (Nat.le_refl _)
    have keepN : ∀ b o, H0 b = some o → upd H0 h'.objs.size (CloO h'.objs.size ⟨"<lambda>", X.env.qual ++ "<lambda>", params, [], scope, cloFrom X.env.cells scope.names [], c'⟩ body) b = some o :=
      fun b o e => (upd_ne (ne_of_none e new)).trans e
    exact k _ c' _ _ (clo_laid (F := ⟨"<lambda>", X.env.qual ++ "<lambda>", params, [], scope, cloFrom X.env.cells scope.names [], c'⟩) J)
      (fun b o e n => keepN b o (ext b o e n)) (tb.ext keepN) (I.hok.fresh sz) upd_same (keepN _ _ hc)
  cases am : codeAmong pos ps.toList with
  | some cv =>
    obtain ⟨c', rfl, hco⟩ := amg pos cv am
    refine PySem.W.kla_makeFunctionHit (mg := X.mg) (c := c) (P := P) (ps := ps) (closure_ok hfree) I.ok.glob
      (I.mod.glob.keeps I.bk) code (TB.code.keeps I.bk) hp tri am bl ?_
    intro ctv h' tk kept sz
    exact last (I.kept (t' := tk) kept) (ExtN.refl H) hT hco sz
  | none =>
    refine PySem.W.kla_makeFunction (mg := X.mg) (c := c) (P := P) (ps := ps) (closure_ok hfree) I.ok.glob
      (I.mod.glob.keeps I.bk) code (TB.code.keeps I.bk) hp tri am TB.gP bl ?_
    rintro c' ctv h' tk but new lt ⟨_, oc, vs, t, e0, e1, e2, e3⟩ atP'
    cases e0
    have J := inv_table (t' := tk) (more := #[rawInt pos.line, rawInt pos.col, .ref c']) (h' := h') I atP (fun b o n e => but b o n e) atP' new ⟨oc, vs, t, e1, e2, e3⟩
    have nC : H c' = none := I.hok.fresh new
    have ext : ExtN H (upd (upd H P (.tbl (ps ++ #[rawInt pos.line, rawInt pos.col, .ref c']))) c' (CodeO c' (X.env.qual ++ "<lambda>"))) := by
      intro b o e n
      have bP : b ≠ P := by
        rintro rfl
        rw [atP] at e
        exact n ps (Option.some.inj e).symm
      rw [upd_ne (ne_of_none e nC), upd_ne bP]
      exact e
    refine last J ext ?_ upd_same (Nat.le_trans new (Nat.le_of_lt lt))
    intro p hpT
    by_cases same : p.1 = P
    · rw [hu p hpT same, same]
      refine ⟨ps ++ #[rawInt pos.line, rawInt pos.col, .ref c'], ?_, ?_, ?_⟩
      · rw [upd_ne (ne_of_none atP nC), upd_same]
      · rw [show (ps ++ #[rawInt pos.line, rawInt pos.col, Value.ref c']).toList = ps.toList ++ [rawInt pos.line, rawInt pos.col, .ref c'] by simp]
        exact PySem.TriplesOk_snoc _ _ _ _ tri
      · intro pos2 cv2 am2
        have am3 : codeAmong pos2 (ps.toList ++ [rawInt pos.line, rawInt pos.col, .ref c']) = some cv2 := by simpa using am2
        rcases among_app _ tri am3 with old | rfl
        · obtain ⟨c0, e4, e5⟩ := amg pos2 cv2 old
          exact ⟨c0, e4, ext _ _ e5 codeO_ne⟩
        · exact ⟨c', rfl, upd_same⟩
    · obtain ⟨ps2, b1, b2, b3⟩ := hT p hpT
      refine ⟨ps2, ?_, b2, fun pos2 cv2 am2 => ?_⟩
      · rw [upd_ne (ne_of_none b1 nC), upd_ne same]
        exact b1
      · obtain ⟨c0, e4, e5⟩ := b3 pos2 cv2 am2
        exact ⟨c0, e4, ext _ _ e5 codeO_ne⟩
/-- a lambda as a value -/
def tLamV (T : List (Addr × Str)) (mk : Addr → NF) (body : Expr) : TE := fun _ H Q => Tabs T H ∧ ∀ (f c' : Addr) (H1 : Hp), ExtN H H1 → Tabs T H1 → H f = none →
  H1 f = some (CloO f (mk c') body) → H1 c' = some (CodeO c' (mk c').qual) → Q (.ref f) H1
theorem pe_lamV {T : List (Addr × Str)} {c P : Addr} {params : Arguments} {body : Expr} {scope : Scope} {pos : Pos}
    (TB : TabB X.base X.mg c P) (code : X.env.code = .ref c) (hm : (P, X.env.qual ++ "<lambda>") ∈ T)
    (hu : ∀ p ∈ T, p.1 = P → p.2 = X.env.qual ++ "<lambda>") (hdef : defaultsOf params X.env = ([], []))
    (L : ∀ y ∈ scope.names, y.2 = .free → X.env.scope.names.lookup y.1 = some .cell ∨ X.env.scope.names.lookup y.1 = some .free) :
    PE X (.Lambda params body scope pos) (tLamV T (fun c' => ⟨"<lambda>", X.env.qual ++ "<lambda>", params, [], scope, cloFrom X.env.cells scope.names [], c'⟩) body) := by
  refine ⟨fun pins s σ H Q I h => ?_⟩
  refine lam_val I TB code hm hu h.1 hdef (fun y hy e => (L y hy e).elim (fun z => I.ok.has _ (.inl z)) fun z => I.ok.has _ (.inr z)) ?_
  intro f c' H1 s' J e t n1 n2 n3
  exact ⟨.ref f, H1, J, rfl, h.2 f c' H1 e t n1 n2 n3⟩
end
end Q
set_option Elab.async false
set_option linter.all false
set_option maxRecDepth 100000
set_option maxHeartbeats 4000000
/-! A closure's promise; cells that are pinned while a call runs. -/
namespace Q
open PySem PySem.Spec PyProof.Rows L2 LamX NdefX

/-- the promise of a lambda: ws: what its captured cells hold at the call -/
structure LOk (P : Program) (w : World) (K : PySem.W.Frag) (mg : Str → Option Value) (base : Heap) (k : Nat) (f : Addr) (F : NF) (body : Expr)
    (fr : List Str) (sp : List (Option V) → Hp → VK → XK → Prop) : Prop where
  run : ∀ (A : Around) (outer : List Env) (s : Shared) (H : Hp) (ws : List (Option V)) (Q : VK) (E : XK), Room k A → Env0 P w K mg base A outer s H →
    H f = some (CloO f F body) → H F.c = some (CodeO F.c F.qual) → CellsAt F.cl fr ws s.heap H → sp ws H Q E →
    codeAny (model P w) A (.call (.ref f) ⟨[], []⟩) (CR (L2.CX P w) outer P w H s Q E) s
section
variable {P : Program} {w : World} {K : PySem.W.Frag} {mg : Str → Option Value} {base : Heap} {N fr : List Str} {F : NF} {f : Addr} {body : Expr} {k : Nat}
  {sp : List (Option V) → Hp → VK → XK → Prop}
/-- a lambda by its body -/
theorem lok_of (S : NScope N [] fr F.scope) (hb : ∀ pm ctv : Value, bindArgs (PySem.W.kla_fn F.name F.qual F.params body F.scope F.cl pm (.ref F.c) ctv) ⟨[], []⟩ = pure [])
    (hbody : ∀ (A : Around) (outer : List Env) (s : Shared) (H : Hp) (ws : List (Option V)) (Q : VK) (E : XK), Room k (A.deeper (envF F f s.heap.objs.size)) → ws.length = fr.length → sp ws H Q E →
      ∃ t : TE, PE (ncx (L2.CX P w) P w K mg base N F f A outer s H E) body t ∧ t (startF N [] ws) H Q) :
    LOk P w K mg base (k + 1) f F body fr sp := by
  constructor
  intro A outer s H ws Q E hr e0 hf hc C hsp
  have lim : s.heap.NoLimit := e0.mod.nolimit.keeps fun b o e => (e0.bs b o e).1
  obtain ⟨pm, ctv, at_f⟩ := cloO_at e0.hok hf
  obtain ⟨t, ht, hq⟩ := hbody A outer s H ws Q E (hr.deeper _) C.len hsp
  refine PySem.W.kla_callFunE hr.depth at_f rfl S.co S.gen rfl (codeO_at e0.hok hc) ?_
  rw [hb pm ctv]
  refine wpAny_pure (wpAny_newFunctionEnv S.nocell (fun _ hy => nomatch hy) (fun h₁ hns hsb => ⟨lim.fresh _ hsb, ?_⟩) S.kind)
  have kp : ∀ b o, s.heap.get? b = some o → h₁.get? b = some o := by
    intro b o e
    exact hsb.extBut b o (Nat.ne_of_lt (Heap.lt_size e)) (Heap.get?_push_of_some _ e)
  have J := inv_startN (CX := L2.CX P w) (N := N) (F := F) (f := f) (E := E) (us := []) (vs := []) (tk := s.toks + ([] : List (Str × Value)).length) S hr.hd e0 rfl .nil C hns kp
  show codeAny _ _ (.expr body (envF F f s.heap.objs.size)) _ _
  refine PySem.W.kla_codeExpr (wpAny_mono (ht.run [] _ (startF N [] ws) H Q J hq) ?_ fun _ _ z => z)
  rintro u s' ⟨v, H', J', rv, q⟩
  exact ⟨v, H', J'.os, J'.bare, J'.base, J'.hok, rv, q⟩
end

/-! ### pins -/
/-- at c stands just this object -/
def PinO (c : Addr) (ob : Obj) : HO := .ext fun h => h.get? c = some ob
abbrev Pl := List (Addr × Obj)
def addP (pl : Pl) (H : Hp) : Hp := fun b => match pl.lookup b with
  | some ob => some (PinO b ob)
  | none => H b
def delP (pl : Pl) (H : Hp) : Hp := fun b => match pl.lookup b with
  | some _ => none
  | none => H b
def Pinned (pl : Pl) (H : Hp) : Prop := ∀ b ob, pl.lookup b = some ob → H b = some (PinO b ob)
section
variable {pl : Pl} {H H' : Hp} {b : Addr} {o : HO} {ob : Obj}
theorem add_in (e : pl.lookup b = some ob) : addP pl H b = some (PinO b ob) := by
  unfold addP
  rw [e]
theorem add_out (e : pl.lookup b = none) : addP pl H b = H b := by
  unfold addP
  rw [e]
theorem del_in (e : pl.lookup b = some ob) : delP pl H b = none := by
  unfold delP
  rw [e]
theorem del_out (e : pl.lookup b = none) : delP pl H b = H b := by
  unfold delP
  rw [e]
theorem pinned_add : Pinned pl (addP pl H) := fun _ _ e => add_in e
theorem add_del (h : Pinned pl H) : addP pl (delP pl H) = H := by
  funext b
  cases e : pl.lookup b with
  | none => rw [add_out e, del_out e]
  | some ob => rw [add_in e, h b ob e]
theorem pin_ne {u : HO} (d : ∀ φ, u ≠ .ext φ) : PinO b ob ≠ u := fun z => d _ z.symm
end
/-- the pins lie free -/
def Free (pl : Pl) (H : Hp) (h : Heap) : Prop := ∀ b ob, pl.lookup b = some ob → H b = none ∧ h.get? b = some ob
section
variable {P : Program} {w : World} {pl : Pl} {H H' : Hp} {h h' : Heap}
theorem Free.old (fr : Free pl H h) {b : Addr} {o : HO} (e : H b = some o) : pl.lookup b = none := by
  cases z : pl.lookup b with
  | none => rfl
  | some ob =>
    rw [(fr b ob z).1] at e
    cases e
theorem Free.add (fr : Free pl H h) {b : Addr} {o : HO} (e : H b = some o) : addP pl H b = some o := by
  rw [add_out (fr.old e)]
  exact e
theorem Free.hok (fr : Free pl H h) (ok : HOk P w H h) : HOk P w (addP pl H) h := by
  intro b o e
  cases z : pl.lookup b with
  | some ob =>
    rw [add_in z] at e
    cases e
    have g := (fr b ob z).2
    exact ⟨g, ⟨ob, g⟩, fun h1 h2 e1 st => st _ e1⟩
  | none =>
    rw [add_out z] at e
    exact (ok b o e).stay (fun _ _ _ q => q) (fun c q => fr.add q) fun c xs q => fr.add q
theorem Pinned.old (pn : Pinned pl H) {b : Addr} {u : HO} (e : H b = some u) (d : ∀ φ, u ≠ .ext φ) : pl.lookup b = none := by
  cases z : pl.lookup b with
  | none => rfl
  | some ob =>
    rw [pn b ob z] at e
    exact absurd (Option.some.inj e) (pin_ne d)
theorem Pinned.hok (pn : Pinned pl H) (ok : HOk P w H h) : HOk P w (delP pl H) h := by
  intro b o e
  cases z : pl.lookup b with
  | some ob =>
    rw [del_in z] at e
    cases e
  | none =>
    rw [del_out z] at e
    exact (ok b o e).stay (fun _ _ _ q => q) (fun c q => by rw [del_out (pn.old q (fun _ z => nomatch z))]; exact q)
      fun c xs q => by rw [del_out (pn.old q (fun _ z => nomatch z))]; exact q
theorem Pinned.at_ (pn : Pinned pl H) (ok : HOk P w H h) : Free pl (delP pl H) h := fun b ob e => ⟨del_in e, (ok b _ (pn b ob e)).1⟩
/-- a run over the heap with pins, told without them -/
theorem Un.unpin {fs : List Addr} (fr : Free pl H h) (u : Un fs [] (addP pl H) H' h h') (ok : HOk P w H' h') (pn : Pinned pl H') : Un fs [] H (delP pl H') h h' where
  keep b o e n nf nx := by
    cases z : pl.lookup b with
    | some ob =>
      rw [(fr b ob z).2] at e
      cases e
      exact (ok b _ (pn b _ z)).1
    | none => exact u.keep b o e (by rw [add_out z]; exact n) nf nx
  slot b o e n hf nx := by
    cases z : pl.lookup b with
    | some ob =>
      rw [(fr b ob z).2] at e
      cases e
      exact ⟨o.slots, (ok b _ (pn b _ z)).1⟩
    | none => exact u.slot b o e (by rw [add_out z]; exact n) hf nx
  free b o e n nx := by
    cases z : pl.lookup b with
    | some ob => exact del_in z
    | none =>
      rw [del_out z]
      exact u.free b o e (by rw [add_out z]; exact n) nx
  there := u.there
  tups b xs e := by
    rw [del_out (fr.old e)]
    exact u.tups b xs (fr.add e)
  frzs b o x e := by
    rw [del_out (fr.old e)]
    exact u.frzs b o x (fr.add e)
  tbls b ps e := by
    rw [del_out (fr.old e)]
    exact u.tbls b ps (fr.add e)
/-- a run without the pins, told with them -/
theorem Un.repin {fs : List Addr} (pn : Pinned pl H) (ok : HOk P w H h) (nf : ∀ b ob, pl.lookup b = some ob → b ∉ fs) (u : Un fs [] (delP pl H) H' h h') : Un fs [] H (addP pl H') h h' ∧ Free pl H' h' := by
  have fr := pn.at_ ok
  have out : ∀ {b}, H b = none → pl.lookup b = none := fun {b} n => by
    cases z : pl.lookup b with
    | none => rfl
    | some ob =>
      rw [pn b ob z] at n
      cases n
  refine ⟨⟨fun b o e n => u.keep b o e (by rw [del_out (out n)]; exact n), fun b o e n => u.slot b o e (by rw [del_out (out n)]; exact n), fun b o e n nx => ?_, u.there, fun b xs e => ?_, fun b o x e => ?_, fun b ps e => ?_⟩, fun b ob e => ?_⟩
  · rw [add_out (out n)]
    exact u.free b o e (by rw [del_out (out n)]; exact n) nx
  · have z := pn.old e (fun _ z => nomatch z)
    rw [add_out z]
    exact u.tups b xs (by rw [del_out z]; exact e)
  · have z := pn.old e (fun _ z => nomatch z)
    rw [add_out z]
    exact u.frzs b o x (by rw [del_out z]; exact e)
  · have z := pn.old e (fun _ z => nomatch z)
    rw [add_out z]
    exact u.tbls b ps (by rw [del_out z]; exact e)
  · obtain ⟨n, g⟩ := fr b ob e
    exact ⟨u.free b ob g n List.not_mem_nil, u.keep b ob g n (nf b ob e) List.not_mem_nil⟩
end
end Q
set_option Elab.async false
set_option linter.all false
set_option maxRecDepth 100000
set_option maxHeartbeats 4000000
/-! A closure called where its cells are pinned. -/
namespace Q
open PySem PySem.Spec PyProof.Rows L2 LamX NdefX

/-- the pins are the closure's cells, ws what they hold -/
structure PinCells (cl : List (Str × Addr)) (fr : List Str) (ws : List (Option V)) (pl : Pl) : Prop where
  len : ws.length = fr.length
  data : ∀ b ob, pl.lookup b = some ob → ∃ v, ob.data = .cell v
  all : ∀ y c, cl.lookup y = some c → ∃ ob, pl.lookup c = some ob
  inj : ∀ x y c, cl.lookup x = some c → cl.lookup y = some c → x = y
  has : ∀ (i : Nat) (y : Str), fr[i]? = some y → ∃ c, cl.lookup y = some c ∧ ∀ v, ws[i]? = some (some v) → ∃ u ob, L2.RelV v u ∧ pl.lookup c = some ob ∧ ob.data = .cell (some u)
section
variable {cl : List (Str × Addr)} {fr : List Str} {ws : List (Option V)} {pl : Pl} {H : Hp} {h : Heap}
theorem PinCells.cells (pc : PinCells cl fr ws pl) (fr' : Free pl H h) : CellsAt cl fr ws h H := by
  refine ⟨pc.len, fun y c e => ?_, pc.inj, fun i y e => ?_⟩
  · obtain ⟨ob, eo⟩ := pc.all y c e
    obtain ⟨v, ev⟩ := pc.data c ob eo
    exact ⟨(fr' c ob eo).1, v, ob, (fr' c ob eo).2, ev⟩
  · obtain ⟨c, ec, hv⟩ := pc.has i y e
    refine ⟨c, ec, fun v ev => ?_⟩
    obtain ⟨u, ob, rv, eo, ed⟩ := hv v ev
    exact ⟨u, rv, ob, (fr' c ob eo).2, ed⟩
/-- the pins of cells -/
theorem pins_of (C : CellsAt cl fr ws h H) : ∃ pl, PinCells cl fr ws pl ∧ Free pl H h ∧ ∀ b ob, pl.lookup b = some ob → ∃ y, cl.lookup y = some b := by
  have key : ∀ (l : List (Str × Addr)), (∀ p ∈ l, p ∈ cl) → ∃ pl : Pl, (∀ b ob, pl.lookup b = some ob → h.get? b = some ob ∧ ∃ y, cl.lookup y = some b) ∧ ∀ p ∈ l, cl.lookup p.1 = some p.2 → ∃ ob, pl.lookup p.2 = some ob := by
    intro l
    induction l with
    | nil => exact fun _ => ⟨[], fun b ob e => (nomatch e), fun p hp => (nomatch hp)⟩
    | cons p l ih =>
      intro hl
      obtain ⟨pl, q1, q2⟩ := ih fun x hx => hl x (List.mem_cons_of_mem _ hx)
      by_cases e : cl.lookup p.1 = some p.2
      · obtain ⟨_, v, o, ho, _⟩ := C.all p.1 p.2 e
        refine ⟨(p.2, o) :: pl, fun b ob eb => ?_, fun x hx ex => ?_⟩
        · by_cases z : b = p.2
          · subst z
            simp only [List.lookup, beq_self_eq_true] at eb
            cases eb
            exact ⟨ho, p.1, e⟩
          · have z2 : (b == p.2) = false := beq_false_of_ne z
            simp only [List.lookup, z2] at eb
            exact q1 b ob eb
        · by_cases z : x.2 = p.2
          · exact ⟨o, by rw [z]; simp [List.lookup]⟩
          · have z2 : (x.2 == p.2) = false := beq_false_of_ne z
            rcases List.mem_cons.mp hx with rfl | hx
            · exact absurd rfl z
            · obtain ⟨ob, eo⟩ := q2 x hx ex
              exact ⟨ob, by simp only [List.lookup, z2]; exact eo⟩
      · refine ⟨pl, q1, fun x hx ex => ?_⟩
        rcases List.mem_cons.mp hx with rfl | hx
        · exact absurd ex e
        · exact q2 x hx ex
  obtain ⟨pl, q1, q2⟩ := key cl fun _ h => h
  have got : ∀ y c, cl.lookup y = some c → ∃ ob, pl.lookup c = some ob ∧ h.get? c = some ob := fun y c e => by
    obtain ⟨ob, eo⟩ := q2 (y, c) (PySem.mem_of_lookup e) e
    exact ⟨ob, eo, (q1 c ob eo).1⟩
  refine ⟨pl, ⟨C.len, fun b ob e => ?_, fun y c e => let ⟨ob, eo, _⟩ := got y c e; ⟨ob, eo⟩, C.inj, fun i y e => ?_⟩, fun b ob e => ?_, fun b ob e => (q1 b ob e).2⟩
  · obtain ⟨g, y, ey⟩ := q1 b ob e
    obtain ⟨_, v, o, ho, hd⟩ := C.all y b ey
    rw [g] at ho
    cases ho
    exact ⟨v, hd⟩
  · obtain ⟨c, ec, hv⟩ := C.has i y e
    refine ⟨c, ec, fun v ev => ?_⟩
    obtain ⟨u, rv, o, ho, hd⟩ := hv v ev
    obtain ⟨ob, eo, go⟩ := got y c ec
    rw [ho] at go
    cases go
    exact ⟨u, o, rv, eo, hd⟩
  · obtain ⟨g, y, ey⟩ := q1 b ob e
    exact ⟨(C.all y b ey).1, g⟩
end
section
variable {P : Program} {w : World} {K : PySem.W.Frag} {mg : Str → Option Value} {base : Heap} {fr : List Str} {F : NF} {f : Addr} {body : Expr} {k : Nat}
  {sp : List (Option V) → Hp → VK → XK → Prop} {pl : Pl}
theorem env0_del {A : Around} {outer : List Env} {s : Shared} {H : Hp} (e0 : Env0 P w K mg base A outer s H) (pn : Pinned pl H) : Env0 P w K mg base A outer s (delP pl H) := by
  have low : ∀ b, H b = none → delP pl H b = none := fun b n => by
    unfold delP
    split
    · rfl
    · exact n
  exact ⟨e0.frames, e0.mod, fun b o e => ⟨(e0.bs b o e).1, low b (e0.bs b o e).2⟩, e0.bsz, e0.funs, fun b hb => low b (e0.frf b hb), pn.hok e0.hok, e0.bare⟩
theorem env0_add {A : Around} {outer : List Env} {s : Shared} {H : Hp} (e0 : Env0 P w K mg base A outer s H) (fr : Free pl H s.heap) (nb : ∀ b ob, pl.lookup b = some ob → base.get? b = none ∧ b ∉ frs outer) : Env0 P w K mg base A outer s (addP pl H) := by
  refine ⟨e0.frames, e0.mod, fun b o e => ⟨(e0.bs b o e).1, ?_⟩, e0.bsz, e0.funs, fun b hb => ?_, fr.hok e0.hok, e0.bare⟩
  · cases z : pl.lookup b with
    | none =>
      rw [add_out z]
      exact (e0.bs b o e).2
    | some ob =>
      rw [(nb b ob z).1] at e
      cases e
  · cases z : pl.lookup b with
    | none =>
      rw [add_out z]
      exact e0.frf b hb
    | some ob => exact absurd hb (nb b ob z).2
/-- nothing is tracked where the pins lie -/
def Offp (pl : Pl) (H : Hp) : Prop := ∀ b ob, pl.lookup b = some ob → H b = none
/-- the promise where the cells are pinned -/
theorem LOk.pinned (L : LOk P w K mg base k f F body fr sp) {A : Around} {outer : List Env} {s : Shared} {H : Hp} {ws : List (Option V)} {Q : VK} {E : XK} (hr : Room k A) (e0 : Env0 P w K mg base A outer s H)
    (hf : H f = some (CloO f F body)) (hc : H F.c = some (CodeO F.c F.qual)) (pn : Pinned pl H) (pc : PinCells F.cl fr ws pl)
    (q : sp ws (delP pl H) (fun v H' => Offp pl H' → Q v (addP pl H')) (fun c d H' => Offp pl H' → E c d (addP pl H'))) :
    codeAny (model P w) A (.call (.ref f) ⟨[], []⟩) (CR (L2.CX P w) outer P w H s Q E) s := by
  have f1 := pn.at_ e0.hok
  have cells := pc.cells f1
  have nof : ∀ b ob, pl.lookup b = some ob → b ∉ frs outer := fun b ob e hb => by
    have z := e0.frf b hb
    rw [pn b ob e] at z
    cases z
  have hf' : delP pl H f = some (CloO f F body) := by
    cases z : pl.lookup f with
    | none =>
      rw [del_out z]
      exact hf
    | some ob =>
      obtain ⟨v, ev⟩ := pc.data f ob z
      obtain ⟨pm, ctv, g⟩ := cloO_at e0.hok hf
      rw [(f1 f ob z).2] at g
      cases g
      cases ev
  have hc' : delP pl H F.c = some (CodeO F.c F.qual) := by
    cases z : pl.lookup F.c with
    | none =>
      rw [del_out z]
      exact hc
    | some ob =>
      obtain ⟨v, ev⟩ := pc.data F.c ob z
      obtain ⟨⟨oc, vs, t, g, d, _⟩, _, _⟩ := e0.hok F.c _ hc
      rw [(f1 F.c ob z).2] at g
      cases g
      rw [ev] at d
      cases d
  refine codeAny_mono (L.run A outer s (delP pl H) ws _ _ hr (env0_del e0 pn) hf' hc' cells q) fun r s' hq => ?_
  match r, hq with
  | .error e, hq =>
    obtain ⟨a, B, H', cls, d, rfl, fl, ok, ub, na, os, bare, hE⟩ := hq
    have fB : Free pl H' B := fun b ob e => ⟨ub.free b ob (f1 b ob e).2 (f1 b ob e).1, ub.keep b ob (f1 b ob e).2 (f1 b ob e).1 (nof b ob e)⟩
    have out : ∀ {b}, H b = none → pl.lookup b = none := fun {b} n => by
      cases z : pl.lookup b with
      | none => rfl
      | some ob =>
        rw [pn b ob z] at n
        cases n
    have na2 : pl.lookup a = none := by
      cases z : pl.lookup a with
      | none => rfl
      | some ob =>
        have z2 := (fB a ob z).2
        rw [fl.2.1] at z2
        cases z2
    refine ⟨a, B, addP pl H', cls, d, rfl, fl, fB.hok ok, ⟨fun b o e n => ub.keep b o e (by rw [del_out (out n)]; exact n), ub.slot, fun b o e n => ?_, ub.there, fun b xs e => ?_, fun b o x e => ?_, fun b ps e => ?_⟩, ?_, os, bare, hE fun b ob e => (fB b ob e).1⟩
    · rw [add_out (out n)]
      exact ub.free b o e (by rw [del_out (out n)]; exact n)
    · have z := pn.old e (fun _ z => nomatch z)
      rw [add_out z]
      exact ub.tups b xs (by rw [del_out z]; exact e)
    · have z := pn.old e (fun _ z => nomatch z)
      rw [add_out z]
      exact ub.frzs b o x (by rw [del_out z]; exact e)
    · have z := pn.old e (fun _ z => nomatch z)
      rw [add_out z]
      exact ub.tbls b ps (by rw [del_out z]; exact e)
    · rw [add_out na2]
      exact na
  | .ok (.ret u), hq =>
    obtain ⟨v, H', os, bare, un, ok, rv, qq⟩ := hq
    obtain ⟨un2, f2⟩ := Un.repin pn e0.hok nof un
    exact ⟨v, addP pl H', os, bare, un2, f2.hok ok, rv, qq fun b ob e => (f2 b ob e).1⟩
/-- what a call of the closure asks where its cells are pinned -/
def tlPin (f : Addr) (F : NF) (body : Expr) (sp : List (Option V) → Hp → VK → XK → Prop) (ws : List (Option V)) (pl : Pl) : XK → Hp → VK → Prop := fun E H Q =>
  H f = some (CloO f F body) ∧ Pinned pl H ∧ sp ws (delP pl H) (fun v H' => Offp pl H' → Q v (addP pl H')) (fun c d H' => Offp pl H' → E c d (addP pl H'))
/-- x(), in a def that got the closure -/
theorem pe_actP {Ng : List Str} {qg : Str} {sg : Scope} {g : Addr} {cdg : Value} {A : Around} {outer : List Env} {s : Shared} {H : Hp} {Eg : XK} {CXg : CXT} {i : Nat} {a : Str} {pn : List (Addr × Obj)} {xe : Value → Shared → Prop} {W : WX} {E : XK} {ws : List (Option V)} {p1 p2 : Pos}
    (L : LOk P w K mg base k f F body fr sp) (pc : PinCells F.cl fr ws pl) (tk : Takes ((cxOf CXg P w K mg base Ng qg sg g cdg A outer s H Eg).tr pn xe) W) (hW : ∀ cls d σ' H', E cls d H' → W cls d σ' H')
    (hr : Room k (A.deeper (envOfC qg sg s.heap.objs.size g cdg))) (hN : Ng[i]? = some a) (hv : Vis sg a) (hd : (a == ("__debug__" : Str)) = false := by decide) (hcd : (a == ("__classdict__" : Str)) = false := by decide) :
    PE ((cxOf CXg P w K mg base Ng qg sg g cdg A outer s H Eg).tr pn xe) (.Call (.Name a p1) [] [] p2)
      (fun σZ HZ Q => σZ[i]? = some (some (.ref f)) ∧ HZ F.c = some (CodeO F.c F.qual) ∧ tlPin f F body sp ws pl E HZ Q) := by
  refine ⟨fun pinsZ sZ σZ HZ Q IZ h => ?_⟩
  obtain ⟨hs, hc, hf, pin, hq⟩ := h
  refine wpAny_Call_Name_kw (thn ((pe_var (pos := p1) (i := i) hN hv hd hcd).run pinsZ sZ σZ HZ (fun v H1 => v = .ref f ∧ H1 = HZ) IZ ⟨.ref f, hs, rfl, rfl⟩) ?_)
  rintro u s1 ⟨v, H1, I1, r1, rfl, rfl⟩
  obtain rfl : u = Value.ref f := r1
  obtain ⟨pm, ctv, at_f⟩ := cloO_at I1.hok hf
  refine PySem.W.callWith_F0 (first := []) ⟨_, _, _, _, at_f⟩ ?_
  refine wpAny_call (codeAny_mono (L.pinned hr I1.env0 hf hc pin pc hq) fun r s' hr' => ?_)
  match r, hr' with
  | .error e, hr' => exact passes_call tk hW pinsZ σZ _ s1 e s' I1 hr'
  | .ok (.ret u), hr' => exact I1.after hr'
end
end Q
set_option Elab.async false
set_option linter.all false
set_option maxRecDepth 100000
set_option maxHeartbeats 4000000
/-! A list comprehension whose element leans on the frame around it. -/
namespace Q
open PySem PySem.Spec PyProof.Rows L2 LamX NdefX
section
variable {X : Cx}
/-- [elt for tg in iter]: the element may lean on the state that the block began with -/
theorem pe_lcI {elt tg iter : Expr} {scope : Scope} {own : List (Str × Nat)} {pos : Pos} {wi : TI} {g : TG} {te : TE} (calm : X.calm = true) (nodup : X.N.Nodup)
    (src : PI X tg iter wi) (blk : BlkOk X.N X.env.scope scope own)
    (tgt : ∀ (s : Shared) (H : Hp) (C : Addr) (cl : List (Str × Addr)) (fp : List Addr), PG (X.blk s H scope (compEnvC scope cl C X.env) fp) tg g)
    (el : ∀ (pins : List (Addr × Obj)) (σ : L2.St) (s : Shared) (H : Hp) (C : Addr) (cl : List (Str × Addr)) (fp : List Addr), Inv X pins σ H s → (∀ b ∈ fp, FpOk X pins H b) →
      PE (X.blk s H scope (compEnvC scope cl C X.env) fp) elt (fun σ' H' Q => wipe σ' (own.map (·.2)) = wipe σ (own.map (·.2)) ∧ te σ' H' Q))
    (fold : ∀ x, foldedSetIterable iter X.env x = pure x := by intro _; rfl) :
    PE X (.ListComp elt [⟨tg, iter, [], 0⟩] scope pos) (tLc wi g tYes te (own.map (·.2))) := by
  constructor
  intro pins s σ H Q I h
  rw [eval_ListComp]
  have closed : ∀ y ∈ scope.names, y.2 = .free → ∃ c, X.env.cells.lookup y.1 = some c := by
    intro y hy e
    rcases blk.free y hy e with z | z
    · exact I.ok.has _ (.inl z)
    · exact I.ok.has _ (.inr z)
  refine wpAny_comprehension_free (use := none) rfl fold (closure_ok closed) blk.kind (fun y hy e => ?_)
    (thn (src.run pins s σ H _ I h) ?_)
  · rw [blk.uniq y hy, e]
  intro xv sA hx
  refine thn hx ?_
  rintro itv sB ⟨it, fp, tn, J, HB, rfl, IB, T, tnB, fpB, rest⟩
  refine wpAny_newObj_type (newEnv_comp ?_) (by show 0 ≤ sizeLine; decide)
  -- the list, empty
  generalize eD : sB.heap.objs.size = D
  have freeD : HB D = none := IB.hok.fresh (Nat.le_of_eq eD)
  obtain ⟨W, ⟨m0, start⟩, turns⟩ := rest D freeD
  generalize eC : ({ sB with heap := sB.heap.push { cls := .type "list", data := .seq ([] : List Value).toArray } } : Shared) = sC
  have hC : sC.heap = sB.heap.push { cls := .type "list", data := .seq ([] : List Value).toArray } := by rw [← eC]
  have topD : sC.heap.get? D = some { cls := .type "list", data := .seq ([] : List Value).toArray } := by
    rw [hC, ← eD]
    exact Heap.get?_push_size _ rfl
  have IC : Inv X pins σ (upd HB D (.lst [])) sC := by
    subst eC
    exact IB.laid (t' := sB.toks) (fun _ _ e => Heap.get?_push_of_some _ e) (Nat.le_of_eq eD) ⟨Nat.zero_le _, [], 0, .nil, topD⟩
  have below : ∀ b ∈ fp, b < sB.heap.objs.size := by
    intro b hb
    obtain ⟨o, e, _⟩ := T.obj _ _ tnB b hb
    exact Heap.lt_size e
  have offD : ∀ b ∈ fp, b ≠ D := fun b hb => by
    rw [← eD]
    exact Nat.ne_of_lt (below b hb)
  have fpC : ∀ b ∈ fp, FpOk X pins (upd HB D (.lst [])) b := fun b hb => ⟨(upd_ne (offD b hb)).trans (fpB b hb).1, (fpB b hb).2⟩
  have fpC2 : ∀ b ∈ fp, FpOk X pins (upd HB D (.lst [])) b ∧ b < sC.heap.objs.size := by
    refine fun b hb => ⟨fpC b hb, ?_⟩
    rw [hC, Heap.size_push]
    exact Nat.lt_succ_of_lt (below b hb)
  have tnC : tn 0 sC.heap := T.keep _ _ _ tnB fun b _ o e => by
    rw [hC]
    exact Heap.get?_push_of_some _ e
  generalize eH : upd HB D (.lst []) = HC at IC fpC fpC2 start
  have ID := block_start IC blk nodup fpC2
  generalize eCl : cellsFrom (sC.heap.objs.size + 1) scope.names (cloFrom X.env.cells scope.names []) = cl at ID
  have pTgt := tgt sC HC sC.heap.objs.size cl fp
  have pEl := el pins σ sC HC sC.heap.objs.size cl fp IC fpC
  show codeAny _ _ (.compStart (.ListComp elt [⟨tg, iter, [], 0⟩] scope pos) 0 (.ref it) (.ref D)
    (compEnvC scope cl sC.heap.objs.size X.env))
    (compPost (model X.prog X.w) X.A X.xe none _ (.ref D) sC.heap.objs.size) { sC with heap := pushCells (sC.heap.push { cls := .type "dict", data := .dict #[] }) scope.names }
  have eL : (compEnvC scope cl sC.heap.objs.size X.env).locals = sC.heap.objs.size := rfl
  generalize eE : compEnvC scope cl sC.heap.objs.size X.env = ce at ID pTgt pEl eL ⊢
  generalize eS : ({ sC with heap := pushCells (sC.heap.push { cls := .type "dict", data := .dict #[] }) scope.names } : Shared) = sD at ID ⊢
  have tnD : tn 0 sD.heap := T.keep _ _ _ tnC fun b _ o e => by
    rw [← eS]
    exact pushCells_keeps _ _ _ _ (Heap.get?_push_of_some _ e)
  have still : ∀ {σ' : L2.St} {H' : Hp} {s' : Shared}, Inv (X.blk sC HC scope ce fp) [] σ' H' s' → (∀ b ∈ fp, H' b = none) → ∀ b ∈ fp, FpOk (X.blk sC HC scope ce fp) [] H' b := by
    intro σ' H' s' I' n b hb
    have q := I'.ok.exf b hb
    exact ⟨n b hb, q.1, I'.ok.exfs b hb, .inl hb, fun x c e => q.2 x c e, fun p hp => nomatch (show p ∈ ([] : List (Addr × Obj)) from hp)⟩
  have loop : codeAny (model X.prog X.w) X.A (.compLoop (.ListComp elt [⟨tg, iter, [], 0⟩] scope pos) 0 (.ref it) (.ref D) ce)
      (compPost (model X.prog X.w) X.A X.xe none (EP X pins σ Q) (.ref D) sC.heap.objs.size) sD := by
    refine compLoop_any (fun m s' => ∃ i H', Inv (X.blk sC HC scope ce fp) [] (wipe σ (own.map (·.2))) H' s' ∧ tn i s'.heap ∧ (∀ b ∈ fp, H' b = none) ∧ W i m H')
      ?_ m0 ⟨0, HC, ID, tnD, fun b hb => (fpC b hb).1, start⟩
    rintro m s5 ⟨i, H5, I5, tn5, n5, w5⟩
    rcases turns i m H5 w5 with ⟨stop, fin⟩ | ⟨go, Nx, next, step⟩
    · refine thnF (T.done (X.blk sC HC scope ce fp) rfl rfl rfl calm i [] s5 _ H5 (fun _ _ => False) I5 (still I5 n5) tn5 stop) ?_
      rintro r s6 ⟨rfl, I6⟩
      have back : Inv X pins σ H5 s6 := IC.call' (ch := fp) I6.os I6.base I6.hok I6.bare fun b hb => by
        obtain ⟨_, a1, _, a3, a4, a5⟩ := fpC b hb
        exact ⟨a3, a1, a4, a5⟩
      have none5 : H5 sC.heap.objs.size = none := by
        rw [← eL]
        exact I6.free
      obtain ⟨mp, ns, _⟩ := I6.loc
      have ns : s6.heap.Ns ce.locals mp := ns
      rw [eL] at ns
      obtain ⟨f0, f1, f2, f3, f4, f5⟩ := IC.fpOk (H' := H5) (Nat.le_refl _) none5
      exact ⟨mp, ns, fun h7 sb => ⟨.ref D, H5, back.turned (t' := s6.toks) (fun b o hb e => (sb.2 b hb).trans e) f0 f1 f3 f4 f5, rfl, fin⟩⟩
    · refine thnF (T.item (X.blk sC HC scope ce fp) rfl rfl rfl calm i [] s5 _ H5 (fun _ _ => False) I5 (still I5 n5) tn5 go) ?_
      rintro r s6 ⟨u, rfl, more⟩
      refine thnF more ?_
      rintro _ s7 ⟨x, H7, I7, r7, y7, tn7, n7⟩
      have J7 := I7.pinned (still I7 n7) (T.obj _ _ tn7)
      refine thnF (pTgt.run _ s7 _ H7 x u _ J7 r7 (step x H7 y7)) ?_
      rintro _ s8 ⟨σ8, H8, I8, keepW, q8⟩
      refine thnF ((pts_nil (X := X.blk sC HC scope ce fp)).run _ s8 σ8 H8 _ I8 q8) ?_
      rintro b s9 ⟨H9, I9, q9⟩
      have close : ∀ {s' : Shared} {H' : Hp}, Inv (X.blk sC HC scope ce fp) ([] ++ pinsAt fp s7.heap) σ8 H' s' → Nx H' →
          ∃ m', m' < m ∧ ∃ i H', Inv (X.blk sC HC scope ce fp) [] (wipe σ (own.map (·.2))) H' s' ∧ tn i s'.heap ∧ (∀ b ∈ fp, H' b = none) ∧ W i m' H' := by
        intro s' H' I' nx
        obtain ⟨m', lt, w'⟩ := next H' nx
        have fixed : ∀ b ∈ fp, ∀ o, s7.heap.get? b = some o → s'.heap.get? b = some o ∧ H' b = none := by
          intro b hb o e
          have z := I'.pin (b, o) (List.mem_append_right _ (List.mem_append_right _ (mem_pinsAt hb e)))
          exact ⟨z.1, z.2.1⟩
        refine ⟨m', lt, i + 1, H', (I'.unpinned (pins := [])).weak ?_ ?_, T.keep _ _ _ tn7 fun b hb o e => (fixed b hb o e).1, ?_, w'⟩
        · rw [← keepW, wipe_length]
        · intro j v e
          rw [← keepW] at e
          exact (wipe_some e).1
        · intro b hb
          obtain ⟨o, e, _⟩ := T.obj _ _ tn7 b hb
          exact (fixed b hb o e).2
      match b, q9 with
      | false, q9 => exact close I9 q9
      | true, q9 =>
        refine thnF (pEl.run _ s9 σ8 H9 _ I9 ⟨keepW, q9⟩) ?_
        rintro z s10 ⟨yv, H10, I10, r10, acc, atD, few, nx⟩
        exact app_ok (X := X.blk sC HC scope ce fp) I10 atD few r10 fun s11 I11 => close I11 nx
  exact codeAny_compStart_list loop (T.self X.A 0 _ _ _ tnD loop)
end
end Q
set_option Elab.async false
set_option linter.all false
set_option maxRecDepth 100000
set_option maxHeartbeats 4000000
/-! A def called in a comprehension's block while the cells of the frame around it are pinned. -/
namespace Q
open PySem PySem.Spec PyProof.Rows L2 LamX NdefX
theorem wipe_slot {σ σ' : L2.St} : ∀ {vs : List Nat}, wipe σ' vs = wipe σ vs → ∀ {j : Nat}, j ∉ vs → σ'[j]? = σ[j]? := by
  have out : ∀ (τ : L2.St) (vs : List Nat) (j : Nat), j ∉ vs → (wipe τ vs)[j]? = τ[j]? := by
    intro τ vs
    induction vs with
    | nil => exact fun _ _ => rfl
    | cons v vs ih =>
      intro j hj
      rw [List.mem_cons, not_or] at hj
      unfold wipe
      rw [List.getElem?_set_ne (fun z => hj.1 z.symm)]
      exact ih j hj.2
  intro vs e j hj
  rw [← out σ' vs j hj, ← out σ vs j hj, e]
/-- f(..) while the cells cl of the names at js are pinned -/
def tPin (cl : List (Str × Addr)) (fr : List Str) (js : List Nat) (sp : Sp) (t : TA) : TE := fun σ H Q =>
  ∀ pl, PinCells cl fr (js.map (NdefX.slotAt σ)) pl → (∀ b ob, pl.lookup b = some ob → H b = none) → t σ H fun vs H1 => H1 = H ∧ sp (vs ++ []) (addP pl H) (fun v H2 => Pinned pl H2 ∧ Q v (delP pl H2)) E0
section
variable {X : Cx}
theorem pe_callPin {scope : Scope} {C : Addr} {ccl : List (Str × Addr)} {fp : List Addr} {vs : List Nat} {pins : List (Addr × Obj)} {σ : L2.St} {s : Shared} {H : Hp} {cl : List (Str × Addr)} {fr : List Str} {js : List Nat} {k : Nat} {f : Addr} {fd : FuncData} {ps : List Str} {sp : Sp}
    {x : Str} {p pos : Pos} {e : Expr} {es : List Expr} {t : TA} (I : Inv X pins σ H s) (hfp : ∀ b ∈ fp, FpOk X pins H b) (cp : X.Ok → Caps X cl fr js) (made : ∀ y c, cl.lookup y = some c → X.fn y = true) (hj : ∀ j ∈ js, j ∉ vs)
    (F : FnG X.prog X.w X.K X.mg X.base CX0 k f fd ps sp) (hgd : X.A.guards = some []) (hr : Room k X.A) (hg : Gl (X.blk s H scope (compEnvC scope ccl C X.env) fp) x) (hm : X.mg x = some (.ref f))
    (hk : PySem.W.keepIn X.K (.ref f) = true) (hb : Binds X.K fd ps []) (ha : PA (X.blk s H scope (compEnvC scope ccl C X.env) fp) (e :: es) t) (hdb : (x == ("__debug__" : Str)) = false := by decide)
    (he : starEach (e :: es) (compEnvC scope ccl C X.env) = (false, eval e (compEnvC scope ccl C X.env)) :: starEach es (compEnvC scope ccl C X.env) := by rfl) (hpl : (backTo pos (starEach es (compEnvC scope ccl C X.env))).any (·.1) = false := by rfl) :
    PE (X.blk s H scope (compEnvC scope ccl C X.env) fp) (.Call (.Name x p) (e :: es) [] pos) (fun σ' H' Q => wipe σ' vs = wipe σ vs ∧ tPin cl fr js sp t σ' H' Q) := by
  have caps := cp I.ok
  have C0 := cells_of I caps
  obtain ⟨pl, pc, free0, src⟩ := pins_of C0
  have beyond : ∀ b ob, pl.lookup b = some ob → b ∉ frs X.stack ∧ b ∉ fp ∧ X.base.get? b = none := by
    intro b ob eb
    obtain ⟨y, ey⟩ := src b ob eb
    have ecell := caps.sub y b ey
    have high := I.ok.cab y b (made y b ey) ecell
    refine ⟨fun hb => ?_, fun hb => (hfp b hb).2.2.2.2.1 y b ecell rfl, ?_⟩
    · rcases List.mem_cons.mp (I.stkSub b hb) with z | z
      · exact I.cne y b ecell z
      · obtain ⟨_, o, ho, _⟩ := I.ok.funs.mem z
        exact Nat.lt_irrefl _ (Nat.lt_of_lt_of_le (Heap.lt_size ho) high)
    · exact Heap.get?_none_of_le (Nat.le_trans I.ok.bsz high)
  have later : ∀ {pins' : List (Addr × Obj)} {σ' : L2.St} {H' : Hp} {s' : Shared}, Inv (X.blk s H scope (compEnvC scope ccl C X.env) fp) pins' σ' H' s' → Free pl H' s'.heap := by
    intro pins' σ' H' s' J b ob eb
    obtain ⟨n, g⟩ := free0 b ob eb
    obtain ⟨q1, q2, _⟩ := beyond b ob eb
    exact ⟨J.base.free b ob g n q2, J.base.keep b ob g n q1 q2⟩
  constructor
  intro pins' s' σ' H' Q J h
  obtain ⟨same, h⟩ := h
  have slots : js.map (NdefX.slotAt σ') = js.map (NdefX.slotAt σ) := by
    refine List.map_congr_left fun j mj => ?_
    unfold NdefX.slotAt
    rw [wipe_slot same (hj j mj)]
  have q := h pl (by rw [slots]; exact pc) fun b ob eb => (later J b ob eb).1
  refine wpAny_Call_Name_kw (ld_glob J hg hm ?_ hdb)
  refine PySem.W.callWith_K (h₀ := X.base) J.ok.mod.kin hk ?_ he hpl
  refine thn (ha.run pos pins' s' σ' H' _ J q) ?_
  rintro us s1 ⟨vs1, H1, J1, rv, rfl, hsp⟩
  refine ⟨J1.kIn, ?_⟩
  have f1 := later J1
  have e0 : Env0 X.prog X.w X.K X.mg X.base X.A X.stack s1 H1 := J1.env0
  have r2 : Vals (vs1 ++ []) (us ++ []) := rv.append .nil
  have hl : (us ++ []).length = ps.length := r2.length.symm.trans (F.len _ _ _ _ hsp)
  have run := F.go X.A X.stack s1 (addP pl H1) ⟨us, []⟩ (us ++ []) (vs1 ++ []) _ E0 hgd hr
    (env0_add e0 f1 fun b ob eb => ⟨(beyond b ob eb).2.2, (beyond b ob eb).1⟩) (hb s1 us J1.kIn hl) r2 hsp
  refine wpAny_call (codeAny_mono run ?_)
  intro r s2 hq
  match r, hq with
  | .error er, hq => exact False.elim hq
  | .ok (.ret u), ⟨v, H2, os, bare, un, ok, ru, pn, qq⟩ => exact J1.after ⟨v, delP pl H2, os, bare, Un.unpin f1 un ok pn, pn.hok ok, ru, qq⟩
end
end Q
set_option Elab.async false
set_option linter.all false
set_option maxRecDepth 100000
set_option maxHeartbeats 4000000
/-! Tables of distances: what the rounds of shortening do to them. -/
namespace D7
open PySem L2
abbrev Tab := List (Str × Int)
def look (f : Tab) (x : Str) : Option Int := (f.find? fun p => decide (p.1 = x)).map (·.2)
def put (f : Tab) (x : Str) (v : Int) : Tab := if (look f x).isSome then f.map fun p => if p.1 = x then (p.1, v) else p else f ++ [(x, v)]
theorem look_nil (x : Str) : look [] x = none := rfl
theorem look_cons (p : Str × Int) (f : Tab) (x : Str) : look (p :: f) x = if p.1 = x then some p.2 else look f x := by
  unfold look
  rw [List.find?_cons]
  by_cases e : p.1 = x
  · simp [e]
  · simp [e]
theorem look_none {f : Tab} {x : Str} : look f x = none ↔ x ∉ f.map (·.1) := by
  induction f with
  | nil => simp [look_nil]
  | cons p f ih =>
    rw [look_cons]
    by_cases e : p.1 = x
    · rw [if_pos e]
      simp [e]
    · rw [if_neg e, ih, List.map_cons, List.mem_cons, not_or]
      exact ⟨fun z => ⟨fun y => e y.symm, z⟩, fun z => z.2⟩
theorem look_mem {f : Tab} {x : Str} {v : Int} (h : look f x = some v) : (x, v) ∈ f := by
  induction f with
  | nil => cases h
  | cons p f ih =>
    rw [look_cons] at h
    by_cases e : p.1 = x
    · rw [if_pos e] at h
      cases h
      rw [← e]
      exact List.mem_cons_self
    · rw [if_neg e] at h
      exact List.mem_cons_of_mem _ (ih h)
theorem look_of {f : Tab} (nd : (f.map (·.1)).Nodup) {p : Str × Int} (h : p ∈ f) : look f p.1 = some p.2 := by
  induction f with
  | nil => cases h
  | cons q f ih =>
    rw [look_cons]
    rw [List.map_cons, List.nodup_cons] at nd
    rcases List.mem_cons.mp h with rfl | h
    · rw [if_pos rfl]
    · rw [if_neg (fun e => nd.1 (by rw [e]; exact List.mem_map_of_mem h)), ih nd.2 h]
theorem look_map (f : Tab) (x y : Str) (v : Int) : look (f.map fun p => if p.1 = x then (p.1, v) else p) y = if y = x then (look f x).map (fun _ => v) else look f y := by
  induction f with
  | nil =>
    rw [List.map_nil, look_nil, look_nil]
    split <;> rfl
  | cons p f ih =>
    rw [List.map_cons, look_cons, look_cons, look_cons, ih]
    by_cases e : p.1 = x
    · rw [if_pos e]
      by_cases e2 : y = x
      · subst e2
        rw [if_pos e, if_pos rfl, if_pos e]
        rfl
      · rw [if_neg (fun z => e2 (z.symm.trans e)), if_neg e2, if_neg e2, if_neg (fun z => e2 (z.symm.trans e))]
    · rw [if_neg e]
      by_cases e2 : y = x
      · subst e2
        rw [if_neg e, if_pos rfl, if_pos rfl]
        rw [if_neg e]
      · rw [if_neg e2, if_neg e2]
theorem look_snoc (f : Tab) (x y : Str) (v : Int) (h : look f x = none) : look (f ++ [(x, v)]) y = if y = x then some v else look f y := by
  induction f with
  | nil =>
    rw [List.nil_append, look_cons, look_nil]
    by_cases e : y = x
    · rw [if_pos e, if_pos e.symm]
    · rw [if_neg e, if_neg (fun z => e z.symm)]
  | cons p f ih =>
    rw [look_cons] at h
    have e0 : ¬ p.1 = x := fun z => by
      rw [if_pos z] at h
      cases h
    rw [if_neg e0] at h
    rw [List.cons_append, look_cons, look_cons, ih h]
    by_cases e : p.1 = y
    · rw [if_pos e, if_pos e]
      rw [if_neg (fun z => e0 (e.trans z))]
    · rw [if_neg e, if_neg e]
theorem look_put (f : Tab) (x y : Str) (v : Int) : look (put f x v) y = if y = x then some v else look f y := by
  unfold put
  cases h : look f x with
  | none => exact look_snoc f x y v h
  | some u =>
    show look (f.map _) y = _
    rw [look_map, h]
    rfl
theorem keys_put {f : Tab} {x : Str} {v : Int} : (put f x v).map (·.1) = if (look f x).isSome then f.map (·.1) else f.map (·.1) ++ [x] := by
  unfold put
  split
  · rw [List.map_map]
    refine List.map_congr_left fun p _ => ?_
    show (if p.1 = x then (p.1, v) else p).1 = p.1
    split <;> rfl
  · rw [List.map_append]
    rfl
theorem nd_put {f : Tab} {x : Str} {v : Int} (h : (f.map (·.1)).Nodup) : ((put f x v).map (·.1)).Nodup := by
  rw [keys_put]
  split
  · exact h
  · rename_i e
    have e2 : look f x = none := by
      cases z : look f x with
      | none => rfl
      | some u => rw [z] at e; exact absurd rfl e
    refine List.nodup_append.mpr ⟨h, List.nodup_cons.mpr ⟨List.not_mem_nil, List.nodup_nil⟩, fun a ha b hb z => ?_⟩
    rw [List.mem_singleton.mp hb] at z
    subst z
    exact look_none.mp e2 ha
/-- as a dict -/
def V (f : Tab) : List (Key × L2.V) := f.map fun p => (.inr p.1, .int p.2)
theorem val_V (f : Tab) (x : Str) : valV (V f) (.inr x) = (look f x).map L2.V.int := by
  induction f with
  | nil => rfl
  | cons p f ih =>
    show valV ((.inr p.1, .int p.2) :: V f) (.inr x) = _
    rw [look_cons]
    by_cases e : p.1 = x
    · rw [if_pos e, valV_pos (by rw [e])]
      rfl
    · rw [if_neg e, valV_neg (fun z => e (Sum.inr.inj z)), ih]
theorem putK_V (f : Tab) (x : Str) (v : Int) : putK (V f) (.inr x) (.int v) = V (put f x v) := by
  unfold putK put
  rw [valV_any, val_V]
  cases h : look f x with
  | none =>
    show (V f ++ [(.inr x, .int v)]) = V (f ++ [(x, v)])
    unfold V
    rw [List.map_append]
    rfl
  | some u =>
    show (V f).map _ = V (f.map _)
    unfold V
    rw [List.map_map, List.map_map]
    refine List.map_congr_left fun p _ => ?_
    show (if (Sum.inr p.1 : Key) = .inr x then ((.inr p.1 : Key), L2.V.int v) else (.inr p.1, .int p.2)) = (.inr (if p.1 = x then (p.1, v) else p).1, .int (if p.1 = x then (p.1, v) else p).2)
    by_cases e : p.1 = x
    · rw [if_pos (by rw [e]), if_pos e]
    · rw [if_neg (fun z => e (Sum.inr.inj z)), if_neg e]
theorem len_V (f : Tab) : (V f).length = f.length := List.length_map ..
theorem nodup_len {α : Type} [DecidableEq α] : ∀ {l g : List α}, l.Nodup → (∀ x ∈ l, x ∈ g) → l.length ≤ g.length
  | [], g, _, _ => Nat.zero_le _
  | x :: l, g, nd, h => by
    rw [List.nodup_cons] at nd
    have hx := h x List.mem_cons_self
    have ih := nodup_len (l := l) (g := g.erase x) nd.2 fun y hy => (List.mem_erase_of_ne (fun e => nd.1 (by rw [← e]; exact hy))).mpr (h y (List.mem_cons_of_mem _ hy))
    rw [List.length_erase_of_mem hx] at ih
    have := List.length_pos_of_mem hx
    rw [List.length_cons]
    omega
/-- equal as dicts -/
def same (f g : Tab) : Bool := f.length == g.length && f.all fun p => decide (look g p.1 = some p.2)
theorem same_look {f g : Tab} (nf : (f.map (·.1)).Nodup) (ng : (g.map (·.1)).Nodup) (h : same f g = true) (x : Str) : look f x = look g x := by
  unfold same at h
  rw [Bool.and_eq_true, beq_iff_eq, List.all_eq_true] at h
  obtain ⟨hl, ha⟩ := h
  cases e : look f x with
  | some v =>
    have := of_decide_eq_true (ha _ (look_mem e))
    exact this.symm
  | none =>
    cases e2 : look g x with
    | none => rfl
    | some v =>
      exfalso
      have sub : ∀ y ∈ f.map (·.1), y ∈ g.map (·.1) := fun y hy => by
        obtain ⟨p, hp, rfl⟩ := List.mem_map.mp hy
        have := of_decide_eq_true (ha p hp)
        exact List.mem_map_of_mem (look_mem this)
      have mx : x ∈ g.map (·.1) := List.mem_map_of_mem (f := (·.1)) (look_mem e2)
      have nx : x ∉ f.map (·.1) := look_none.mp e
      have nd : (x :: f.map (·.1)).Nodup := List.nodup_cons.mpr ⟨nx, nf⟩
      have := nodup_len nd (g := g.map (·.1)) fun y hy => by
        rcases List.mem_cons.mp hy with rfl | hy
        · exact mx
        · exact sub y hy
      rw [List.length_cons, List.length_map, List.length_map] at this
      omega
theorem same_refl {f : Tab} (nf : (f.map (·.1)).Nodup) : same f f = true := by
  unfold same
  rw [Bool.and_eq_true, List.all_eq_true]
  exact ⟨by simp, fun p hp => decide_eq_true (look_of nf hp)⟩
/-! ### rounds of shortening -/
abbrev LK := Str → Str → Int → Prop
structure RelOk (R : LK) (zs : List Str) (L : Int) : Prop where
  few : zs.length ≤ 8
  nn : 0 ≤ L
  ok : ∀ a n x, R a n x → a ∈ zs ∧ n ∈ zs ∧ 1 ≤ x ∧ x ≤ L
structure Fd (R : LK) (zs : List Str) (d : Str) (L : Int) (f : Tab) : Prop where
  nd : (f.map (·.1)).Nodup
  sub : ∀ x v, look f x = some v → x ∈ zs ∧ 0 ≤ v ∧ v ≤ ((f.length : Int) - 1) * L
  zero : look f d = some 0
  par : ∀ x v, look f x = some v → x = d ∨ ∃ n u y, R x n y ∧ look f n = some u ∧ u + y ≤ v
theorem Fd.len {R : LK} {zs : List Str} {d : Str} {L : Int} {f : Tab} (h : Fd R zs d L f) : f.length ≤ zs.length := by
  have := nodup_len h.nd (g := zs) fun x hx => by
    cases e : look f x with
    | none => exact absurd hx (look_none.mp e)
    | some v => exact (h.sub x v e).1
  rwa [List.length_map] at this
def sh (f : Tab) (a n : Str) (x : Int) : Tab := match look f n with
  | none => f
  | some u => match look f a with
    | none => put f a (u + x)
    | some v => if u + x < v then put f a (u + x) else f
def Cl (f : Tab) (a n : Str) (x : Int) : Prop := ∀ u, look f n = some u → ∃ v, look f a = some v ∧ v ≤ u + x
def cost (L : Int) (f : Tab) (z : Str) : Nat := match look f z with
  | some v => v.toNat
  | none => (8 * L + 1).toNat
def M (zs : List Str) (L : Int) (f : Tab) : Nat := (zs.map (cost L f)).sum
theorem M_congr {zs : List Str} {L : Int} {f g : Tab} (h : ∀ x, look f x = look g x) : M zs L f = M zs L g := by
  unfold M
  congr 1
  refine List.map_congr_left fun z _ => ?_
  unfold cost
  rw [h]
theorem sum_le {g g' : Str → Nat} : ∀ {zs : List Str}, (∀ z ∈ zs, g' z ≤ g z) → (zs.map g').sum ≤ (zs.map g).sum
  | [], _ => Nat.le_refl _
  | z :: zs, h => by
    have := sum_le (zs := zs) fun y hy => h y (List.mem_cons_of_mem _ hy)
    have := h z List.mem_cons_self
    simp only [List.map_cons, List.sum_cons]
    omega
theorem sum_lt {g g' : Str → Nat} {a : Str} : ∀ {zs : List Str}, (∀ z ∈ zs, g' z ≤ g z) → a ∈ zs → g' a < g a → (zs.map g').sum < (zs.map g).sum
  | [], _, m, _ => nomatch m
  | z :: zs, h, m, l => by
    have h1 := sum_le (zs := zs) fun y hy => h y (List.mem_cons_of_mem _ hy)
    have h2 := h z List.mem_cons_self
    simp only [List.map_cons, List.sum_cons]
    rcases List.mem_cons.mp m with e | m
    · subst e
      omega
    · have := sum_lt (zs := zs) (fun y hy => h y (List.mem_cons_of_mem _ hy)) m l
      omega
theorem len_put {f : Tab} {x : Str} {v : Int} : (put f x v).length = if (look f x).isSome then f.length else f.length + 1 := by
  have := congrArg List.length (keys_put (f := f) (x := x) (v := v))
  rw [List.length_map] at this
  rw [this]
  split <;> simp
section
variable {R : LK} {zs : List Str} {d : Str} {L : Int} {f : Tab} {a n : Str} {x : Int}
/-- a lower value is written -/
theorem Fd.lower (h : Fd R zs d L f) (ro : RelOk R zs L) (r : R a n x) {u : Int} (hn : look f n = some u) (lo : ∀ v, look f a = some v → u + x < v) :
    Fd R zs d L (put f a (u + x)) ∧ M zs L (put f a (u + x)) < M zs L f := by
  obtain ⟨ma, mn, x1, xL⟩ := ro.ok a n x r
  obtain ⟨_, u0, uL⟩ := h.sub n u hn
  have ad : a ≠ d := fun e => by
    subst e
    have := lo 0 h.zero
    omega
  have an : n ≠ a := fun e => by
    subst e
    have := lo u hn
    omega
  have few := ro.few
  have hl := h.len
  have Fd' : Fd R zs d L (put f a (u + x)) := by
    refine ⟨nd_put h.nd, fun y v e => ?_, by rw [look_put, if_neg (fun e => ad e.symm)]; exact h.zero, fun y v e => ?_⟩
    · rw [look_put] at e
      rw [len_put]
      have key : ((f.length : Int) - 1) * L ≤ (((f.length + 1 : Nat) : Int) - 1) * L := Int.mul_le_mul_of_nonneg_right (by omega) ro.nn
      have key2 : ((f.length : Int) - 1) * L + L = (((f.length + 1 : Nat) : Int) - 1) * L := by
        rw [show (((f.length + 1 : Nat) : Int) - 1) = ((f.length : Int) - 1) + 1 by omega, Int.add_mul, Int.one_mul]
      by_cases ey : y = a
      · rw [if_pos ey] at e
        cases e
        subst ey
        refine ⟨ma, by omega, ?_⟩
        split
        · rename_i c
          cases z : look f y with
          | none => rw [z] at c; cases c
          | some v =>
            have := lo v z
            have := (h.sub y v z).2.2
            omega
        · omega
      · rw [if_neg ey] at e
        obtain ⟨q1, q2, q3⟩ := h.sub y v e
        refine ⟨q1, q2, ?_⟩
        split
        · exact q3
        · exact Int.le_trans q3 key
    · rw [look_put] at e
      by_cases ey : y = a
      · rw [if_pos ey] at e
        cases e
        subst ey
        exact .inr ⟨n, u, x, r, by rw [look_put, if_neg an]; exact hn, Int.le_refl _⟩
      · rw [if_neg ey] at e
        rcases h.par y v e with z | ⟨m, w, t, q1, q2, q3⟩
        · exact .inl z
        · refine .inr ?_
          by_cases em : m = a
          · subst em
            refine ⟨m, u + x, t, q1, by rw [look_put, if_pos rfl], ?_⟩
            have := lo w q2
            omega
          · exact ⟨m, w, t, q1, by rw [look_put, if_neg em]; exact q2, q3⟩
  refine ⟨Fd', ?_⟩
  have bnd := (Fd'.sub a (u + x) (by rw [look_put, if_pos rfl])).2
  have hl' := Fd'.len
  have b7 : u + x ≤ 7 * L := Int.le_trans bnd.2 (Int.mul_le_mul_of_nonneg_right (by omega) ro.nn)
  have at_a : cost L (D7.put f a (u + x)) a < cost L f a := by
    unfold cost
    rw [look_put, if_pos rfl]
    cases z : look f a with
    | none =>
      show (u + x).toNat < (8 * L + 1).toNat
      omega
    | some v =>
      have := lo v z
      show (u + x).toNat < v.toNat
      omega
  refine sum_lt (fun z _ => ?_) ma at_a
  by_cases e : z = a
  · subst e
    exact Nat.le_of_lt at_a
  · unfold cost
    rw [look_put, if_neg e]
    exact Nat.le_refl _
theorem sh_step (h : Fd R zs d L f) (ro : RelOk R zs L) (r : R a n x) : (sh f a n x = f ∧ Cl f a n x) ∨ (Fd R zs d L (sh f a n x) ∧ M zs L (sh f a n x) < M zs L f) := by
  unfold sh Cl
  cases hn : look f n with
  | none => exact .inl ⟨rfl, fun u e => nomatch e⟩
  | some u =>
    dsimp only
    cases ha : look f a with
    | none => exact .inr (h.lower ro r hn fun v e => by rw [ha] at e; cases e)
    | some v =>
      dsimp only
      by_cases c : u + x < v
      · rw [if_pos c]
        exact .inr (h.lower ro r hn fun w e => by rw [ha] at e; cases e; exact c)
      · rw [if_neg c]
        refine .inl ⟨rfl, fun w e => ?_⟩
        cases e
        exact ⟨v, rfl, by omega⟩
/-- in a round over the links that began with f0: f now, the links that were looked at -/
structure Rd (R : LK) (zs : List Str) (d : Str) (L : Int) (f0 f : Tab) (seen : Str → Str → Int → Prop) : Prop where
  fd : Fd R zs d L f
  alt : (f = f0 ∧ ∀ a n x, seen a n x → Cl f0 a n x) ∨ M zs L f < M zs L f0
theorem Rd.step {f0 : Tab} {seen seen' : Str → Str → Int → Prop} (h : Rd R zs d L f0 f seen) (ro : RelOk R zs L) (r : R a n x) (hs : ∀ b m y, seen' b m y → seen b m y ∨ (b = a ∧ m = n ∧ y = x)) :
    Rd R zs d L f0 (sh f a n x) seen' := by
  rcases sh_step h.fd ro r with ⟨e, c⟩ | ⟨q, l⟩
  · rw [e]
    refine ⟨h.fd, ?_⟩
    rcases h.alt with ⟨rfl, al⟩ | l
    · refine .inl ⟨rfl, fun b m y z => ?_⟩
      rcases hs b m y z with z | ⟨rfl, rfl, rfl⟩
      · exact al b m y z
      · exact c
    · exact .inr l
  · refine ⟨q, .inr ?_⟩
    rcases h.alt with ⟨rfl, _⟩ | l2
    · exact l
    · exact Nat.lt_trans l l2
/-- the distances -/
structure Dist (R : LK) (zs : List Str) (d : Str) (f : Tab) : Prop where
  nd : (f.map (·.1)).Nodup
  sub : ∀ x v, look f x = some v → x ∈ zs ∧ 0 ≤ v
  zero : look f d = some 0
  par : ∀ x v, look f x = some v → x = d ∨ ∃ n u y, R x n y ∧ look f n = some u ∧ v = u + y
  cl : ∀ a n x, R a n x → Cl f a n x
theorem Fd.dist (h : Fd R zs d L f) (c : ∀ a n x, R a n x → Cl f a n x) : Dist R zs d f := by
  refine ⟨h.nd, fun x v e => ⟨(h.sub x v e).1, (h.sub x v e).2.1⟩, h.zero, fun x v e => ?_, c⟩
  rcases h.par x v e with z | ⟨n, u, y, q1, q2, q3⟩
  · exact .inl z
  · refine .inr ⟨n, u, y, q1, q2, ?_⟩
    obtain ⟨w, e2, l⟩ := c x n y q1 u q2
    rw [e] at e2
    cases e2
    omega
theorem Fd.start (ro : RelOk R zs L) (hd : d ∈ zs) : Fd R zs d L [(d, 0)] := by
  have z : look [(d, (0 : Int))] d = some 0 := by rw [look_cons, if_pos rfl]
  refine ⟨by simp, fun x v e => ?_, z, fun x v e => ?_⟩
  · rw [look_cons, look_nil] at e
    split at e
    · rename_i q
      cases e
      have q : d = x := q
      subst q
      exact ⟨hd, Int.le_refl _, by simp⟩
    · cases e
  · rw [look_cons, look_nil] at e
    split at e
    · rename_i q
      exact .inl q.symm
    · cases e
/-- how many are nearer -/
def rk (f : Tab) (v : Int) : Nat := (f.filter fun p => decide (p.2 < v)).length
theorem rk_lt {n : Str} {u v : Int} (h : look f n = some u) (l : u < v) : rk f u < rk f v := by
  have mem := look_mem h
  unfold rk
  clear h
  induction f with
  | nil => cases mem
  | cons p f ih =>
    have mono : (f.filter fun p => decide (p.2 < u)).length ≤ (f.filter fun p => decide (p.2 < v)).length := by
      clear ih mem
      induction f with
      | nil => exact Nat.le_refl _
      | cons q f ih =>
        rw [List.filter_cons, List.filter_cons]
        by_cases c1 : q.2 < u
        · rw [if_pos (decide_eq_true c1), if_pos (decide_eq_true (by omega))]
          simpa using ih
        · rw [if_neg (by simpa using c1)]
          split
          · rw [List.length_cons]
            omega
          · exact ih
    rw [List.filter_cons, List.filter_cons]
    rcases List.mem_cons.mp mem with e | m
    · subst e
      rw [if_neg (by simp), if_pos (decide_eq_true l), List.length_cons]
      omega
    · have := ih m
      by_cases c1 : p.2 < u
      · rw [if_pos (decide_eq_true c1), if_pos (decide_eq_true (by omega))]
        simpa using this
      · rw [if_neg (by simpa using c1)]
        split
        · rw [List.length_cons]
          omega
        · exact this
theorem rk_le (v : Int) : rk f v ≤ f.length := List.length_filter_le _ _
end
end D7
set_option Elab.async false
set_option linter.all false
set_option maxRecDepth 100000
set_option maxHeartbeats 4000000
/-! != of two tables. -/
namespace D7
open PySem PySem.Spec PyProof.Rows L2
/-- the entries of one, asked in the other -/
theorem tab_hits {A : Around} {s : Shared} {g : Tab} {vb : List (Key × Value)} (rb : KV (V g) vb) : ∀ {f : Tab} {va : List (Key × Value)}, KV (V f) va →
    PySem.W.KeqHits A s vb va (f.all fun p => decide (look g p.1 = some p.2))
  | [], va, ra => by
    cases ra
    exact .nil
  | p :: f, va, ra => by
    obtain ⟨k, n⟩ := p
    have ra' : KV (((.inr k : Key), L2.V.int n) :: V f) va := ra
    unfold KV at ra'
    cases ra' with
    | @cons _ q _ qs h t =>
      obtain ⟨h1, h2⟩ := h
      obtain ⟨k', v⟩ := q
      have h1 : (Sum.inr k : Key) = k' := h1
      subst h1
      obtain ⟨tv, e2⟩ : ∃ t, v = Value.int n t := h2
      subst e2
      have ih := tab_hits (A := A) (s := s) rb (f := f) t
      have rr : RelO (valV (V g) (.inr k)) (valueAt vb (.inr k)) := rb.val (.inr k)
      rw [val_V] at rr
      rw [List.all_cons]
      cases e : look g k with
      | none =>
        rw [e] at rr
        have n0 : valueAt vb (.inr k) = none := by
          cases z : valueAt vb (.inr k) with
          | none => rfl
          | some y =>
            rw [z] at rr
            exact rr.elim
        rw [show (decide ((none : Option Int) = some n) && f.all fun p => decide (look g p.1 = some p.2)) = false from by simp]
        exact .miss n0
      | some m =>
        rw [e] at rr
        obtain ⟨y, hy, ry⟩ := RelO.some_of rr
        obtain ⟨ty, e3⟩ : ∃ t, y = Value.int m t := ry
        subst e3
        have eq := SeqAt.EqAt.int_int (A := A) (s := s) n tv m ty
        rw [show decide ((some m : Option Int) = some n) = (n == m) from by
          by_cases z : n = m
          · subst z
            simp
          · rw [decide_eq_false (fun q => z (Option.some.inj q).symm), beq_false_of_ne z]]
        exact .hit hy eq ih
section
variable {X : Cx}
def rNeTab : R2 := fun x y H Q => ∃ a b f g, x = .ref a ∧ y = .ref b ∧ H a = some (.dK (V f)) ∧ H b = some (.dK (V g)) ∧ Q (.bl (!same f g)) H
theorem op_neTab (hu1 : X.A.units + 1 < cLine) : OpR X (compareOp .NotEq) rNeTab := by
  have hu : X.A.units < cLine := Nat.lt_of_succ_lt hu1
  intro pins s σ H x y v u Q I rx ry h
  obtain ⟨a, b, f, g, rfl, rfl, ea, eb, q⟩ := h
  obtain rfl : v = Value.ref a := rx
  obtain rfl : u = Value.ref b := ry
  obtain ⟨_, ya, va, ra, da⟩ := (show ObjOk X.prog X.w H s.heap a (.dK (V f)) from I.hok a _ ea)
  obtain ⟨_, yb, vb, rb, db⟩ := (show ObjOk X.prog X.w H s.heap b (.dK (V g)) from I.hok b _ eb)
  have la : va.length = f.length := by rw [← ra.length, len_V]
  have lb : vb.length = g.length := by rw [← rb.length, len_V]
  refine PySem.W.keq_ne (knd := mixKind X.prog X.w) (r := f.all fun p => decide (look g p.1 = some p.2)) ya yb da db hu (fun _ => tab_hits rb ra) (fin_bl I q ?_)
  unfold same
  rw [la, lb]
end
end D7
set_option Elab.async false
set_option linter.all false
set_option maxRecDepth 100000
set_option maxHeartbeats 4000000
/-! A list beside an empty one; data, by its kinds. -/
namespace Q
open PySem PySem.Spec PyProof.Rows L2 PySem.W
section
variable {K : PySem.W.Frag} {H : Hp} {x : V} {d : PyData}
theorem Dd.odd (h : Dd K H x d) : Odd K H x := by
  cases h with
  | non => exact .non
  | bl b => exact .bl b
  | int i => exact .int i
  | str z => exact .str z
  | lst h _ => exact .lst h
  | tup h _ => exact .tup h
  | dic h _ _ => exact .dic h
def strV : V → Bool
  | .str _ => true
  | _ => false
theorem Dd.kit (h : Dd K H x d) : ∃ t, TyX K H x t ∧ kitOne K t (.type "str") = some (strV x) := by
  cases h with
  | non => exact ⟨_, .base .non, rfl⟩
  | bl b => exact ⟨_, .base (.bl b), rfl⟩
  | int i => exact ⟨_, .base (.int i), rfl⟩
  | str z => exact ⟨_, .base (.str z), rfl⟩
  | lst h _ =>
    rcases h with (h | ⟨o, h⟩) | ⟨o, its, n, e, c, _⟩
    · exact ⟨_, .base (.lst h), rfl⟩
    · exact ⟨_, .base (.frz h), rfl⟩
    · exact ⟨_, .kList e c, rfl⟩
  | tup h _ =>
    rcases h with (h | ⟨o, h⟩) | ⟨o, its, n, e, c, _⟩
    · exact ⟨_, .base (.tup h), rfl⟩
    · exact ⟨_, .fTuple h, rfl⟩
    · exact ⟨_, .kTuple e c, rfl⟩
  | dic h _ _ => exact ⟨_, .base (.dK h), rfl⟩
end
section
variable {X : Cx}
def rEqNil (K : PySem.W.Frag) : R2 := fun x y H Q => ∃ a b xs, x = .ref a ∧ y = .ref b ∧ SqL K H a xs ∧ SqL K H b [] ∧ Q (.bl xs.isEmpty) H
theorem op_eqNil (hu1 : X.A.units + 1 < cLine) : OpR X (compareOp .Eq) (rEqNil X.K) := by
  intro pins s σ H x y v u Q I rx ry h
  have hu : X.A.units < cLine := Nat.lt_of_succ_lt hu1
  obtain ⟨a, b, xs, rfl, rfl, ha, hb, q⟩ := h
  cases rx
  cases ry
  obtain ⟨its, r1, pl1, _⟩ := I.list ha
  obtain ⟨its2, r2, pl2, _⟩ := I.list hb
  cases r2
  cases xs with
  | nil =>
    cases r1
    refine SeqAt.eq_listAt (e := fun _ => true) pl1.isList pl2.isList rfl hu (fun j h1 _ => nomatch h1) ⟨.bl _, H, I, rfl, ?_⟩
    exact q
  | cons z zs =>
    cases r1
    refine SeqAt.eq_list_lengthsAt pl1.isList pl2.isList (by simp) hu ⟨.bl _, H, I, rfl, ?_⟩
    exact q
end
end Q
set_option Elab.async false
set_option linter.all false
set_option maxRecDepth 100000
set_option maxHeartbeats 4000000
/-! A list that is not the empty one. -/
namespace Q
open PySem PySem.Spec PyProof.Rows L2 PySem.W
section
variable {X : Cx}
def rNeNil (K : PySem.W.Frag) : R2 := fun x y H Q => ∃ a b xs, x = .ref a ∧ y = .ref b ∧ SqL K H a xs ∧ SqL K H b [] ∧ Q (.bl (!xs.isEmpty)) H
theorem op_neNil (hu1 : X.A.units + 1 < cLine) : OpR X (compareOp .NotEq) (rNeNil X.K) := by
  intro pins s σ H x y v u Q I rx ry h
  have hu : X.A.units < cLine := Nat.lt_of_succ_lt hu1
  obtain ⟨a, b, xs, rfl, rfl, ha, hb, q⟩ := h
  cases rx
  cases ry
  obtain ⟨its, r1, pl1, _⟩ := I.list ha
  obtain ⟨its2, r2, pl2, _⟩ := I.list hb
  cases r2
  cases xs with
  | nil =>
    cases r1
    refine SeqAt.RcNeAt.lists (e := fun _ => true) pl1.isList pl2.isList rfl hu (fun j h1 _ => nomatch h1) X.prog X.w _ _ ⟨.bl _, H, I, rfl, ?_⟩
    exact q
  | cons z zs =>
    cases r1
    refine SeqAt.RcNeAt.lists_lengths pl1.isList pl2.isList (by simp) hu X.prog X.w _ _ ⟨.bl _, H, I, rfl, ?_⟩
    exact q
end
end Q
set_option Elab.async false
set_option linter.all false
set_option maxRecDepth 100000
set_option maxHeartbeats 4000000
/-! A tuple beside the empty one. -/
namespace Q
open PySem PySem.Spec PyProof.Rows L2 PySem.W
section
variable {X : Cx}
def rNeNilT (K : PySem.W.Frag) : R2 := fun x y H Q => ∃ a b xs, x = .ref a ∧ y = .ref b ∧ SqT K H a xs ∧ SqT K H b [] ∧ Q (.bl (!xs.isEmpty)) H
def rEqNilT (K : PySem.W.Frag) : R2 := fun x y H Q => ∃ a b xs, x = .ref a ∧ y = .ref b ∧ SqT K H a xs ∧ SqT K H b [] ∧ Q (.bl xs.isEmpty) H
theorem op_neNilT (hu1 : X.A.units + 1 < cLine) : OpR X (compareOp .NotEq) (rNeNilT X.K) := by
  intro pins s σ H x y v u Q I rx ry h
  have hu : X.A.units < cLine := Nat.lt_of_succ_lt hu1
  obtain ⟨a, b, xs, rfl, rfl, ha, hb, q⟩ := h
  cases rx
  cases ry
  obtain ⟨its, r1, pl1, _⟩ := I.tuple ha
  obtain ⟨its2, r2, pl2, _⟩ := I.tuple hb
  cases r2
  refine SeqAt.RcNeAt.tuples (e := fun _ => true) pl1 pl2 hu (fun j _ h2 => absurd h2 (Nat.not_lt_zero _)) X.prog X.w _ _ ⟨.bl _, H, I, rfl, ?_⟩
  cases xs with
  | nil =>
    cases r1
    exact q
  | cons z zs =>
    cases r1
    exact q
theorem op_eqNilT (hu1 : X.A.units + 1 < cLine) : OpR X (compareOp .Eq) (rEqNilT X.K) := by
  intro pins s σ H x y v u Q I rx ry h
  have hu : X.A.units < cLine := Nat.lt_of_succ_lt hu1
  obtain ⟨a, b, xs, rfl, rfl, ha, hb, q⟩ := h
  cases rx
  cases ry
  obtain ⟨its, r1, pl1, _⟩ := I.tuple ha
  obtain ⟨its2, r2, pl2, _⟩ := I.tuple hb
  cases r2
  refine SeqAt.RcAt.tuples (e := fun _ => true) pl1 pl2 hu (fun j _ h2 => absurd h2 (Nat.not_lt_zero _)) X.prog X.w _ _ ⟨.bl _, H, I, rfl, ?_⟩
  cases xs with
  | nil =>
    cases r1
    exact q
  | cons z zs =>
    cases r1
    exact q
end
end Q
set_option Elab.async false
set_option linter.all false
set_option maxRecDepth 100000
set_option maxHeartbeats 4000000
/-! t[::-1] of a tuple. -/
namespace Q
open PySem PySem.Spec PyProof.Rows L2 HT
theorem fm_all : ∀ l : List Value, ((List.range l.length).filterMap fun k => l[k]?) = l
  | [] => rfl
  | a :: l => by
    rw [List.length_cons, List.range_succ_eq_map, List.filterMap_cons]
    show a :: List.filterMap _ _ = a :: l
    rw [List.filterMap_map]
    exact congrArg (a :: ·) (fm_all l)
theorem fm_congr {α β : Type} {f g : α → Option β} : ∀ {l : List α}, (∀ x ∈ l, f x = g x) → l.filterMap f = l.filterMap g
  | [], _ => rfl
  | a :: l, h => by
    rw [List.filterMap_cons, List.filterMap_cons, h a List.mem_cons_self, fm_congr fun x hx => h x (List.mem_cons_of_mem _ hx)]
theorem pick_rev (xs : Array Value) : ((List.range xs.size).filterMap fun (m : Nat) => xs[(((xs.size : Int) - 1) + (m : Int) * (-1)).toNat]?).toArray = xs.toList.reverse.toArray := by
  congr 1
  have l : xs.toList.reverse.length = xs.size := by rw [List.length_reverse, Array.length_toList]
  have e := fm_all xs.toList.reverse
  rw [l] at e
  refine Eq.trans (fm_congr fun k hk => ?_) e
  have hk2 : k < xs.size := List.mem_range.mp hk
  rw [List.getElem?_reverse (by rw [Array.length_toList]; exact hk2), Array.getElem?_toList, Array.length_toList]
  congr 1
  omega
section
variable {prog : Program} {w : World} {A : Around} {E : Value → Shared → Prop} {s : Shared}
theorem part_at {v : Value} {o : Option Int} {Q : Option Int → Shared → Prop} (p : IsPart v o) (h : Q o s) : wpAny (model prog w) A (Builtin.Slice.slicePartIndex v) Q E s := by
  cases p with
  | none => exact slicePart_none h
  | int i t => exact slicePart_int h
theorem applied_rev {sl : Addr} {vl vu vs : Value} {n : Nat} {Q : Int × Int × Nat → Shared → Prop} (hs : s.heap.IsSliceOf sl vl vu vs) (pl : IsPart vl none) (pu : IsPart vu none) (ps : IsPart vs (some (-1)))
    (h : Q ((n : Int) - 1, -1, n) s) : wpAny (model prog w) A (Builtin.Slice.sliceApplied (.ref sl) (pure (n : Int))) Q E s := by
  obtain ⟨o, ho, _, hd⟩ := id hs
  unfold Builtin.Slice.sliceApplied Builtin.Slice.sliceFields
  refine wpAny_bind (wpAny_bind (wpAny_field ho hd (x := vl) rfl (wpAny_bind (wpAny_field ho hd (x := vu) rfl (wpAny_bind (wpAny_field ho hd (x := vs) rfl (wpAny_pure ?_)))))))
  refine wpAny_bind (part_at ps ?_)
  show wpAny _ _ (if ((-1 : Int) == 0) = true then _ else _) _ _ s
  rw [if_neg (by decide)]
  refine wpAny_bind (part_at pl (wpAny_bind (part_at pu (wpAny_bind (wpAny_pure ?_)))))
  have e1 : Builtin.Slice.sliceAdjust none none (-1) (n : Int) = ((n : Int) - 1, -1) := rfl
  have e2 : Builtin.Slice.slicePlaces ((n : Int) - 1) (-1) (-1) = n := by
    unfold Builtin.Slice.slicePlaces
    rw [if_neg (by decide)]
    split
    · rw [Int.neg_neg, Int.ediv_one]; omega
    · omega
  show wpAny _ _ (match Builtin.Slice.sliceAdjust none none (-1) (n : Int) with | (a, b) => pure (a, (-1 : Int), Builtin.Slice.slicePlaces a b (-1))) _ _ s
  rw [e1]
  show wpAny _ _ (pure ((n : Int) - 1, (-1 : Int), Builtin.Slice.slicePlaces ((n : Int) - 1) (-1) (-1))) _ _ s
  rw [e2]
  exact wpAny_pure h
theorem item_rev {t sl : Addr} {items : Array Value} {vl vu vs : Value} {Q : Value → Shared → Prop} (ht : IsTup s.heap t items) (hs : s.heap.IsSliceOf sl vl vu vs) (pl : IsPart vl none) (pu : IsPart vu none) (ps : IsPart vs (some (-1)))
    (h : Q (.ref s.heap.objs.size) { s with heap := s.heap.push { cls := .type "tuple", data := .seq items.toList.reverse.toArray } }) (hsz : items.size ≤ sizeLine) : wpAny (model prog w) A (getItem (.ref t) (.ref sl)) Q E s := by
  have fits : sizeOk (.seq items.toList.reverse.toArray) := by
    show items.toList.reverse.toArray.size ≤ sizeLine
    rw [List.size_toArray, List.length_reverse, Array.length_toList]; exact hsz
  obtain ⟨o, ho, hc, hd⟩ := id hs
  have ty : s.TypeIs (.ref sl) "slice" := ⟨o, ho, hc⟩
  unfold getItem
  try with_reducible refine wpAny_holding ?_
  first | (refine wpAny_bind (wpAny_pure ?_)) | skip
  refine wpAny_bind (wpAny_sequenceKey ht.typeIs (by decide) (wpAny_bind (wpAny_callSpecial?_slot (name := Str.ofString "__getitem__") ht.typeIs PyProof.Rows.slot_tuple_getitem (wpAny_call_entry PyProof.Rows.slot_tuple_getitem ht.typeIs entry_tuple_getitem ?_ (args_tuple_getitem _ _)))))
  show wpAny _ _ (Builtin.Tuple.tupleItemsOf (.ref t) >>= fun _ => _) _ _ s
  refine wpAny_bind (tupleItemsOf_ ht (wpAny_bind (wpAny_typeOf ty ?_))); rw [if_pos (by decide)]
  refine wpAny_bind (applied_rev (n := items.size) hs pl pu ps ?_)
  show wpAny _ _ (if (((items.size : Int) - 1 == 0) && ((-1 : Int) == 1) && (items.size == items.size)) = true then _ else _) _ _ s
  rw [if_neg (by simp), pick_rev]
  first
    | exact wpAny_bind (m := Builtin.Tuple.tupleExact _) (wpAny_newObj_type (wpAny_pure ⟨_, rfl, wpAny_pure h⟩) fits)
    | exact wpAny_bind (m := Builtin.Tuple.tupleExact _) (wpAny_newObj_type (wpAny_bind (wpAny_pure (wpAny_pure ⟨_, rfl, wpAny_pure h⟩))) fits)
    | exact wpAny_bind (wpAny_bind (m := Builtin.Tuple.tupleExact _) (wpAny_newObj_type (wpAny_pure (wpAny_pure ⟨_, rfl, wpAny_pure h⟩)) fits))
    | exact wpAny_bind (wpAny_bind (m := Builtin.Tuple.tupleExact _) (wpAny_newObj_type (wpAny_pure ⟨_, rfl, wpAny_pure h⟩) fits))
end
/-- t[::-1] -/
def tRevT (K : PySem.W.Frag) (te : TE) : TE := fun σ H Q => te σ H fun x H1 => ∃ a xs, x = .ref a ∧ SqT K H1 a xs ∧ ∀ p, H1 p = none → Q (.ref p) (upd H1 p (.tup xs.reverse))
section
variable {X : Cx}
theorem pe_revT {e : Expr} {te : TE} {k : Nat} {p1 p2 p3 pos : Pos} (he : PE X e te) : PE X (.Subscript e (.Slice none none (some (.UnaryOp .USub (.Constant (.int 1) k p1) p2)) p3) pos) (tRevT X.K te) := by
  refine ⟨fun pins s σ H Q I h => Subscript_ (thn (he.run pins s σ H _ I h) fun v s1 ⟨x, H1, I1, r1, a, xs, ex, hx, q⟩ => ?_)⟩
  subst ex
  cases r1
  have step : PO X (some (.UnaryOp .USub (.Constant (.int 1) k p1) p2)) (tPart (tUn (rU fun i => .int (-i)) (tC (.int 1)))) := po_some (pe_un un_neg pe_int)
  refine wpAny_Slice (thn (po_none.run pins s1 σ H1 (fun o H2 => o = none ∧ H2 = H1) I1 ⟨rfl, rfl⟩) fun vl s2 ⟨l, H2, I2, pl, el, e2⟩ => ?_); subst el e2
  refine thn (po_none.run pins s2 σ H2 (fun o H3 => o = none ∧ H3 = H2) I2 ⟨rfl, rfl⟩) fun vu s3 ⟨u, H3, I3, pu, eu, e3⟩ => ?_; subst eu e3
  refine thn (step.run pins s3 σ H3 (fun o H4 => o = some (-1) ∧ H4 = H3) I3 ⟨1, rfl, -1, rfl, rfl, rfl⟩) fun vs s4 ⟨o, H4, I4, ps, eo, e4⟩ => ?_; subst eo e4
  have I5 : Inv X pins σ H4 { s4 with heap := s4.heap.push { cls := .type "slice", data := .fields #[vl, vu, vs] } } := I4.kept (t' := s4.toks) fun b ob q => Heap.get?_push_of_some _ q
  obtain ⟨its, r, ht, hz⟩ := I5.tuple hx
  have len := r.length
  show wpAny (model X.prog X.w) X.A (subscriptTail e (.Slice none none (some (.UnaryOp .USub (.Constant (.int 1) k p1) p2)) p3) (.ref a) (.ref s4.heap.objs.size)) (EP X pins σ Q) X.xe { s4 with heap := s4.heap.push { cls := .type "slice", data := .fields #[vl, vu, vs] } }
  refine tail_any (ops := [.ref a, .ref s4.heap.objs.size]) ht.typeIs PyProof.Rows.slot_tuple_getitem.lookup ?_ (by with_unfolding_all rfl)
  refine item_rev ht (Heap.IsSliceOf.new _ vl vu vs) pl pu ps ?_ (by rw [List.size_toArray]; omega)
  refine ⟨.ref _, _, I5.laid (t' := s4.toks) (o := .tup xs.reverse) (fun b ob q => Heap.get?_push_of_some _ q) (Nat.le_refl _) ?_, rfl, q _ (I5.hok.fresh (Nat.le_refl _))⟩
  exact ⟨by rw [List.length_reverse]; exact hz, _, r.reverse, IsTup.new _ _⟩
end
end Q
set_option Elab.async false
set_option linter.all false
set_option maxRecDepth 100000
set_option maxHeartbeats 4000000
/-! == and != by an own __eq__, whatever it answers. -/
namespace Q
open PySem PySem.Spec PyProof.Rows L2
section
variable {prog : Program} {w : World} {A : Around} {E : Value → Shared → Prop} {s : Shared} {K : PySem.W.Frag} {x C f : Addr} {ox : Obj} {od : Option Obj} {b tb : Value}
theorem bound_ne {M : Model} {args : List Value} {Q : Option Value → Shared → Prop} (X : K.In s.heap) (I : PySem.W.InstAt s.heap x ox C od) (hs : PySem.W.findIn K (.ref C) "__ne__" = some (some (.builtin "object.__ne__")))
    (h : wpAny M A (call (.builtin "object.__ne__") (.ref x :: args)) (fun v => Q (some v)) E s) : wpAny M A (callSpecialIfBound? (.ref x) "__ne__" args) Q E s := by
  have last : wpAny M A (call (.builtin "object.__ne__") ([.ref x] ++ args) >>= fun v => pure (some v)) Q E s := wpAny_bind (wpAny_mono h (fun _ _ z => wpAny_pure z) fun _ _ z => z)
  unfold callSpecialIfBound? bindSpecialIfBound?
  refine wpAny_holding (wpAny_bind (wpAny_bind (wpAny_bind (I.type.here ((PySem.W.looks_findIn X hs).here (wpAny_bind (wpAny_askSetting (wpAny_ite ?_))))))))
  split
  · exact wpAny_bind (wpAny_of_eq (F.cmp_object.ne.bind _) (wpAny_pure (by exact last)))
  · exact wpAny_tryCatch (wpAny_bind (wpAny_of_eq (F.cmp_object.ne.bind _) (wpAny_pure (by exact last))))
theorem entry_ne (X : K.In s.heap) (I : PySem.W.InstAt s.heap x ox C od) (he : PySem.W.findIn K (.ref C) "__eq__" = some (some (.ref f))) (hf : PySem.W.isFn K (.ref f) = true) (hu : A.units < cLine) {Q : Fin → Shared → Prop}
    (h : wpAny (model prog w) A (call (.ref f) [.ref x, b]) (fun v s' => ∃ c, v = .bool c ∧ Q (.done (.ret (.bool (!c)))) s') E s) : wpAny (model prog w) A (Builtin.«object.__ne__» ⟨[.ref x, b], []⟩) Q E s := by
  obtain ⟨hp, g, d, t, os⟩ := s
  unfold Builtin.«object.__ne__»
  repeat (first
    | with_reducible refine wpAny_cRoomFor hu ?_
    | (refine wpAny_bind (m := callSpecialIfBound? (.ref x) (Str.ofString "__eq__") [b]) (PySem.W.ifBound_K X I he hf (wpAny_mono h (fun r s' hr => by
        obtain ⟨c, rfl, hq⟩ := hr
        repeat (first | exact hq | exact wpAny_pure hq | exact wpAny_truthy_bool hq | (refine wpAny_bind (m := truthy (.bool _)) (wpAny_truthy_bool ?_)) | wp_step)) fun _ _ e => e)))
    | wp_step)
theorem ne_own (hu : A.units + 1 < cLine) (X : K.In s.heap) (I : PySem.W.InstAt s.heap x ox C od) (hb : PySem.W.Looks (model prog w) s.heap (typeOf b) tb) (hn : PySem.W.notFirst K C tb = true)
    (he : PySem.W.findIn K (.ref C) "__eq__" = some (some (.ref f))) (hf : PySem.W.isFn K (.ref f) = true) (hne : PySem.W.findIn K (.ref C) "__ne__" = some (some (.builtin "object.__ne__"))) (hm : PySem.W.mroIn K C (.type "object") = some true) {Q : Value → Shared → Prop}
    (h : wpAny (model prog w) A.in1 (call (.ref f) [.ref x, b]) (fun v s' => ∃ c, v = .bool c ∧ Q (.bool (!c)) s') E s) : wpAny (model prog w) A (richCompare .NotEq (.ref x) b) Q E s := by
  have one : wpAny (model prog w) A (tryCompare (.ref x) "__ne__" b) (fun r s' => ∃ c, r = some (.bool c) ∧ Q (.bool c) s') E s := by
    unfold tryCompare
    refine wpAny_bind (bound_ne X I hne (wpAny_call (codeAny_call_builtin F.cmp_object.ne.plain F.cmpEntry_ne (PySem.W.check_slot F.cmpKind_ne F.cmpSplit_ne (I.type.andThen (PySem.W.looks_mroIn X hm)) (F.cmpArgs_ne _ _)
      (entry_ne X I he hf (Nat.lt_of_le_of_lt (Nat.le_refl _) hu) (wpAny_mono h (fun v s' hv => ?_) fun _ _ e => e))))))
    obtain ⟨c, rfl, hq⟩ := hv
    refine ⟨c, rfl, ?_⟩
    first | exact wpAny_pure ⟨_, rfl, hq⟩ | exact ⟨_, rfl, hq⟩ | exact wpAny_pure (wpAny_pure ⟨_, rfl, hq⟩)
  unfold richCompare
  simp only [oneThing_ref]
  refine wpAny_holding (wpAny_bind (wpAny_cRoomFor (Nat.lt_of_succ_lt hu) (wpAny_bind (I.type.here (wpAny_bind (hb.here ?_))))))
  have fin : ∀ {rest : Option Value → Sem Value}, (∀ v s', Q v s' → wpAny (model prog w) A (rest (some v)) Q E s') → wpAny (model prog w) A (tryCompare (.ref x) (cmpInfo .NotEq).2.1 b >>= rest) Q E s := fun k =>
    wpAny_bind (wpAny_mono one (fun r s' z => by obtain ⟨c, rfl, hq⟩ := z; exact k _ _ hq) fun _ _ e => e)
  split
  · rename_i q
    have e : PySem.W.subIn K tb (.ref C) = some false := by
      rcases Bool.or_eq_true_iff.mp hn with e | e
      · rw [beq_iff_eq.mp e] at q; simp at q
      · exact beq_iff_eq.mp e
    refine wpAny_bind ((PySem.W.looks_subIn X e).here ?_)
    simp only [Bool.false_eq_true, if_false]
    exact fin fun v s' hq => wpAny_pure hq
  · refine wpAny_bind (wpAny_pure ?_)
    simp only [Bool.false_eq_true, if_false]
    exact fin fun v s' hq => wpAny_pure hq
end
section
variable {X : Cx} {n : Nat}
/-- a call of an own def by its value, from somewhere below the running body -/
theorem own_call {f : Addr} {fd : FuncData} {ps : List Str} {sp : Sp} (F : FnOk X.prog X.w X.K X.mg X.base CX0 n f fd ps sp) (hb : Binds X.K fd ps []) {A : Around} (sb : Sub X n A) {pins : List (Addr × Obj)} {σ : L2.St} {H : Hp} {s : Shared}
    (I : Inv X pins σ H s) {xs : List V} {us : List Value} (r : Vals xs us) {Q : VK} (h : sp xs H Q fun _ _ _ => False) :
    wpAny (model X.prog X.w) A (call (.ref f) us) (fun u s' => ∃ v H', Inv X pins σ H' s' ∧ RelV v u ∧ Q v H') X.xe s := by
  have e0 : Env0 X.prog X.w X.K X.mg X.base A X.stack s H := by
    have e := I.env0
    exact ⟨sb.fr.trans e.frames, e.mod, e.bs, e.bsz, e.funs, e.frf, e.hok, e.bare⟩
  have len : us.length = ps.length := r.length.symm.trans (F.len _ _ _ _ h)
  refine wpAny_call (codeAny_mono (F.run A X.stack s H ⟨us, []⟩ us xs _ _ sb.room e0 (by simpa using hb s us I.kIn (by simpa using len)) r h) fun z s' hq => ?_)
  cases z with
  | error e => exact pass0 pins σ H s e s' I hq
  | ok fl =>
    cases fl with
    | ret u =>
      obtain ⟨v, H', I', rv, q⟩ := I.after hq
      exact ⟨v, H', I', rv, q⟩
    | next => exact False.elim hq
    | brk => exact False.elim hq
    | cont => exact False.elim hq
/-- what stands on the right: an instance of the same class, or a value of a built-in kind -/
def Beside (K : PySem.W.Frag) (C : Addr) (H : Hp) (y : V) : Prop := (∃ b dy gs, y = .ref b ∧ H b = some (.ins C dy gs)) ∨ ∃ t, TyX K H y t ∧ PySem.W.notFirst K C t = true
theorem Beside.look {C : Addr} {pins : List (Addr × Obj)} {σ : L2.St} {H : Hp} {s : Shared} {y : V} {v : Value} (I : Inv X pins σ H s) (ry : RelV y v) (h : Beside X.K C H y) :
    ∃ tb, PySem.W.Looks (model X.prog X.w) s.heap (typeOf v) tb ∧ PySem.W.notFirst X.K C tb = true := by
  rcases h with ⟨b, dy, gs, rfl, hb⟩ | ⟨t, ty, hn⟩
  · cases ry
    obtain ⟨mB, J, _⟩ := ins_get I.hok hb
    obtain ⟨od, J, _⟩ := J.look
    exact ⟨_, J.type, by simp [PySem.W.notFirst]⟩
  · obtain ⟨P, Z, p, _⟩ := kit_of I ry ty
    exact ⟨t, Z.ty _ _ I.kIn p, hn⟩
def rEqO (K : PySem.W.Frag) (C : Addr) (sp : Sp) (ne : Bool) : R2 := fun x y H Q => ∃ a dx fs, x = .ref a ∧ H a = some (.ins C dx fs) ∧ Beside K C H y ∧ sp [x, y] H (fun v H' => ∃ b, v = .bl b ∧ Q (.bl (if ne then !b else b)) H') fun _ _ _ => False
theorem op_eqO {C f : Addr} {fd : FuncData} {ps : List Str} {sp : Sp} (F : FnOk X.prog X.w X.K X.mg X.base CX0 n f fd ps sp) (hb : Binds X.K fd ps [])
    (hs : PySem.W.findIn X.K (.ref C) "__eq__" = some (some (.ref f))) (hf : PySem.W.isFn X.K (.ref f) = true) (hr : Room n X.A) : OpR X (compareOp .Eq) (rEqO X.K C sp false) := by
  intro pins s σ H x y u u' Q I rx ry h
  obtain ⟨a, dx, fs, rfl, ha, bs, q⟩ := h
  cases rx
  obtain ⟨tb, L, hn⟩ := bs.look I ry
  obtain ⟨mA, J, _⟩ := ins_get I.hok ha
  obtain ⟨od, J, _⟩ := J.look
  obtain ⟨m, hF⟩ := I.fr
  refine PySem.W.cmp_K (op := .Eq) (tb := tb) hr.units0 hF I.ok.mod.kin J L hn hs hf ?_
  refine wpAny_mono (own_call F hb ⟨hr, rfl⟩ I (show Vals [V.ref a, y] [Value.ref a, u'] from .cons rfl (.cons ry .nil)) q) (fun r s' z => ?_) fun _ _ e => e
  obtain ⟨z, H', I', rz, b, rfl, q⟩ := z
  cases rz
  exact ⟨.bl _, H', I', rfl, q⟩
theorem op_neO {C f : Addr} {fd : FuncData} {ps : List Str} {sp : Sp} (F : FnOk X.prog X.w X.K X.mg X.base CX0 n f fd ps sp) (hb : Binds X.K fd ps [])
    (hs : PySem.W.findIn X.K (.ref C) "__eq__" = some (some (.ref f))) (hf : PySem.W.isFn X.K (.ref f) = true) (hne : PySem.W.findIn X.K (.ref C) "__ne__" = some (some (.builtin "object.__ne__"))) (hm : PySem.W.mroIn X.K C (.type "object") = some true)
    (hr : Room (n + 1) X.A) : OpR X (compareOp .NotEq) (rEqO X.K C sp true) := by
  intro pins s σ H x y u u' Q I rx ry h
  obtain ⟨a, dx, fs, rfl, ha, bs, q⟩ := h
  cases rx
  obtain ⟨tb, L, hn⟩ := bs.look I ry
  obtain ⟨mA, J, _⟩ := ins_get I.hok ha
  obtain ⟨od, J, _⟩ := J.look
  have sb : Sub X (n + 1) X.A := ⟨hr, rfl⟩
  refine ne_own (tb := tb) (by have := hr.un; omega) I.kIn J L hn hs hf hne hm ?_
  refine wpAny_mono (own_call F hb sb.in1 I (show Vals [V.ref a, y] [Value.ref a, u'] from .cons rfl (.cons ry .nil)) q) (fun r s' z => ?_) fun _ _ e => e
  obtain ⟨z, H', I', rz, b, rfl, q⟩ := z
  cases rz
  exact ⟨_, rfl, .bl _, H', I', rfl, q⟩
end
end Q
set_option Elab.async false
set_option linter.all false
set_option maxRecDepth 100000
set_option maxHeartbeats 4000000
/-! list(zip(t, u)) of two tuples: a new list of new pairs -/
namespace Q.ZL
open PySem PySem.Spec PyProof.Rows L2 RZ
open PySem.Sem (wp)
section
variable {prog : Program} {w : World} {A : Around} {E : Value → Shared → Prop} {s : Shared}
variable {z TI TO T i1 i2 l1 l2 : Addr} {f : Bool} {oT : Obj} {k1 k2 : Nat} {xs ys : Array Value} {x y : Value}
/-- the next pair, while the one before is still kept -/
theorem held_item {R : Option Value → Shared → Prop} (D : ZipApart z TI TO i1 i2 l1 l2) (zz : IsZipHeld s.heap z TI TO T f) (tt : s.heap.get? T = some oT) (ti : IsPair s.heap TI (.ref i1) (.ref i2))
    (j1 : s.heap.IsTupleIter i1 l1 k1) (j2 : s.heap.IsTupleIter i2 l2 k2) (t1 : s.heap.IsTuple l1 xs) (t2 : s.heap.IsTuple l2 ys) (e1 : xs[k1]? = some x) (e2 : ys[k2]? = some y)
    (go : ∀ h', IsZipHeld h' z TI TO T true → h'.IsTupleIter i1 l1 (k1 + 1) → h'.IsTupleIter i2 l2 (k2 + 1) → IsPair h' s.heap.objs.size x y → h'.objs.size = s.heap.objs.size + 1 →
      (∀ c o, c ≠ z → c ≠ i1 → c ≠ i2 → s.heap.get? c = some o → h'.get? c = some o) → R (some (.ref s.heap.objs.size)) { s with heap := h' }) :
    wpAny (model prog w) A (pyNext (.ref z)) R E s := by
  have ty : s.TypeIs (.ref z) "zip" := ⟨_, zz, rfl⟩
  unfold pyNext
  refine wpAny_bind (wpAny_attempt (wpAny_callSpecial?_slot (name := Str.ofString "__next__") ty F.slot_zip_next (wpAny_call_entry F.slot_zip_next ty F.entry_zip_next ?_ (F.args_zip_next_1 _))))
  show wpAny _ _ (field (.ref z) 2 >>= _) _ _ s
  refine wpAny_bind (wpAny_field zz rfl (x := .bool false) rfl (show wpAny _ _ (field (.ref z) 3 >>= _) _ _ s from wpAny_bind (wpAny_field zz rfl (x := .ref TI) rfl (wpAny_bind (wpAny_seqItems ti rfl ?_)))))
  show wpAny _ _ (Builtin.SmallTypes.ownedTupleIsFree (.ref z) >>= _) _ _ s
  refine wpAny_bind (wpAny_tupleHeld_zip zz tt fun g1 za sa => ?_)
  simp only [Bool.false_eq_true, if_false]
  refine wpAny_bind ?_
  rw [← Array.forIn_toList]
  simp only [List.forIn_cons, List.forIn_nil]
  refine wpAny_bind (wpAny_bind (wpAny_holding (show wpAny _ _ (Builtin.SmallTypes.nextOf (.ref i1) >>= _) _ _ _ from wpAny_bind (nextOf_tuple_item (s := { s with heap := g1 }) (j1.extBut sa.extBut D.i1z) (t1.extBut sa.extBut D.l1z) e1 fun g2 ja sb => wpAny_pure (wpAny_pure ?_)))))
  refine wpAny_bind (wpAny_bind (wpAny_holding (show wpAny _ _ (Builtin.SmallTypes.nextOf (.ref i2) >>= _) _ _ _ from wpAny_bind (nextOf_tuple_item (s := { s with heap := g2 }) ((j2.extBut sa.extBut D.i2z).extBut sb.extBut D.i12.symm) ((t2.extBut sa.extBut D.l2z).extBut sb.extBut D.l2i1) e2 fun g3 jb sc => wpAny_pure (wpAny_pure (wpAny_pure ?_))))))
  have zs : g3.objs.size = s.heap.objs.size := by rw [sc.1, sb.1, sa.1]
  have zc : IsZipHeld g3 z TI TO T true := sc.extBut _ _ D.i2z.symm (sb.extBut _ _ D.i1z.symm za)
  have kp : ∀ c o, c ≠ z → c ≠ i1 → c ≠ i2 → s.heap.get? c = some o → g3.get? c = some o := fun c o c1 c2 c3 e => sc.extBut _ _ c3 (sb.extBut _ _ c2 (sa.extBut _ _ c1 e))
  have jc : g3.IsTupleIter i1 l1 (k1 + 1) := ja.extBut sc.extBut D.i12
  show wpAny _ _ (newTuple [x, y] >>= _) _ _ { s with heap := g3 }
  refine wpAny_bind (wpAny_newTuple (wpAny_pure ⟨_, rfl, wpAny_pure ?_⟩))
  have pp : IsPair (g3.push { cls := .type "tuple", data := .seq #[x, y] }) g3.objs.size x y := Heap.get?_push_size _ rfl
  have pz : (g3.push { cls := .type "tuple", data := .seq #[x, y] }).objs.size = g3.objs.size + 1 := Heap.size_push ..
  show R (some (.ref g3.objs.size)) _
  rw [zs] at pp pz ⊢
  exact go _ (Heap.get?_push_of_some _ zc) (jc.at fun o e => Heap.get?_push_of_some _ e) (jb.at fun o e => Heap.get?_push_of_some _ e) pp pz fun c o c1 c2 c3 e => Heap.get?_push_of_some _ (kp c o c1 c2 c3 e)
theorem held_end {R : Option Value → Shared → Prop} (hh : A.handled = none) (D : ZipApart z TI TO i1 i2 l1 l2) (zz : IsZipHeld s.heap z TI TO T f) (tt : s.heap.get? T = some oT) (ti : IsPair s.heap TI (.ref i1) (.ref i2))
    (j1 : s.heap.IsTupleIter i1 l1 k1) (t1 : s.heap.IsTuple l1 xs) (e1 : xs[k1]? = none)
    (go : ∀ h', (∀ c o, c ≠ z → c ≠ i1 → c ≠ i2 → s.heap.get? c = some o → h'.get? c = some o) → R none { s with heap := h' }) : wpAny (model prog w) A (pyNext (.ref z)) R E s := by
  have ty : s.TypeIs (.ref z) "zip" := ⟨_, zz, rfl⟩
  unfold pyNext
  refine wpAny_bind (wpAny_attempt (wpAny_callSpecial?_slot (name := Str.ofString "__next__") ty F.slot_zip_next (wpAny_call_entry F.slot_zip_next ty F.entry_zip_next ?_ (F.args_zip_next_1 _))))
  show wpAny _ _ (field (.ref z) 2 >>= _) _ _ s
  refine wpAny_bind (wpAny_field zz rfl (x := .bool false) rfl (show wpAny _ _ (field (.ref z) 3 >>= _) _ _ s from wpAny_bind (wpAny_field zz rfl (x := .ref TI) rfl (wpAny_bind (wpAny_seqItems ti rfl ?_)))))
  show wpAny _ _ (Builtin.SmallTypes.ownedTupleIsFree (.ref z) >>= _) _ _ s
  refine wpAny_bind (wpAny_tupleHeld_zip zz tt fun g1 za sa => ?_)
  simp only [Bool.false_eq_true, if_false]
  refine wpAny_bind ?_
  rw [← Array.forIn_toList]
  simp only [List.forIn_cons, List.forIn_nil]
  refine wpAny_bind (wpAny_bind (wpAny_holding (show wpAny _ _ (Builtin.SmallTypes.nextOf (.ref i1) >>= _) _ _ _ from wpAny_bind (nextOf_tuple_end (s := { s with heap := g1 }) hh (j1.extBut sa.extBut D.i1z) (t1.extBut sa.extBut D.l1z) e1 fun g2 e sb he => ?_))))
  obtain ⟨o, ho, hc⟩ := he
  exact wpAny_bind (wpAny_isInstance (T := "StopIteration") (b := true) ⟨o, ho, hc⟩ isSubtype_stop (wpAny_pure (go _ fun c o c1 c2 _ e => sb _ _ c2 (sa.extBut _ _ c1 e))))
/-- how the zip stands while it is emptied into the list S -/
structure St (h : Heap) (S z TI TO i1 i2 l1 l2 k : Addr) (xs ys : Array Value) : Prop where
  D : ZipApart z TI TO i1 i2 l1 l2
  at_ : (IsZip h z TI TO .none ∧ ∃ a b, IsPair h TO a b) ∨ ∃ T f oT, IsZipHeld h z TI TO T f ∧ h.get? T = some oT ∧ S < T
  ti : IsPair h TI (.ref i1) (.ref i2)
  j1 : h.IsTupleIter i1 l1 k
  j2 : h.IsTupleIter i2 l2 k
  t1 : h.IsTuple l1 xs
  t2 : h.IsTuple l2 ys
  low : z < S ∧ TI < S ∧ TO < S ∧ i1 < S ∧ i2 < S ∧ l1 < S ∧ l2 < S
theorem St.keep {h h' : Heap} {S k : Addr} (q : St h S z TI TO i1 i2 l1 l2 k xs ys) (kp : ∀ b o, b ≠ S → h.get? b = some o → h'.get? b = some o) : St h' S z TI TO i1 i2 l1 l2 k xs ys := by
  obtain ⟨D, at_, ti, j1, j2, t1, t2, lz, lt, lo, la, lb, lc, ld⟩ := q
  refine ⟨D, ?_, kp _ _ (Nat.ne_of_lt lt) ti, j1.at fun o e => kp _ o (Nat.ne_of_lt la) e, j2.at fun o e => kp _ o (Nat.ne_of_lt lb) e, ?_, ?_, lz, lt, lo, la, lb, lc, ld⟩
  · rcases at_ with ⟨e, a, b, e2⟩ | ⟨T, f, oT, e, e2, l⟩
    · exact .inl ⟨kp _ _ (Nat.ne_of_lt lz) e, a, b, kp _ _ (Nat.ne_of_lt lo) e2⟩
    · exact .inr ⟨T, f, oT, kp _ _ (Nat.ne_of_lt lz) e, kp _ _ (Nat.ne_of_gt l) e2, l⟩
  · obtain ⟨o, e, r⟩ := t1
    exact ⟨o, kp _ _ (Nat.ne_of_lt lc) e, r⟩
  · obtain ⟨o, e, r⟩ := t2
    exact ⟨o, kp _ _ (Nat.ne_of_lt ld) e, r⟩
theorem St.item {S k : Addr} {R : Option Value → Shared → Prop} (q : St s.heap S z TI TO i1 i2 l1 l2 k xs ys) (hS : S < s.heap.objs.size) (e1 : xs[k]? = some x) (e2 : ys[k]? = some y)
    (go : ∀ h', St h' S z TI TO i1 i2 l1 l2 (k + 1) xs ys → IsPair h' s.heap.objs.size x y → (∀ c o, S ≤ c → s.heap.get? c = some o → h'.get? c = some o) → (∀ c o, c ∉ [z, TO, i1, i2] → s.heap.get? c = some o → h'.get? c = some o) → R (some (.ref s.heap.objs.size)) { s with heap := h' }) :
    wpAny (model prog w) A (pyNext (.ref z)) R E s := by
  obtain ⟨D, at_, ti, j1, j2, t1, t2, lz, lt, lo, la, lb, lc, ld⟩ := q
  have tk : ∀ {h' : Heap} {l : Addr} {us : Array Value}, (∀ c o, c ∉ [z, TO, i1, i2] → s.heap.get? c = some o → h'.get? c = some o) → l ∉ [z, TO, i1, i2] → s.heap.IsTuple l us → h'.IsTuple l us := fun kp n t => by
    obtain ⟨o, e, r⟩ := t
    exact ⟨o, kp _ _ n e, r⟩
  have n1 : l1 ∉ [z, TO, i1, i2] := by
    simp only [List.mem_cons, List.not_mem_nil, or_false, not_or]
    exact ⟨D.l1z, D.l1TO, D.l1i1, D.l1i2⟩
  have n2 : l2 ∉ [z, TO, i1, i2] := by
    simp only [List.mem_cons, List.not_mem_nil, or_false, not_or]
    exact ⟨D.l2z, D.l2TO, D.l2i1, D.l2i2⟩
  have nt : TI ∉ [z, TO, i1, i2] := by
    simp only [List.mem_cons, List.not_mem_nil, or_false, not_or]
    exact ⟨D.TIz, D.TITO, D.TIi1, D.TIi2⟩
  have hi : ∀ c, S ≤ c → c ∉ [z, TO, i1, i2] := fun c l => by
    simp only [List.mem_cons, List.not_mem_nil, or_false, not_or]
    exact ⟨Nat.ne_of_gt (Nat.lt_of_lt_of_le lz l), Nat.ne_of_gt (Nat.lt_of_lt_of_le lo l), Nat.ne_of_gt (Nat.lt_of_lt_of_le la l), Nat.ne_of_gt (Nat.lt_of_lt_of_le lb l)⟩
  rcases at_ with ⟨zz, a, b, to⟩ | ⟨T, f, oT, zz, tt, l⟩
  · refine pyNext_zipT_item D zz ti to j1 j2 t1 t2 e1 e2 fun h' z' to' j1' j2' pp sz kp => ?_
    have kp' : ∀ c o, c ∉ [z, TO, i1, i2] → s.heap.get? c = some o → h'.get? c = some o := fun c o n e => by
      simp only [List.mem_cons, List.not_mem_nil, or_false, not_or] at n
      exact kp c o n.1 n.2.1 n.2.2.1 n.2.2.2 e
    exact go h' ⟨D, .inr ⟨s.heap.objs.size, false, _, z', pp, hS⟩, kp' _ _ nt ti, j1', j2', tk kp' n1 t1, tk kp' n2 t2, lz, lt, lo, la, lb, lc, ld⟩ pp (fun c o h e => kp' c o (hi c h) e) kp'
  · refine held_item D zz tt ti j1 j2 t1 t2 e1 e2 fun h' z' j1' j2' pp sz kp => ?_
    have kp' : ∀ c o, c ∉ [z, TO, i1, i2] → s.heap.get? c = some o → h'.get? c = some o := fun c o n e => by
      simp only [List.mem_cons, List.not_mem_nil, or_false, not_or] at n
      exact kp c o n.1 n.2.2.1 n.2.2.2 e
    exact go h' ⟨D, .inr ⟨T, true, oT, z', kp' _ _ (hi T (Nat.le_of_lt l)) tt, l⟩, kp' _ _ nt ti, j1', j2', tk kp' n1 t1, tk kp' n2 t2, lz, lt, lo, la, lb, lc, ld⟩ pp (fun c o h e => kp' c o (hi c h) e) kp'
theorem St.done {S k : Addr} {R : Option Value → Shared → Prop} (hh : A.handled = none) (q : St s.heap S z TI TO i1 i2 l1 l2 k xs ys) (e1 : xs[k]? = none)
    (go : ∀ h', (∀ c o, c ∉ [z, TO, i1, i2] → s.heap.get? c = some o → h'.get? c = some o) → R none { s with heap := h' }) : wpAny (model prog w) A (pyNext (.ref z)) R E s := by
  obtain ⟨D, at_, ti, j1, j2, t1, t2, _⟩ := q
  rcases at_ with ⟨zz, a, b, to⟩ | ⟨T, f, oT, zz, tt, l⟩
  · exact pyNext_zipT_end hh D zz ti to j1 j2 t1 t2 (.inl e1) fun h' kp => go h' fun c o n e => by
      simp only [List.mem_cons, List.not_mem_nil, or_false, not_or] at n
      exact kp c o n.1 n.2.1 n.2.2.1 n.2.2.2 e
  · exact held_end hh D zz tt ti j1 t1 e1 fun h' kp => go h' fun c o n e => by
      simp only [List.mem_cons, List.not_mem_nil, or_false, not_or] at n
      exact kp c o n.1 n.2.2.1 n.2.2.2 e
/-- the pairs that have been laid -/
structure Prs (h : Heap) (S : Addr) (xs ys : Array Value) (as : List Addr) : Prop where
  rise : as.Pairwise (· < ·)
  above : ∀ a ∈ as, S < a
  at_ : ∀ (j : Nat) (a : Addr), as[j]? = some a → ∃ x y, xs[j]? = some x ∧ ys[j]? = some y ∧ IsPair h a x y
theorem Prs.lt {h : Heap} {S : Addr} {as : List Addr} (p : Prs h S xs ys as) {a : Addr} (m : a ∈ as) : a < h.objs.size := by
  obtain ⟨j, hj⟩ := List.getElem?_of_mem m
  obtain ⟨_, _, _, _, e⟩ := p.at_ j a hj
  exact Heap.lt_size e
theorem empties {S : Addr} {R : Result → Shared → Prop} (hh : A.handled = none) (res : Value) (few : xs.size ≤ sizeLine) (same : ys.size = xs.size) (h0 : Heap)
    (fin : ∀ h' tk acc c as, (∀ b o, b ∉ [S, z, TO, i1, i2] → h0.get? b = some o → h'.get? b = some o) → h'.get? S = some { cls := .type "list", dict := none, data := .seq acc c, slots := #[] } → as.length = xs.size → Prs h' S xs ys as →
      acc.toList = as.map Value.ref → R (.ok (.ret res)) { s with heap := h', toks := tk }) :
    ∀ (n i : Nat) (h : Heap) (tk c : Nat) (acc : Array Value) (as : List Addr), i + n = xs.size → St h S z TI TO i1 i2 l1 l2 i xs ys → (∀ b o, b ∉ [S, z, TO, i1, i2] → h0.get? b = some o → h.get? b = some o) →
      h.get? S = some { cls := .type "list", dict := none, data := .seq acc c, slots := #[] } → acc.toList = as.map Value.ref → as.length = i → Prs h S xs ys as →
      codeAny (model prog w) A (.builtin "list.extend.loop" ⟨[.ref S, .ref z, res], []⟩) R { s with heap := h, toks := tk } := fun n => by
  induction n with
  | zero =>
    intro i h tk c acc as hi q kp hS ha hl hp
    refine codeAny_builtin PySem.F.entry_extend_loop ?_
    rw [Around.under_plainId PySem.F.plain_extend_loop _]
    refine show wpAny _ A.in1 (pyNext (.ref z) >>= _) _ _ _ from wpAny_bind (St.done (s := { s with heap := h, toks := tk }) (A := A.in1) hh q (Array.getElem?_eq_none (by omega)) fun h' k' => ?_)
    have ns : ∀ c, S ≤ c → c ∉ [z, TO, i1, i2] := fun c l => by
      obtain ⟨lz, _, lo, la, lb, _⟩ := q.low
      simp only [List.mem_cons, List.not_mem_nil, or_false, not_or]
      exact ⟨Nat.ne_of_gt (Nat.lt_of_lt_of_le lz l), Nat.ne_of_gt (Nat.lt_of_lt_of_le lo l), Nat.ne_of_gt (Nat.lt_of_lt_of_le la l), Nat.ne_of_gt (Nat.lt_of_lt_of_le lb l)⟩
    refine wpAny_pure (fin h' tk acc c as (fun b o n e => k' b o (fun m => n (List.mem_cons_of_mem _ m)) (kp b o n e)) (k' S _ (ns S (Nat.le_refl _)) hS) (by omega) ⟨hp.rise, hp.above, fun j a hj => ?_⟩ ha)
    obtain ⟨x, y, e1, e2, e3⟩ := hp.at_ j a hj
    exact ⟨x, y, e1, e2, k' a _ (ns a (Nat.le_of_lt (hp.above a (List.mem_of_getElem? hj)))) e3⟩
  | succ n ih =>
    intro i h tk c acc as hi q kp hS ha hl hp
    have i1' : i < xs.size := by omega
    have i2' : i < ys.size := by omega
    have sz : acc.size = i := by rw [← Array.length_toList, ha, List.length_map, hl]
    have Sl : S < h.objs.size := Heap.lt_size hS
    refine codeAny_builtin PySem.F.entry_extend_loop ?_
    rw [Around.under_plainId PySem.F.plain_extend_loop _]
    refine show wpAny _ A.in1 (pyNext (.ref z) >>= _) _ _ _ from wpAny_bind (St.item (s := { s with heap := h, toks := tk }) (A := A.in1) q Sl (Array.getElem?_eq_getElem i1') (Array.getElem?_eq_getElem i2') fun h' q' pp kS kn => ?_)
    dsimp only at pp kS kn ⊢
    have hS' := kS S _ (Nat.le_refl _) hS
    have up : ∀ b o, b ≠ S → h'.get? b = some o → (h'.update S (Obj.mapSeq (·.push (Value.ref h.objs.size)))).get? b = some o := fun b o nb e => by
      rw [Heap.get?_update_other _ _ (Ne.symm nb)]
      exact e
    refine show wpAny _ A.in1 (updateSeq S (·.push (Value.ref h.objs.size)) >>= _) _ _ _ from wpAny_bind (wpAny_updateSeq hS' rfl (wpAny_pure ⟨plainId_quiet PySem.F.plain_extend_loop _, ?_⟩) (by rw [sz]; omega) (by show (acc.push (Value.ref h.objs.size)).size ≤ sizeLine + 1; rw [Array.size_push, sz]; omega))
    refine ih (i + 1) _ tk _ (acc.push (Value.ref h.objs.size)) (as ++ [h.objs.size]) (by omega) (q'.keep up) (fun b o nb e => up b o (fun z => nb (by rw [z]; exact List.mem_cons_self)) (kn b o (fun m => nb (List.mem_cons_of_mem _ m)) (kp b o nb e))) (Heap.get?_update_self _ hS' rfl)
      (by rw [Array.toList_push, ha, List.map_append]; rfl) (by rw [List.length_append, hl]; rfl) ⟨?_, ?_, ?_⟩
    · refine List.pairwise_append.mpr ⟨hp.rise, List.pairwise_singleton _ _, fun a m b mb => ?_⟩
      rw [List.mem_singleton.mp mb]
      exact hp.lt m
    · intro a m
      rcases List.mem_append.mp m with m | m
      · exact hp.above a m
      · rw [List.mem_singleton.mp m]
        exact Sl
    · intro j a hj
      by_cases lj : j < as.length
      · rw [List.getElem?_append_left lj] at hj
        obtain ⟨x, y, e1, e2, e3⟩ := hp.at_ j a hj
        have ab := hp.above a (List.mem_of_getElem? hj)
        exact ⟨x, y, e1, e2, up a _ (Nat.ne_of_gt ab) (kS a _ (Nat.le_of_lt ab) e3)⟩
      · rw [List.getElem?_append_right (by omega)] at hj
        obtain ⟨e0, e⟩ := List.getElem?_eq_some_iff.mp hj
        have e0 : j - as.length < 1 := e0
        have jj : j = i := by omega
        subst jj
        have ea : h.objs.size = a := by
          rw [← e]
          simp
        subst ea
        exact ⟨_, _, Array.getElem?_eq_getElem i1', Array.getElem?_eq_getElem i2', up _ _ (Nat.ne_of_gt Sl) pp⟩
theorem no_len : typeLookup (.type "zip") "__len__" = pure none := am_miss_of_fast (by decide +kernel)
theorem no_hint : typeLookup (.type "zip") "__length_hint__" = pure none := am_miss_of_fast (by decide +kernel)
/-- list(z) of a zip that nothing was drawn from -/
theorem call_list {Q : Value → Shared → Prop} (hh : A.handled = none) (few : xs.size ≤ sizeLine) (same : ys.size = xs.size) (D : ZipApart z TI TO i1 i2 l1 l2) (zz : IsZip s.heap z TI TO .none) (ti : IsPair s.heap TI (.ref i1) (.ref i2)) (to : ∃ a b, IsPair s.heap TO a b)
    (j1 : s.heap.IsTupleIter i1 l1 0) (j2 : s.heap.IsTupleIter i2 l2 0) (t1 : s.heap.IsTuple l1 xs) (t2 : s.heap.IsTuple l2 ys)
    (go : ∀ h' tk acc c as, (∀ b o, b ∉ [z, TO, i1, i2] → s.heap.get? b = some o → h'.get? b = some o) → h'.get? s.heap.objs.size = some { cls := .type "list", dict := none, data := .seq acc c, slots := #[] } → as.length = xs.size → Prs h' s.heap.objs.size xs ys as →
      acc.toList = as.map Value.ref → Q (.ref s.heap.objs.size) { s with heap := h', toks := tk }) :
    wpAny (model prog w) A (call (.type "list") [.ref z]) Q E s := by
  have lz : z < s.heap.objs.size := Heap.lt_size zz
  have nz : s.heap.objs.size ≠ z := Nat.ne_of_gt lz
  refine callType_codes (Q₁ := fun obj s₁ => obj = .ref s.heap.objs.size ∧ s₁ = { s with heap := s.heap.push { cls := .type "list", data := .seq #[] } }) F.called_list (F.typeCall_list_1 _) F.entry_list_init (code_list_new _ ⟨rfl, rfl⟩) fun obj s₁ h₁ => ?_
  obtain ⟨rfl, rfl⟩ := h₁
  have S1 : (s.heap.push { cls := .type "list", data := .seq #[] }).get? s.heap.objs.size = some { cls := .type "list", data := .seq #[] } := Heap.get?_push_size _ rfl
  refine ⟨⟨_, S1, rfl⟩, F.args_list_init_2 _ _, ?_⟩
  show wpAny _ A.in1.in1 (do let old ← Builtin.List.listItems (.ref s.heap.objs.size); Builtin.List.listUpdate (.ref s.heap.objs.size) (fun _ => #[]); letGo old.toList.reverse; Builtin.List.listExtendWith (.ref s.heap.objs.size) (.ref z) .none) _ _ _
  refine wpAny_bind ?_
  unfold Builtin.List.listItems
  refine wpAny_bind (wpAny_seqItems S1 rfl (wpAny_pure (show wpAny _ A.in1.in1 (updateSeq s.heap.objs.size (fun _ => #[]) >>= fun _ => letGo (#[] : Array Value).toList.reverse >>= fun _ => Builtin.List.listExtendWith (.ref s.heap.objs.size) (.ref z) .none) _ _ _ from wpAny_bind (wpAny_updateSeq S1 rfl (wpAny_bind (wpAny_letGo ?_))))))
  have S2 := Heap.get?_update_self (Obj.mapSeq (fun _ => (#[] : Array Value))) S1 rfl
  have up : ∀ (h : Heap) (g : Obj → Obj), (∀ b o, s.heap.get? b = some o → h.get? b = some o) → ∀ b o, s.heap.get? b = some o → (h.update s.heap.objs.size g).get? b = some o := fun h g q b o e => by
    rw [Heap.get?_update_other _ _ (Ne.symm (Nat.ne_of_lt (Heap.lt_size e)))]
    exact q b o e
  have k1 : ∀ b o, s.heap.get? b = some o → (s.heap.push { cls := .type "list", data := .seq #[] }).get? b = some o := fun b o e => Heap.get?_push_of_some _ e
  have k2 := up _ (Obj.mapSeq (fun _ => (#[] : Array Value))) k1
  unfold Builtin.List.listExtendWith
  have z2 := k2 _ _ zz
  have ty : ∀ {h : Heap} {tk : Nat}, IsZip h z TI TO .none → ({ s with heap := h, toks := tk } : Shared).TypeIs (.ref z) "zip" := fun {h tk} e => ⟨_, e, rfl⟩
  refine wpAny_bind (wpAny_typeOf (ty z2) ?_)
  have b1 : Builtin.List.listSameRef (.ref s.heap.objs.size) (.ref z) = false := by simp [Builtin.List.listSameRef, nz]
  have b2 : (Value.type "zip" == Value.type "list") = false := by decide
  have b3 : (Value.type "zip" == Value.type "tuple") = false := by decide
  simp only [b1, b2, b3, Bool.or_false, Bool.false_eq_true, if_false]
  refine wpAny_bind (wpAny_pyIter_zip z2 (wpAny_bind (wpAny_holding ?_)))
  unfold Builtin.List.listLengthHint
  refine wpAny_bind (wpAny_specialOf (ty z2) no_len (show wpAny _ A.in1.in1 (specialOf (Value.ref z) (Str.ofString "__length_hint__") >>= _) _ _ _ from wpAny_bind (wpAny_specialOf (ty z2) no_hint (wpAny_pure ?_))))
  show wpAny _ A.in1.in1 (rule "list.extend.makes-room" >>= fun _ => Builtin.List.listTouch (.ref s.heap.objs.size) >>= fun _ => again (.builtin "list.extend.loop" ⟨[.ref s.heap.objs.size, .ref z, .none], []⟩)) _ _ _
  refine wpAny_bind (wpAny_rule (wpAny_bind (show wpAny _ A.in1.in1 (updateSeq s.heap.objs.size (·.push .none) >>= fun _ => updateSeq s.heap.objs.size (·.pop)) _ _ _ from wpAny_bind (wpAny_updateSeq S2 rfl ?_))))
  have S3 := Heap.get?_update_self (Obj.mapSeq (·.push Value.none)) S2 rfl
  refine wpAny_updateSeq (hz := by seq_fits) S3 rfl ?_
  have S4 := Heap.get?_update_self (Obj.mapSeq (·.pop)) S3 rfl
  have k4 := up _ (Obj.mapSeq (·.pop)) (up _ (Obj.mapSeq (·.push Value.none)) k2)
  obtain ⟨a, b, to⟩ := to
  have lt_ : ∀ {l : Addr} {us : Array Value}, s.heap.IsTuple l us → l < s.heap.objs.size := fun t => by
    obtain ⟨o, e, _⟩ := t
    exact Heap.lt_size e
  have li_ : ∀ {i l : Addr} {k : Nat}, s.heap.IsTupleIter i l k → i < s.heap.objs.size := fun t => by
    obtain ⟨o, e, _⟩ := t
    exact Heap.lt_size e
  refine wpAny_pure ⟨plainId_quiet F.plain_extend_loop _, empties (s := s) (A := A.in1) hh .none few same s.heap (fun h' tk acc c as kp hS hl hp ha => ⟨rfl, go h' tk acc c as (fun b o n e => kp b o (fun m => ?_) e) hS hl hp ha⟩) xs.size 0 _ _ _ #[] [] (Nat.zero_add _)
    ⟨D, .inl ⟨k4 _ _ zz, a, b, k4 _ _ to⟩, k4 _ _ ti, j1.at fun o e => k4 _ o e, j2.at fun o e => k4 _ o e, ?_, ?_, lz, Heap.lt_size ti, Heap.lt_size to, li_ j1, li_ j2, lt_ t1, lt_ t2⟩ (fun b o _ e => k4 b o e) S4 rfl rfl ⟨List.Pairwise.nil, (fun _ m => (nomatch m)), (fun j a hj => by simp at hj)⟩⟩
  · obtain ⟨o, e, r⟩ := t1
    exact ⟨o, k4 _ _ e, r⟩
  · obtain ⟨o, e, r⟩ := t2
    exact ⟨o, k4 _ _ e, r⟩
  · rcases List.mem_cons.mp m with m | m
    · exact absurd (Heap.lt_size e) (by rw [m]; exact Nat.lt_irrefl _)
    · exact n m
end
end Q.ZL
set_option Elab.async false
set_option linter.all false
set_option maxRecDepth 100000
set_option maxHeartbeats 4000000
/-! list(zip(t, u)), by hand -/
namespace Q
open PySem PySem.Spec PyProof.Rows L2 RZ
/-- pairs tracked at their addresses -/
def putP : Hp → List Addr → List (V × V) → Hp
  | H, a :: as, p :: ps => putP (upd H a (.tup [p.1, p.2])) as ps
  | H, _, _ => H
theorem putP_off {b : Addr} : ∀ (as : List Addr) (ps : List (V × V)) (H : Hp), b ∉ as → putP H as ps b = H b
  | [], _, _, _ => rfl
  | _ :: _, [], _, _ => rfl
  | a :: as, p :: ps, H, h => by
    show putP (upd H a (.tup [p.1, p.2])) as ps b = _
    rw [putP_off as ps _ fun m => h (List.mem_cons_of_mem _ m)]
    exact upd_ne fun e => h (e ▸ List.mem_cons_self)
theorem putP_at : ∀ (as : List Addr) (ps : List (V × V)) (H : Hp), as.Nodup → ∀ (j : Nat) (a : Addr) (p : V × V), as[j]? = some a → ps[j]? = some p → putP H as ps a = some (.tup [p.1, p.2])
  | [], _, _, _, j, a, p, h, _ => by simp at h
  | _ :: _, [], _, _, j, a, p, _, h => by simp at h
  | a :: as, p :: ps, H, nd, 0, b, q, h1, h2 => by
    have e1 : a = b := by simpa using h1
    have e2 : p = q := by simpa using h2
    subst e1
    subst e2
    show putP (upd H a (.tup [p.1, p.2])) as ps a = _
    rw [putP_off as ps _ (List.nodup_cons.mp nd).1, upd_same]
  | a :: as, p :: ps, H, nd, j + 1, b, q, h1, h2 => putP_at as ps _ (List.nodup_cons.mp nd).2 j b q (by simpa using h1) (by simpa using h2)
/-- what list(zip(t, u)) promises of two tuples of one length -/
def rListZip (K : PySem.W.Frag) : List V → Hp → VK → Prop := fun vs H Q => ∃ (a b : Addr) (xs ys : List V), vs = [.ref a, .ref b] ∧ SqT K H a xs ∧ SqT K H b ys ∧ ys.length = xs.length ∧
  ∀ (H' : Hp) (p : Addr) (ts : List Addr), (∀ b o, H b = some o → H' b = some o) → H p = none → (∀ t ∈ ts, H t = none) → p ∉ ts → ts.Nodup → H' p = some (.lst (ts.map V.ref)) → ts.length = xs.length →
    (∀ (j : Nat) (t : Addr), ts[j]? = some t → ∃ x y, xs[j]? = some x ∧ ys[j]? = some y ∧ H' t = some (.tup [x, y])) → Q (.ref p) H'
def tListZip (K : PySem.W.Frag) (ta : TA) : TE := fun σ H Q => ta σ H fun vs H1 => rListZip K vs H1 Q
section
variable {X : Cx} {e e2 : Expr} {ta : TA} {p p2 q pos : Pos}
theorem zip_laid {pins : List (Addr × Obj)} {σ : L2.St} {H : Hp} {s : Shared} {h' : Heap} {tk c : Nat} {S : Addr} {xs ys : List V} {us ws : List Value} {acc : Array Value} {as : List Addr} (I : Inv X pins σ H s) (few : xs.length ≤ sizeLine) (vx : Vals xs us) (vy : Vals ys ws) (same : ys.length = xs.length) (hS0 : s.heap.objs.size ≤ S)
    (hk : ∀ b o, s.heap.get? b = some o → h'.get? b = some o) (hS : h'.get? S = some { cls := .type "list", dict := none, data := .seq acc c, slots := #[] }) (hl : as.length = xs.length) (hp : ZL.Prs h' S us.toArray ws.toArray as) (ha : acc.toList = as.map Value.ref) :
    ∃ H' : Hp, (∀ b o, H b = some o → H' b = some o) ∧ H S = none ∧ (∀ t ∈ as, H t = none) ∧ S ∉ as ∧ as.Nodup ∧ H' S = some (.lst (as.map V.ref)) ∧ (∀ (j : Nat) (t : Addr), as[j]? = some t → ∃ x y, xs[j]? = some x ∧ ys[j]? = some y ∧ H' t = some (.tup [x, y])) ∧ Inv X pins σ H' { s with heap := h', toks := tk } := by
  have nS : S ∉ as := fun m => Nat.lt_irrefl _ (hp.above _ m)
  have nd : as.Nodup := hp.rise.imp fun l => Nat.ne_of_lt l
  have new : ∀ t ∈ as, H t = none := fun t m => I.hok.fresh (Nat.le_trans hS0 (Nat.le_of_lt (hp.above t m)))
  have newS : H S = none := I.hok.fresh hS0
  have H'e : ∃ H', H' = putP (upd H S (.lst (as.map V.ref))) as (xs.zip ys) := ⟨_, rfl⟩
  obtain ⟨H', eH⟩ := H'e
  have pr : ∀ (j : Nat) (t : Addr), as[j]? = some t → ∃ x y, xs[j]? = some x ∧ ys[j]? = some y ∧ H' t = some (.tup [x, y]) := fun j t hj => by
    have jl : j < xs.length := by
      rw [← hl]
      exact (List.getElem?_eq_some_iff.mp hj).1
    have jy : j < ys.length := by omega
    refine ⟨xs[j], ys[j], List.getElem?_eq_getElem jl, List.getElem?_eq_getElem jy, ?_⟩
    rw [eH]
    exact putP_at as (xs.zip ys) _ nd j t (xs[j], ys[j]) hj (by rw [List.getElem?_zip_eq_some]; exact ⟨List.getElem?_eq_getElem jl, List.getElem?_eq_getElem jy⟩)
  have off : ∀ b, b ∉ as → b ≠ S → H' b = H b := fun b h1 h2 => by
    rw [eH, putP_off as _ _ h1, upd_ne h2]
  have eS : H' S = some (.lst (as.map V.ref)) := by
    rw [eH, putP_off as _ _ nS, upd_same]
  have kp : ∀ b u, H b = some u → H' b = some u := fun b u e => by
    rw [off b (fun z => by rw [new b z] at e; cases e) (fun z => by rw [z, newS] at e; cases e)]
    exact e
  have low : ∀ b o, s.heap.get? b = some o → b ∉ as ∧ b ≠ S := fun b o e =>
    ⟨fun z => Nat.lt_irrefl _ (Nat.lt_of_lt_of_le (Heap.lt_size e) (Nat.le_trans hS0 (Nat.le_of_lt (hp.above b z)))), Nat.ne_of_lt (Nat.lt_of_lt_of_le (Heap.lt_size e) hS0)⟩
  refine ⟨H', kp, newS, new, nS, nd, eS, pr, ?_⟩
  refine I.call' (ch := []) rfl ⟨fun b o q _ _ _ => hk b o q, fun b o q _ _ _ => ⟨o.slots, hk b o q⟩, fun b o q n _ => ?_, fun b o q _ => ⟨o, hk b o q⟩, fun b xs q => kp b _ q, fun b o u q => kp b _ q, fun b ps q => ⟨#[], by rw [kp b _ q]; simp⟩⟩ (fun b u q => ?_) I.bare fun b z => by simp at z
  · obtain ⟨z1, z2⟩ := low b o q
    rw [off b z1 z2]
    exact n
  · by_cases hb : b ∈ as
    · obtain ⟨j, hj⟩ := List.getElem?_of_mem hb
      obtain ⟨x, y, e1, e2, e3⟩ := pr j b hj
      obtain ⟨u, v, f1, f2, f3⟩ := hp.at_ j b hj
      rw [e3] at q
      cases q
      obtain ⟨u', g1, r1⟩ := vx.get e1
      obtain ⟨v', g2, r2⟩ := vy.get e2
      have q1 : us[j]? = some u := by simpa using f1
      have q2 : ws[j]? = some v := by simpa using f2
      rw [q1] at g1
      rw [q2] at g2
      cases g1
      cases g2
      exact ⟨by show 2 ≤ sizeLine; decide, [u, v], .cons r1 (.cons r2 .nil), ⟨_, f3, rfl, _, rfl⟩⟩
    · by_cases hb2 : b = S
      · rw [hb2] at q ⊢
        rw [eS] at q
        cases q
        refine ⟨by rw [List.length_map]; omega, acc.toList, c, by rw [ha]; exact LiI.vals_refs as, ?_⟩
        rw [Array.toArray_toList]
        exact hS
      · rw [off b hb hb2] at q
        exact (I.hok b u q).stay (fun d v _ y => hk d v y) (fun d y => kp d _ y) fun d xs y => kp d _ y
/-- list(zip(e, e2)) of two tuples -/
theorem pe_listZip (hc : X.calm = true) (hg : Gl X "list") (hm : X.mg "list" = none) (hg2 : Gl X "zip") (hm2 : X.mg "zip" = none) (ha : PA X [e, e2] ta)
    (hs : starEach [.Call (.Name "zip" p2) [e, e2] [] q] X.env = (false, eval (.Call (.Name "zip" p2) [e, e2] [] q) X.env) :: starEach [] X.env := by rfl)
    (hs2 : starEach [e, e2] X.env = (false, eval e X.env) :: starEach [e2] X.env := by rfl) (hpl : (backTo q (starEach [e2] X.env)).any (·.1) = false := by rfl) :
    PE X (.Call (.Name "list" p) [.Call (.Name "zip" p2) [e, e2] [] q] [] pos) (tListZip X.K ta) := by
  refine ⟨fun pins s σ H R I h => ?_⟩
  refine Call_ (ld_blt I hg hm boot_list ?_)
  refine PyProof.Rows.callWith_type1 ?_ hs rfl
  rw [hs]
  show wpAny _ _ (spliced ((false, eval (.Call (.Name "zip" p2) [e, e2] [] q) X.env) :: backTo pos (starEach [] X.env))) _ _ s
  refine Calls.spliced_cons ?_
  refine Call_ (ld_blt I hg2 hm2 boot_zip (PyProof.Rows.callWith_type1 (thn (ha.run q pins s σ H _ I h) fun us s1 ⟨vs, H1, I1, r1, q1⟩ => ?_) hs2 hpl))
  obtain ⟨a, b, xs, ys, ex, hx, hy, same, go⟩ := q1
  subst ex
  cases r1 with
  | cons r rr =>
    cases rr with
    | cons r' rr =>
      cases rr
      cases r
      cases r'
      obtain ⟨its, rv, t1, few⟩ := I1.tuple hx
      obtain ⟨its2, rv2, t2, _⟩ := I1.tuple hy
      obtain ⟨o1, ho1, _⟩ := id t1
      obtain ⟨o2, ho2, _⟩ := id t2
      have l1 := rv.length
      have l2 := rv2.length
      refine call_zipT (show s1.heap.IsTuple a its.toArray from t1) (show s1.heap.IsTuple b its2.toArray from t2) fun h' zz ti to j1 j2 sz hk => ?_
      refine Calls.spliced_nil ?_
      refine ZL.call_list (I1.ok.hd hc) (show its.length ≤ sizeLine by omega) (show its2.length = its.length by omega) (PySem.W.ktu_apart s1.heap.objs.size a b (Heap.lt_size ho1) (Heap.lt_size ho2)) zz ti ⟨_, _, to⟩ j1 j2 ?_ ?_ fun h2 tk acc c as kp hS hl hp ea => ?_
      · obtain ⟨o, e, r⟩ := t1
        exact ⟨o, hk _ _ e, r⟩
      · obtain ⟨o, e, r⟩ := t2
        exact ⟨o, hk _ _ e, r⟩
      · have hk2 : ∀ b o, s1.heap.get? b = some o → h2.get? b = some o := fun b o e => kp b o (fun m => by
          have lt := Heap.lt_size e
          simp only [List.mem_cons, List.not_mem_nil, or_false] at m
          rcases m with m | m | m | m
          · rw [m] at lt
            exact Nat.lt_irrefl _ (Nat.lt_of_le_of_lt (Nat.le_add_right _ 4) lt)
          · rw [m] at lt
            exact Nat.lt_irrefl _ (Nat.lt_of_le_of_lt (Nat.le_add_right _ 3) lt)
          · rw [m] at lt
            exact Nat.lt_irrefl _ lt
          · rw [m] at lt
            exact Nat.lt_irrefl _ (Nat.lt_of_le_of_lt (Nat.le_add_right _ 1) lt)) (hk b o e)
        obtain ⟨H', k1, k2, k3, k4, k5, k6, k7, J⟩ := zip_laid (tk := tk) I1 few rv rv2 same (show s1.heap.objs.size ≤ h'.objs.size by rw [sz]; exact Nat.le_add_right _ 5) hk2 hS (by rw [hl, List.size_toArray, l1]) hp ea
        exact ⟨.ref _, H', J, rfl, go H' _ as k1 k2 k3 k4 k5 k6 (by rw [hl, List.size_toArray, l1]) k7⟩
end
end Q
set_option Elab.async false
set_option linter.all false
set_option maxRecDepth 100000
set_option maxHeartbeats 4000000
/-! zip of a tuple and the keys of a dict, either way round: a zip of any two parts that next reads from. -/
namespace RZ
open PySem PySem.Spec PyProof.Rows L2
/-- what a zip reads one side from: the iterator at it over the thing at l, the k-th item by get -/
structure ZPart (prog : Program) (w : World) (it l : Addr) (At : Nat → Heap → Prop) (Src : Heap → Prop) (get : Nat → Option Value) : Prop where
  at_ : ∀ {k : Nat} {h h' : Heap}, At k h → (∀ o, h.get? it = some o → h'.get? it = some o) → At k h'
  src : ∀ {h h' : Heap}, Src h → (∀ o, h.get? l = some o → h'.get? l = some o) → Src h'
  obj : ∀ {k : Nat} {h : Heap}, At k h → ∃ o, h.get? it = some o ∧ ∀ v, o.data ≠ .cell v
  item : ∀ {A : Around} {E : Value → Shared → Prop} {s : Shared} {k : Nat} {x : Value} {Q : Value → Shared → Prop}, At k s.heap → Src s.heap → get k = some x → (∀ h', At (k + 1) h' → Heap.SameBut it s.heap h' → Q x { s with heap := h' }) →
    wpAny (model prog w) A (Builtin.SmallTypes.nextOf (.ref it)) Q E s
  fin : ∀ {A : Around} {E : Value → Shared → Prop} {s : Shared} {k : Nat} {Q : Value → Shared → Prop}, A.handled = none → At k s.heap → Src s.heap → get k = none → (∀ h' e, Heap.ExtBut it s.heap h' → (∃ o, h'.get? e = some o ∧ o.cls = .type "StopIteration") → E (.ref e) { s with heap := h' }) →
    wpAny (model prog w) A (Builtin.SmallTypes.nextOf (.ref it)) Q E s
theorem zpart_tuple {prog : Program} {w : World} {it l : Addr} {items : Array Value} : ZPart prog w it l (fun k h => h.IsTupleIter it l k) (fun h => h.IsTuple l items) (fun k => items[k]?) where
  at_ := fun a k => a.at k
  src := fun ⟨o, e, r⟩ k => ⟨o, k o e, r⟩
  obj := fun ⟨o, e, _, d⟩ => ⟨o, e, fun v q => by rw [d] at q; cases q⟩
  item := fun a b c h => nextOf_tuple_item a b c h
  fin := fun calm0 a b c h => nextOf_tuple_end calm0 a b c h
section
variable {prog : Program} {w : World} {A : Around} {E : Value → Shared → Prop} {s : Shared} {it d : Addr} {i n ep : Nat} {od : Obj} {es : Array DictEntry} {Q : Value → Shared → Prop}
theorem nextOf_key_item {en : DictEntry} (itr : s.heap.IsKeyIter it d i n ep) (dAt : s.heap.get? d = some od) (dDat : od.data = .dict es ep)
    (many : es.size = n) (hx : es[i]? = some en) (kOut : ∀ h', h'.IsKeyIter it d (i + 1) n ep → Heap.SameBut it s.heap h' → Q en.key { s with heap := h' }) : wpAny (model prog w) A (Builtin.SmallTypes.nextOf (.ref it)) Q E s := by
  obtain ⟨o, itAt, hc, hd⟩ := id itr
  unfold Builtin.SmallTypes.nextOf
  refine wpAny_bind (wpAny_callSpecial?_slot (name := Str.ofString "__next__") itr.typeIs F.slot_dict_keyiterator_next
    (wpAny_call_entry F.slot_dict_keyiterator_next itr.typeIs F.entry_dict_keyiterator_next ?_ (F.args_dict_keyiterator_next_1 _)))
  refine wpAny_bind (wpAny_pure (wpAny_bind (wpAny_bind ?_)))
  first | refine wpAny_bind (wpAny_typeNameOfWhole_keyiter itr.typeIs (wpAny_pure ?_)) | refine wpAny_bind (wpAny_typeNameOf_keyiter itr.typeIs (wpAny_pure ?_))
  refine wpAny_bind (wpAny_fieldsOf itAt hd ?_)
  have plain : Builtin.Dict_items.ownsTuple "dict_keyiterator" = false := by decide
  simp only [plain, Bool.false_eq_true, if_false]
  show wpAny _ _ (if (Value.ref d == Value.none) = true then _ else _) _ _ s
  rw [if_neg (show ¬ ((Value.ref d == Value.none) = true) from Bool.false_ne_true)]
  refine wpAny_bind (wpAny_pure (wpAny_bind (wpAny_dictEntries dAt dDat ?_)))
  rw [if_neg (by rw [many]; simp)]
  refine wpAny_bind (wpAny_pure (wpAny_bind (wpAny_dictEpoch dAt dDat ?_)))
  rw [if_neg (by simp)]
  refine wpAny_pure ?_
  obtain ⟨lt, here⟩ := Array.getElem?_eq_some_iff.mp hx
  simp only [show ¬ ((i : Int) < 0) from by omega, if_false, Int.toNat_natCast, Array.getElem?_eq_getElem lt]
  refine wpAny_bind ?_
  first | refine wpAny_bind (wpAny_typeNameOfWhole_keyiter itr.typeIs (wpAny_pure ?_)) | refine wpAny_bind (wpAny_typeNameOf_keyiter itr.typeIs (wpAny_pure ?_))
  refine wpAny_bind (wpAny_isOneOf_keyiter itr.typeIs ?_)
  show wpAny _ _ (setField (.ref it) 1 (rawInt ((i : Int) + 1)) >>= _) _ _ s
  refine wpAny_bind (wpAny_setField itAt hd (by simp) ?_)
  have hit' : (s.heap.update it (Obj.mapFields (·.setIfInBounds 1 (rawInt ((i : Int) + 1))))).IsKeyIter it d (i + 1) n ep :=
    ⟨_, Heap.get?_update_self _ itAt (Obj.isFreed_of_fields (Obj.data_mapFields hd _)), (Obj.cls_mapFields ..).trans hc, by rw [Obj.data_mapFields hd]; simp [rawInt]⟩
  refine wpAny_bind (wpAny_holding (wpAny_bind (wpAny_isOneOf_keyiter (s := { s with heap := s.heap.update it (Obj.mapFields (·.setIfInBounds 1 (rawInt ((i : Int) + 1)))) }) hit'.typeIs ?_)))
  show wpAny _ _ (pure es[i].key) _ _ _
  rw [here]
  exact wpAny_pure (wpAny_pure ⟨_, rfl, wpAny_pure (kOut _ hit' (Heap.SameBut.update ..))⟩)
theorem nextOf_key_end (calm0 : A.handled = none) (itr : s.heap.IsKeyIter it d i n ep) (dAt : s.heap.get? d = some od) (dDat : od.data = .dict es ep)
    (many : es.size = n) (over : n ≤ i) (kErr : ∀ h' e, Heap.ExtBut it s.heap h' → (∃ o, h'.get? e = some o ∧ o.cls = .type "StopIteration") → E (.ref e) { s with heap := h' }) : wpAny (model prog w) A (Builtin.SmallTypes.nextOf (.ref it)) Q E s := by
  obtain ⟨o, itAt, hc, hd⟩ := id itr
  unfold Builtin.SmallTypes.nextOf
  refine wpAny_bind (wpAny_callSpecial?_slot (name := Str.ofString "__next__") itr.typeIs F.slot_dict_keyiterator_next
    (wpAny_call_entry F.slot_dict_keyiterator_next itr.typeIs F.entry_dict_keyiterator_next ?_ (F.args_dict_keyiterator_next_1 _)))
  refine wpAny_bind (wpAny_pure (wpAny_bind (wpAny_bind ?_)))
  first | refine wpAny_bind (wpAny_typeNameOfWhole_keyiter itr.typeIs (wpAny_pure ?_)) | refine wpAny_bind (wpAny_typeNameOf_keyiter itr.typeIs (wpAny_pure ?_))
  refine wpAny_bind (wpAny_fieldsOf itAt hd ?_)
  have plain : Builtin.Dict_items.ownsTuple "dict_keyiterator" = false := by decide
  simp only [plain, Bool.false_eq_true, if_false]
  show wpAny _ _ (if (Value.ref d == Value.none) = true then _ else _) _ _ s
  rw [if_neg (show ¬ ((Value.ref d == Value.none) = true) from Bool.false_ne_true)]
  refine wpAny_bind (wpAny_pure (wpAny_bind (wpAny_dictEntries dAt dDat ?_)))
  rw [if_neg (by rw [many]; simp)]
  refine wpAny_bind (wpAny_pure (wpAny_bind (wpAny_dictEpoch dAt dDat ?_)))
  rw [if_neg (by simp)]
  refine wpAny_pure ?_
  have past : es.size ≤ i := by rw [many]; exact over
  simp only [show ¬ ((i : Int) < 0) from by omega, if_false, Int.toNat_natCast, Array.getElem?_eq_none past]
  refine wpAny_bind ?_
  first | refine wpAny_bind (wpAny_typeNameOfWhole_keyiter itr.typeIs (wpAny_pure ?_)) | refine wpAny_bind (wpAny_typeNameOf_keyiter itr.typeIs (wpAny_pure ?_))
  show wpAny _ _ (setField (.ref it) 0 .none >>= _) _ _ s
  refine wpAny_bind (wpAny_setField itAt hd (by simp) ?_)
  show wpAny _ _ (newExc (.type "StopIteration") [] >>= _) _ _ _
  refine wpAny_bind ?_
  simp only [newExc, newTuple]
  refine wpAny_bind (wpAny_newObj_type ?_ (by size_fits))
  refine wpAny_bind (m := firstArgMember _ _) (wpAny_of_eq (a := Value.none) (by first | rfl | (simp only [firstArgMember]; rfl)) ?_)
  refine wpAny_newObj_type ?_ (by size_fits)
  simp only [raiseNew]
  refine wpAny_bind (wpAny_handled ?_)
  first | rw [show A.in1.handled = none from calm0] | rw [calm0]
  refine wpAny_bind (wpAny_pure (wpAny_throw ?_))
  exact kErr _ _ (((Heap.SameBut.update ..).extBut.push _).push _) ⟨_, Heap.get?_push_size _ rfl, rfl⟩
end
/-- the dict at d as it stands -/
def DictIs (h : Heap) (d : Addr) (es : Array DictEntry) (ep : Nat) : Prop := ∃ o, h.get? d = some o ∧ o.data = .dict es ep
theorem zpart_keys {prog : Program} {w : World} {it d : Addr} {es : Array DictEntry} {ep n : Nat} (hn : es.size = n) : ZPart prog w it d (fun k h => h.IsKeyIter it d k n ep) (fun h => DictIs h d es ep) (fun k => es[k]?.map (·.key)) where
  at_ := fun a k => a.at k
  src := fun ⟨o, e, r⟩ k => ⟨o, k o e, r⟩
  obj := fun ⟨o, e, _, d⟩ => ⟨o, e, fun v q => by rw [d] at q; cases q⟩
  item := fun {A E s k x Q} a ⟨o, e, r⟩ c h => by
    cases z : es[k]? with
    | none => rw [z] at c; cases c
    | some en =>
      rw [z] at c
      obtain rfl : en.key = x := Option.some.inj c
      exact nextOf_key_item a e r hn z h
  fin := fun {A E s k Q} calm0 a ⟨o, e, r⟩ c h => by
    refine nextOf_key_end calm0 a e r hn ?_ h
    rcases Nat.lt_or_ge k es.size with z | z
    · rw [Array.getElem?_eq_getElem z] at c
      cases c
    · omega
section
variable {prog : Program} {w : World} {A : Around} {E : Value → Shared → Prop} {s : Shared} {z TI TO i1 i2 l1 l2 : Addr} {k1 k2 : Nat} {At1 At2 : Nat → Heap → Prop} {S1 S2 : Heap → Prop} {g1 g2 : Nat → Option Value} {x y a b : Value}
theorem zipP_next_item {Q : Value → Shared → Prop} (p1 : ZPart prog w i1 l1 At1 S1 g1) (p2 : ZPart prog w i2 l2 At2 S2 g2) (D : ZipApart z TI TO i1 i2 l1 l2)
    (atZ : IsZip s.heap z TI TO .none) (atI : IsPair s.heap TI (.ref i1) (.ref i2)) (atO : IsPair s.heap TO a b) (h1 : At1 k1 s.heap) (h2 : At2 k2 s.heap) (hl1 : S1 s.heap) (hl2 : S2 s.heap) (hx : g1 k1 = some x) (hy : g2 k2 = some y)
    (kOut : ∀ h', IsZip h' z TI TO (rawInt s.heap.objs.size) → IsPair h' TO x y → At1 (k1 + 1) h' → At2 (k2 + 1) h' → IsPair h' s.heap.objs.size x y → h'.objs.size = s.heap.objs.size + 1 →
      (∀ d u, d ≠ z → d ≠ TO → d ≠ i1 → d ≠ i2 → s.heap.get? d = some u → h'.get? d = some u) → Q (.ref s.heap.objs.size) { s with heap := h' }) :
    wpAny (model prog w) A (Builtin.«zip.__next__» ⟨[.ref z], []⟩) (fun fin t => ∃ v, fin = .done (.ret v) ∧ Q v t) E s := by
  show wpAny _ _ (field (.ref z) 2 >>= _) _ _ _
  refine wpAny_bind (wpAny_field atZ rfl (x := .bool false) rfl ?_)
  show wpAny _ _ (field (.ref z) 3 >>= _) _ _ _
  refine wpAny_bind (wpAny_field atZ rfl (x := .ref TI) rfl (wpAny_bind (wpAny_seqItems atI rfl ?_)))
  show wpAny _ _ (Builtin.SmallTypes.ownedTupleIsFree (.ref z) >>= _) _ _ _
  refine wpAny_bind ?_
  unfold Builtin.SmallTypes.ownedTupleIsFree
  refine wpAny_bind (wpAny_field atZ rfl (x := .none) rfl (wpAny_pure ?_))
  simp only [if_true]
  refine wpAny_bind (wpAny_rule (wpAny_bind (wpAny_field atZ rfl (x := .ref TO) rfl (wpAny_bind (wpAny_setField_rec atZ (by simp) fun ha hza sa => ?_)))))
  replace hza : IsZip ha z TI TO .ellipsis := hza
  refine wpAny_bind ?_
  simp only [List.zipIdx_cons, List.zipIdx_nil, List.forIn_cons, List.forIn_nil]
  have ka : ∀ c, c ≠ z → ∀ o, s.heap.get? c = some o → ha.get? c = some o := fun c n o e => sa.extBut _ _ n e
  -- the first side
  refine wpAny_bind (wpAny_bind (wpAny_onRaise ?_))
  show wpAny _ _ (Builtin.SmallTypes.nextOf (.ref i1) >>= _) _ _ _
  refine wpAny_bind (p1.item (s := { s with heap := ha }) (p1.at_ h1 (ka _ D.i1z)) (p1.src hl1 (ka _ D.l1z)) hx fun hb b1 sb => wpAny_pure ?_)
  have kb : ∀ c, c ≠ z → c ≠ i1 → ∀ o, s.heap.get? c = some o → hb.get? c = some o := fun c n m o e => sb.extBut _ _ m (ka c n o e)
  have tob : IsPair hb TO a b := kb _ D.TOz D.TOi1 _ atO
  refine wpAny_bind (wpAny_seqItems tob rfl (wpAny_bind (wpAny_updateSeq_pair tob fun hc toc sc => ?_)))
  replace toc : IsPair hc TO x b := toc
  refine wpAny_bind (wpAny_letGo (wpAny_pure ?_))
  have kc : ∀ c, c ≠ z → c ≠ i1 → c ≠ TO → ∀ o, s.heap.get? c = some o → hc.get? c = some o := fun c n m q o e => sc.extBut _ _ q (kb c n m o e)
  -- the second side
  refine wpAny_bind (wpAny_bind (wpAny_onRaise ?_))
  show wpAny _ _ (Builtin.SmallTypes.nextOf (.ref i2) >>= _) _ _ _
  refine wpAny_bind (p2.item (s := { s with heap := hc }) (p2.at_ h2 (kc _ D.i2z D.i12.symm D.TOi2.symm)) (p2.src hl2 (kc _ D.l2z D.l2i1 D.l2TO)) hy fun hd d2 sd => wpAny_pure ?_)
  have tod : IsPair hd TO x b := sd.extBut _ _ D.TOi2 toc
  refine wpAny_bind (wpAny_seqItems tod rfl (wpAny_bind (wpAny_updateSeq_pair tod fun he toe se => ?_)))
  replace toe : IsPair he TO x y := toe
  refine wpAny_bind (wpAny_letGo (wpAny_pure (wpAny_pure ?_)))
  have ke : ∀ c o, c ≠ z → c ≠ TO → c ≠ i1 → c ≠ i2 → s.heap.get? c = some o → he.get? c = some o := fun c o n1 n2 n3 n4 e => se.extBut _ _ n2 (sd.extBut _ _ n4 (kc c n1 n3 n2 o e))
  have ze : IsZip he z TI TO .ellipsis := se.extBut _ _ D.TOz.symm (sd.extBut _ _ D.i2z.symm (sc.extBut _ _ D.TOz.symm (sb.extBut _ _ D.i1z.symm hza)))
  have sz : he.objs.size = s.heap.objs.size := by rw [se.1, sd.1, sc.1, sb.1, sa.1]
  have e1 : At1 (k1 + 1) he := p1.at_ b1 fun o e => se.extBut _ _ D.TOi1.symm (sd.extBut _ _ D.i12 (sc.extBut _ _ D.TOi1.symm e))
  have e2 : At2 (k2 + 1) he := p2.at_ d2 fun o e => se.extBut _ _ D.TOi2.symm e
  have zlt : z < he.objs.size := Heap.lt_size ze
  -- the pair is handed out
  refine wpAny_bind (wpAny_seqItems toe rfl (wpAny_bind (wpAny_newTuple ?_)))
  show wpAny _ _ (Builtin.SmallTypes.ownedTupleHandOut (.ref z) (.ref he.objs.size) >>= _) _ _ _
  refine wpAny_bind ?_
  unfold Builtin.SmallTypes.ownedTupleHandOut
  have zf : IsZip (he.push { cls := .type "tuple", data := .seq #[x, y] }) z TI TO .ellipsis := Heap.get?_push_of_some _ ze
  refine wpAny_bind (wpAny_setField_rec zf (by simp) fun gives zg sg => ?_)
  replace zg : IsZip gives z TI TO (rawInt he.objs.size) := zg
  refine wpAny_setField_rec zg (by simp) fun hk zk sk => ?_
  replace zk : IsZip hk z TI TO (rawInt he.objs.size) := zk
  have up : ∀ c o, c ≠ z → he.get? c = some o → hk.get? c = some o := fun c o n e => sk.extBut _ _ n (sg.extBut _ _ n (Heap.get?_push_of_some _ e))
  have new : IsPair hk he.objs.size x y := sk.extBut _ _ (Nat.ne_of_gt zlt) (sg.extBut _ _ (Nat.ne_of_gt zlt) (Heap.get?_push_size _ rfl))
  have sz2 : hk.objs.size = he.objs.size + 1 := by rw [sk.1, sg.1, Heap.size_push]
  rw [sz] at zk new sz2
  refine wpAny_pure ⟨_, rfl, ?_⟩
  show Q (.ref he.objs.size) _
  rw [sz]
  exact kOut hk zk (up _ _ D.TOz toe) (p1.at_ e1 fun o e => up _ o D.i1z e) (p2.at_ e2 fun o e => up _ o D.i2z e) new sz2 fun c o n1 n2 n3 n4 e => up c o n1 (ke c o n1 n2 n3 n4 e)
theorem zipP_next_end {Q : Fin → Shared → Prop} (calm0 : A.handled = none) (p1 : ZPart prog w i1 l1 At1 S1 g1) (p2 : ZPart prog w i2 l2 At2 S2 g2) (D : ZipApart z TI TO i1 i2 l1 l2)
    (atZ : IsZip s.heap z TI TO .none) (atI : IsPair s.heap TI (.ref i1) (.ref i2)) (atO : IsPair s.heap TO a b) (h1 : At1 k1 s.heap) (h2 : At2 k2 s.heap) (hl1 : S1 s.heap) (hl2 : S2 s.heap) (last : g1 k1 = none ∨ g2 k2 = none)
    (kErr : ∀ h' e, (∀ d u, d ≠ z → d ≠ TO → d ≠ i1 → d ≠ i2 → s.heap.get? d = some u → h'.get? d = some u) → (∃ o, h'.get? e = some o ∧ o.cls = .type "StopIteration") → E (.ref e) { s with heap := h' }) :
    wpAny (model prog w) A (Builtin.«zip.__next__» ⟨[.ref z], []⟩) Q E s := by
  show wpAny _ _ (field (.ref z) 2 >>= _) _ _ _
  refine wpAny_bind (wpAny_field atZ rfl (x := .bool false) rfl ?_)
  show wpAny _ _ (field (.ref z) 3 >>= _) _ _ _
  refine wpAny_bind (wpAny_field atZ rfl (x := .ref TI) rfl (wpAny_bind (wpAny_seqItems atI rfl ?_)))
  show wpAny _ _ (Builtin.SmallTypes.ownedTupleIsFree (.ref z) >>= _) _ _ _
  refine wpAny_bind ?_
  unfold Builtin.SmallTypes.ownedTupleIsFree
  refine wpAny_bind (wpAny_field atZ rfl (x := .none) rfl (wpAny_pure ?_))
  simp only [if_true]
  refine wpAny_bind (wpAny_rule (wpAny_bind (wpAny_field atZ rfl (x := .ref TO) rfl (wpAny_bind (wpAny_setField_rec atZ (by simp) fun ha hza sa => ?_)))))
  replace hza : IsZip ha z TI TO .ellipsis := hza
  refine wpAny_bind ?_
  simp only [List.zipIdx_cons, List.zipIdx_nil, List.forIn_cons, List.forIn_nil]
  have ka : ∀ c, c ≠ z → ∀ o, s.heap.get? c = some o → ha.get? c = some o := fun c n o e => sa.extBut _ _ n e
  refine wpAny_bind (wpAny_bind (wpAny_onRaise ?_))
  show wpAny _ _ (Builtin.SmallTypes.nextOf (.ref i1) >>= _) _ _ _
  cases hx : g1 k1 with
  | none =>
    refine wpAny_bind (p1.fin (s := { s with heap := ha }) calm0 (p1.at_ h1 (ka _ D.i1z)) (p1.src hl1 (ka _ D.l1z)) hx fun hb e sb ⟨oe, eo, ec⟩ => ?_)
    have zb : IsZip hb z TI TO .ellipsis := sb _ _ D.i1z.symm hza
    have ez : e ≠ z := fun q => by subst q; rw [zb] at eo; cases eo; simp at ec
    exact wpAny_setField_rec zb (by simp) fun hc _ sc => kErr hc e (fun c o n1 _ n3 _ q => sc.extBut _ _ n1 (sb _ _ n3 (ka c n1 o q))) ⟨oe, sc.extBut _ _ ez eo, ec⟩
  | some x =>
    have hy : g2 k2 = none := last.resolve_left fun q => by rw [hx] at q; cases q
    refine wpAny_bind (p1.item (s := { s with heap := ha }) (p1.at_ h1 (ka _ D.i1z)) (p1.src hl1 (ka _ D.l1z)) hx fun hb b1 sb => wpAny_pure ?_)
    have kb : ∀ c, c ≠ z → c ≠ i1 → ∀ o, s.heap.get? c = some o → hb.get? c = some o := fun c n m o e => sb.extBut _ _ m (ka c n o e)
    have tob : IsPair hb TO a b := kb _ D.TOz D.TOi1 _ atO
    refine wpAny_bind (wpAny_seqItems tob rfl (wpAny_bind (wpAny_updateSeq_pair tob fun hc toc sc => ?_)))
    refine wpAny_bind (wpAny_letGo (wpAny_pure ?_))
    have kc : ∀ c, c ≠ z → c ≠ i1 → c ≠ TO → ∀ o, s.heap.get? c = some o → hc.get? c = some o := fun c n m q o e => sc.extBut _ _ q (kb c n m o e)
    refine wpAny_bind (wpAny_bind (wpAny_onRaise ?_))
    show wpAny _ _ (Builtin.SmallTypes.nextOf (.ref i2) >>= _) _ _ _
    refine wpAny_bind (p2.fin (s := { s with heap := hc }) calm0 (p2.at_ h2 (kc _ D.i2z D.i12.symm D.TOi2.symm)) (p2.src hl2 (kc _ D.l2z D.l2i1 D.l2TO)) hy fun hd e sd ⟨oe, eo, ec⟩ => ?_)
    have zd : IsZip hd z TI TO .ellipsis := sd _ _ D.i2z.symm (sc.extBut _ _ D.TOz.symm (sb.extBut _ _ D.i1z.symm hza))
    have ez : e ≠ z := fun q => by subst q; rw [zd] at eo; cases eo; simp at ec
    exact wpAny_setField_rec zd (by simp) fun he _ se => kErr he e (fun c o n1 n2 n3 n4 q => se.extBut _ _ n1 (sd _ _ n4 (kc c n1 n3 n2 o q))) ⟨oe, se.extBut _ _ ez eo, ec⟩
theorem pyNext_zipP_item {Q : Option Value → Shared → Prop} (p1 : ZPart prog w i1 l1 At1 S1 g1) (p2 : ZPart prog w i2 l2 At2 S2 g2) (D : ZipApart z TI TO i1 i2 l1 l2)
    (atZ : IsZip s.heap z TI TO .none) (atI : IsPair s.heap TI (.ref i1) (.ref i2)) (atO : IsPair s.heap TO a b) (h1 : At1 k1 s.heap) (h2 : At2 k2 s.heap) (hl1 : S1 s.heap) (hl2 : S2 s.heap) (hx : g1 k1 = some x) (hy : g2 k2 = some y)
    (kOut : ∀ h', IsZip h' z TI TO (rawInt s.heap.objs.size) → IsPair h' TO x y → At1 (k1 + 1) h' → At2 (k2 + 1) h' → IsPair h' s.heap.objs.size x y → h'.objs.size = s.heap.objs.size + 1 →
      (∀ d u, d ≠ z → d ≠ TO → d ≠ i1 → d ≠ i2 → s.heap.get? d = some u → h'.get? d = some u) → Q (some (.ref s.heap.objs.size)) { s with heap := h' }) :
    wpAny (model prog w) A (pyNext (.ref z)) Q E s := by
  have isZ : s.TypeIs (.ref z) "zip" := ⟨_, atZ, rfl⟩
  unfold pyNext
  exact wpAny_bind (wpAny_attempt (wpAny_callSpecial?_slot (name := Str.ofString "__next__") isZ F.slot_zip_next
    (wpAny_call_entry F.slot_zip_next isZ F.entry_zip_next (zipP_next_item p1 p2 D atZ atI atO h1 h2 hl1 hl2 hx hy fun h' q1 q2 q3 q4 q5 q6 q7 => wpAny_pure (kOut h' q1 q2 q3 q4 q5 q6 q7)) (F.args_zip_next_1 _))))
theorem pyNext_zipP_end {Q : Option Value → Shared → Prop} (calm0 : A.handled = none) (p1 : ZPart prog w i1 l1 At1 S1 g1) (p2 : ZPart prog w i2 l2 At2 S2 g2) (D : ZipApart z TI TO i1 i2 l1 l2)
    (atZ : IsZip s.heap z TI TO .none) (atI : IsPair s.heap TI (.ref i1) (.ref i2)) (atO : IsPair s.heap TO a b) (h1 : At1 k1 s.heap) (h2 : At2 k2 s.heap) (hl1 : S1 s.heap) (hl2 : S2 s.heap) (last : g1 k1 = none ∨ g2 k2 = none)
    (kOut : ∀ h', (∀ d u, d ≠ z → d ≠ TO → d ≠ i1 → d ≠ i2 → s.heap.get? d = some u → h'.get? d = some u) → Q none { s with heap := h' }) : wpAny (model prog w) A (pyNext (.ref z)) Q E s := by
  have isZ : s.TypeIs (.ref z) "zip" := ⟨_, atZ, rfl⟩
  unfold pyNext
  refine wpAny_bind (wpAny_attempt (wpAny_callSpecial?_slot (name := Str.ofString "__next__") isZ F.slot_zip_next
    (wpAny_call_entry F.slot_zip_next isZ F.entry_zip_next (zipP_next_end calm0 p1 p2 D atZ atI atO h1 h2 hl1 hl2 last fun h' e hk ⟨o, itAt, hc⟩ => ?_) (F.args_zip_next_1 _))))
  exact wpAny_bind (wpAny_isInstance (T := "StopIteration") (b := true) ⟨o, itAt, hc⟩ isSubtype_stop (wpAny_pure (kOut _ hk)))
end
/-! the call -/
abbrev itT (l : Addr) : Obj := { cls := .type "tuple_iterator", data := .fields #[.ref l, .int 0 0] }
abbrev itK (d : Addr) (n ep : Nat) : Obj := { cls := .type "dict_keyiterator", data := .fields #[.ref d, .int 0 0, .int n 0, .int ep 0] }
/-- what zip lays over the two iterators -/
abbrev zipHeap (h : Heap) (o1 o2 : Obj) : Heap := ((((h.push o1).push o2).push { cls := .type "tuple", data := .seq #[.ref h.objs.size, .ref (h.push o1).objs.size] }).push { cls := .type "tuple", data := .seq #[.none, .none] }).push
  { cls := .type "zip", data := .fields #[.none, .bool false, .bool false, .ref ((h.push o1).push o2).objs.size, .ref (((h.push o1).push o2).push { cls := .type "tuple", data := .seq #[.ref h.objs.size, .ref (h.push o1).objs.size] }).objs.size] }
abbrev zipAddr (h : Heap) (o1 o2 : Obj) : Addr := ((((h.push o1).push o2).push { cls := .type "tuple", data := .seq #[.ref h.objs.size, .ref (h.push o1).objs.size] }).push { cls := .type "tuple", data := .seq #[.none, .none] }).objs.size
theorem meets_zipTK (l d : Addr) (xs : Array Value) (es : Array DictEntry) (ep : Nat) (hs : (d == sysModules) = false) :
    Meets (Builtin.«zip.__new__» ⟨[.type "zip", .ref l, .ref d], []⟩) (fun _ R s => (s.heap.IsTuple l xs ∧ ∃ o, s.heap.get? d = some o ∧ o.ExactDict ∧ o.data = .dict es ep) ∧
      R (.ok (.ret (.ref (zipAddr s.heap (itT l) (itK d es.size ep))))) { s with heap := zipHeap s.heap (itT l) (itK d es.size ep) }) :=
  .of_wp fun prog w A R s h => by
    obtain ⟨hp, gs, dr, tk, os⟩ := s
    obtain ⟨⟨hl, o, itAt, hx, hd⟩, h⟩ := h
    have hsub := sub_zip
    have hL : Heap.IsTuple (Shared.heap ⟨hp, gs, dr, tk, os⟩) l xs := hl
    have hD : (Shared.heap ⟨hp.push (itT l), gs, dr, tk, os⟩).get? d = some o := Heap.get?_push_of_some _ itAt
    wp_walk using wpAny_pyIter_tuple hL, iter_keys hs hD hx hd
    exact ⟨_, rfl, h⟩
theorem meets_zipKT (d l : Addr) (xs : Array Value) (es : Array DictEntry) (ep : Nat) (hs : (d == sysModules) = false) :
    Meets (Builtin.«zip.__new__» ⟨[.type "zip", .ref d, .ref l], []⟩) (fun _ R s => (s.heap.IsTuple l xs ∧ ∃ o, s.heap.get? d = some o ∧ o.ExactDict ∧ o.data = .dict es ep) ∧
      R (.ok (.ret (.ref (zipAddr s.heap (itK d es.size ep) (itT l))))) { s with heap := zipHeap s.heap (itK d es.size ep) (itT l) }) :=
  .of_wp fun prog w A R s h => by
    obtain ⟨hp, gs, dr, tk, os⟩ := s
    obtain ⟨⟨hl, o, itAt, hx, hd⟩, h⟩ := h
    have hsub := sub_zip
    have hL : Heap.IsTuple (Shared.heap ⟨hp.push (itK d es.size ep), gs, dr, tk, os⟩) l xs := Heap.IsTuple.push hl _
    have hD : (Shared.heap ⟨hp, gs, dr, tk, os⟩).get? d = some o := itAt
    wp_walk using wpAny_pyIter_tuple hL, iter_keys hs hD hx hd
    exact ⟨_, rfl, h⟩
theorem call_zipO {prog : Program} {w : World} {A : Around} {E : Value → Shared → Prop} {s : Shared} {l1 l2 : Addr} {o1 o2 : Obj} {P : Shared → Prop} {Q : Value → Shared → Prop} (f1 : o1.isFreed = false) (f2 : o2.isFreed = false)
    (M : Meets (Builtin.«zip.__new__» ⟨[.type "zip", .ref l1, .ref l2], []⟩) fun _ R s => P s ∧ R (.ok (.ret (.ref (zipAddr s.heap o1 o2)))) { s with heap := zipHeap s.heap o1 o2 }) (p : P s)
    (h : ∀ h', IsZip h' (s.heap.objs.size + 4) (s.heap.objs.size + 2) (s.heap.objs.size + 3) .none → IsPair h' (s.heap.objs.size + 2) (.ref s.heap.objs.size) (.ref (s.heap.objs.size + 1)) →
      IsPair h' (s.heap.objs.size + 3) .none .none → h'.get? s.heap.objs.size = some o1 → h'.get? (s.heap.objs.size + 1) = some o2 → (∀ c o, s.heap.get? c = some o → h'.get? c = some o) → Q (.ref (s.heap.objs.size + 4)) { s with heap := h' }) :
    wpAny (model prog w) A (call (.type "zip") [.ref l1, .ref l2]) Q E s := by
  refine callType_new F.called_zip (by decide) (F.typeCall_zip_2 _ _) (F.newCall_zip_2 _ _) (fun obj => F.args_object_init_3 obj _ _) F.entry_zip_new M ⟨p, ?_⟩
  show _ ∧ _
  dsimp only [zipAddr, zipHeap]
  generalize e1 : s.heap.push o1 = ha
  have z1 : ha.objs.size = s.heap.objs.size + 1 := by rw [← e1]; exact Heap.size_push ..
  have g1 : ha.get? s.heap.objs.size = some o1 := by rw [← e1]; exact Heap.get?_push_size _ f1
  have k1 : ∀ c o, s.heap.get? c = some o → ha.get? c = some o := fun c o e => by rw [← e1]; exact Heap.get?_push_of_some _ e
  generalize e2 : ha.push o2 = hb
  have z2 : hb.objs.size = s.heap.objs.size + 2 := by rw [← e2, Heap.size_push, z1]
  have g2 : hb.get? (s.heap.objs.size + 1) = some o2 := by rw [← e2, ← z1]; exact Heap.get?_push_size _ f2
  have k2 : ∀ c o, ha.get? c = some o → hb.get? c = some o := fun c o e => by rw [← e2]; exact Heap.get?_push_of_some _ e
  rw [z1, z2]
  generalize e3 : hb.push { cls := .type "tuple", data := .seq #[.ref s.heap.objs.size, .ref (s.heap.objs.size + 1)] } = hc
  have z3 : hc.objs.size = s.heap.objs.size + 3 := by rw [← e3, Heap.size_push, z2]
  have g3 : IsPair hc (s.heap.objs.size + 2) (.ref s.heap.objs.size) (.ref (s.heap.objs.size + 1)) := by rw [← e3, ← z2]; exact Heap.get?_push_size _ rfl
  have k3 : ∀ c o, hb.get? c = some o → hc.get? c = some o := fun c o e => by rw [← e3]; exact Heap.get?_push_of_some _ e
  rw [z3]
  generalize e4 : hc.push { cls := .type "tuple", data := .seq #[.none, .none] } = hd
  have z4 : hd.objs.size = s.heap.objs.size + 4 := by rw [← e4, Heap.size_push, z3]
  have g4 : IsPair hd (s.heap.objs.size + 3) .none .none := by rw [← e4, ← z3]; exact Heap.get?_push_size _ rfl
  have k4 : ∀ c o, hc.get? c = some o → hd.get? c = some o := fun c o e => by rw [← e4]; exact Heap.get?_push_of_some _ e
  generalize e5 : hd.push { cls := .type "zip", data := .fields #[.none, .bool false, .bool false, .ref (s.heap.objs.size + 2), .ref (s.heap.objs.size + 3)] } = he
  have g5 : IsZip he (s.heap.objs.size + 4) (s.heap.objs.size + 2) (s.heap.objs.size + 3) .none := by rw [← e5, ← z4]; exact Heap.get?_push_size _ rfl
  have k5 : ∀ c o, hd.get? c = some o → he.get? c = some o := fun c o e => by rw [← e5]; exact Heap.get?_push_of_some _ e
  rw [z4]
  exact ⟨⟨_, g5, rfl⟩, h he g5 (k5 _ _ (k4 _ _ g3)) (k5 _ _ g4) (k5 _ _ (k4 _ _ (k3 _ _ (k2 _ _ g1)))) (k5 _ _ (k4 _ _ (k3 _ _ g2))) fun c o e => k5 _ _ (k4 _ _ (k3 _ _ (k2 _ _ (k1 _ _ e))))⟩
/-! as a walk -/
/-- one side of a zip as the heap tells it: while Hs holds, the items are vs -/
structure ZSide (P : Program) (w : World) (K : PySem.W.Frag) (it l : Addr) (At : Nat → Heap → Prop) (Hs : Hp → Prop) (vs : Nat → Option V) : Prop where
  at_ : ∀ {k : Nat} {h h' : Heap}, At k h → (∀ o, h.get? it = some o → h'.get? it = some o) → At k h'
  obj : ∀ {k : Nat} {h : Heap}, At k h → ∃ o, h.get? it = some o ∧ ∀ v, o.data ≠ .cell v
  side : ∀ (X : Cx), X.prog = P → X.w = w → X.K = K → ∀ (pins : List (Addr × Obj)) (σ : L2.St) (H : Hp) (s : Shared), Inv X pins σ H s → Hs H → ∃ (S : Heap → Prop) (g : Nat → Option Value), ZPart P w it l At S g ∧ S s.heap ∧ (∀ k x, vs k = some x → ∃ u, g k = some u ∧ RelV x u) ∧ ∀ k, vs k = none → g k = none
/-- the items of two sides in new pairs -/
def ItzP (A B : Hp → Prop) (xs ys : Nat → Option V) : It :=
  ⟨fun i H => A H ∧ B H ∧ ∃ x y, xs i = some x ∧ ys i = some y, fun i H v H' => ∃ T x y, v = .ref T ∧ H T = none ∧ H' = upd H T (.tup [x, y]) ∧ xs i = some x ∧ ys i = some y, fun i H => A H ∧ B H ∧ (xs i = none ∨ ys i = none)⟩
theorem turn_zipP {P : Program} {w : World} {K : PySem.W.Frag} {elts : List Expr} {kk : Nat} {tpos : Pos} {l1 l2 z TI TO i1 i2 : Addr} {At1 At2 : Nat → Heap → Prop} {A B : Hp → Prop} {xs ys : Nat → Option V} (D : ZipApart z TI TO i1 i2 l1 l2)
    (s1 : ZSide P w K i1 l1 At1 A xs) (s2 : ZSide P w K i2 l2 At2 B ys) :
    Turn P w K (.Tuple elts kk tpos) (ItzP A B xs ys) [z, TI, TO, i1, i2] z (fun i h => IsZip h z TI TO .none ∧ IsPair h TI (.ref i1) (.ref i2) ∧ (∃ x y, IsPair h TO x y) ∧ At1 i h ∧ At2 i h) where
  mem := by simp
  obj := fun i h ⟨atZ, atI, ⟨x, y, atO⟩, h1, h2⟩ c hc => by
    have wh : c = z ∨ c = TI ∨ c = TO ∨ c = i1 ∨ c = i2 := by simpa using hc
    rcases wh with q | q | q | q | q
    · rw [q]; exact ⟨_, atZ, fun v q => nomatch q⟩
    · rw [q]; exact ⟨_, atI, fun v q => nomatch q⟩
    · rw [q]; exact ⟨_, atO, fun v q => nomatch q⟩
    · rw [q]; exact s1.obj h1
    · rw [q]; exact s2.obj h2
  keep := fun i h h' ⟨atZ, atI, ⟨x, y, atO⟩, h1, h2⟩ k => ⟨k z (by simp) _ atZ, k TI (by simp) _ atI, ⟨x, y, k TO (by simp) _ atO⟩, s1.at_ h1 fun o q => k i1 (by simp) o q, s2.at_ h2 fun o q => k i2 (by simp) o q⟩
  item := by
    intro X hP hw hK hc i pins s σ H E I hf now gives
    obtain ⟨S1, g1, p1, q1, m1, _⟩ := s1.side X hP hw hK pins σ H s I gives.1
    obtain ⟨S2, g2, p2, q2, m2, _⟩ := s2.side X hP hw hK pins σ H s I gives.2.1
    subst hP hw hK
    obtain ⟨atZ, atI, ⟨old1, old2, atO⟩, h1, h2⟩ := now
    obtain ⟨_, _, x, y, hx, hy⟩ := gives
    obtain ⟨u, hu, ru⟩ := m1 i x hx
    obtain ⟨u2, hu2, ru2⟩ := m2 i y hy
    have zl : z < s.heap.objs.size := Heap.lt_size atZ
    refine pyNext_zipP_item p1 p2 D atZ atI atO h1 h2 q1 q2 hu hu2 fun h' z' TO' h1' h2' isZ _ hk => ?_
    refine ⟨_, rfl, wpAny_letOwnedTupleGo_zip (s := { s with heap := h' }) z' fun h'' z'' sb => ?_⟩
    have kz : ∀ c, c ≠ z → ∀ o, h'.get? c = some o → h''.get? c = some o := fun c n o e => (sb.2 c n).trans e
    have hT2 : h''.get? s.heap.objs.size = some { cls := .type "tuple", data := .seq #[u, u2] } := kz _ (Nat.ne_of_gt zl) _ isZ
    have off5 : ∀ c, c ∉ [z, TI, TO, i1, i2] → ∀ o, s.heap.get? c = some o → h''.get? c = some o := fun c n o e => by
      have n5 : c ≠ z ∧ c ≠ TI ∧ c ≠ TO ∧ c ≠ i1 ∧ c ≠ i2 := by simpa using n
      exact kz c n5.1 o (hk c o n5.1 n5.2.2.1 n5.2.2.2.1 n5.2.2.2.2 e)
    have new : ObjOk X.prog X.w (upd H s.heap.objs.size (.tup [x, y])) h'' s.heap.objs.size (.tup [x, y]) :=
      ⟨by show 2 ≤ sizeLine; decide, [u, u2], .cons ru (.cons ru2 .nil), ⟨_, hT2, rfl, _, rfl⟩⟩
    have J : Inv X pins σ (upd H s.heap.objs.size (.tup [x, y])) { s with heap := h'' } :=
      I.turnedNew (t' := s.toks) (ch := [z, TI, TO, i1, i2]) (fun c o hb q => off5 c hb o q) hf (Nat.le_refl _) new
    refine ⟨.ref s.heap.objs.size, _, J, rfl, ⟨_, x, y, rfl, I.hok.fresh (Nat.le_refl _), rfl, hx, hy⟩, ⟨z'', ?_, ⟨u, u2, ?_⟩, ?_, ?_⟩, fun c inF => ?_⟩
    · exact kz _ D.TIz _ (hk _ _ D.TIz D.TITO D.TIi1 D.TIi2 atI)
    · exact kz _ D.TOz _ TO'
    · exact s1.at_ h1' (kz _ D.i1z)
    · exact s2.at_ h2' (kz _ D.i2z)
    · have lt : c < s.heap.objs.size := by
        have wh : c = z ∨ c = TI ∨ c = TO ∨ c = i1 ∨ c = i2 := by simpa using inF
        rcases wh with q | q | q | q | q
        · rw [q]; exact zl
        · rw [q]; exact Heap.lt_size atI
        · rw [q]; exact Heap.lt_size atO
        · rw [q]; exact Heap.lt_size (s1.obj h1).choose_spec.1
        · rw [q]; exact Heap.lt_size (s2.obj h2).choose_spec.1
      rw [upd_ne (Nat.ne_of_lt lt)]
      exact (hf c inF).1
  done := by
    intro X hP hw hK hc i pins s σ H E I hf now gives
    obtain ⟨S1, g1, p1, q1, _, n1⟩ := s1.side X hP hw hK pins σ H s I gives.1
    obtain ⟨S2, g2, p2, q2, _, n2⟩ := s2.side X hP hw hK pins σ H s I gives.2.1
    subst hP hw hK
    obtain ⟨atZ, atI, ⟨old1, old2, atO⟩, h1, h2⟩ := now
    exact pyNext_zipP_end (I.ok.hd hc) p1 p2 D atZ atI atO h1 h2 q1 q2 (gives.2.2.imp (n1 i) (n2 i)) fun h' hk => ⟨rfl, I.turnedL (t' := s.toks) (ch := [z, TI, TO, i1, i2]) (fun c o n e => by
      have n5 : c ≠ z ∧ c ≠ TI ∧ c ≠ TO ∧ c ≠ i1 ∧ c ≠ i2 := by simpa using n
      exact hk c o n5.1 n5.2.2.1 n5.2.2.2.1 n5.2.2.2.2 e) hf⟩
  self := fun A i s Q E now h => wpAny_pyIter_zip now.1 h
theorem zside_tup {P : Program} {w : World} {K : PySem.W.Frag} {it a : Addr} {xs : List V} : ZSide P w K it a (fun k h => h.IsTupleIter it a k) (fun H => SqT K H a xs) (fun i => xs[i]?) where
  at_ := fun q k => q.at k
  obj := fun ⟨o, e, _, d⟩ => ⟨o, e, fun v q => by rw [d] at q; cases q⟩
  side := fun X hP hw hK pins σ H s I hq => by
    subst hP hw hK
    obtain ⟨its, rv, p, _⟩ := I.tuple hq
    refine ⟨_, _, zpart_tuple (items := its.toArray), p, fun k x hx => ?_, fun k hx => ?_⟩
    · obtain ⟨u, hu, ru⟩ := rv.get hx
      exact ⟨u, by simpa using hu, ru⟩
    · have l := rv.length
      have : xs.length ≤ k := List.getElem?_eq_none_iff.mp hx
      simp
      omega
theorem zside_keys {P : Program} {w : World} {K : PySem.W.Frag} {it d : Addr} {o : Obj} {kvs : List (Key × V)} {es : Array DictEntry} {ep : Nat} (dAt : o.data = .dict es ep) :
    ZSide P w K it d (fun k h => h.IsKeyIter it d k kvs.length ep) (fun H => H d = some (.frz o (.dK kvs))) (fun i => kvs[i]?.map fun q => kV q.1) where
  at_ := fun q k => q.at k
  obj := fun ⟨o, e, _, d⟩ => ⟨o, e, fun v q => by rw [d] at q; cases q⟩
  side := fun X hP hw hK pins σ H s I hq => by
    subst hP hw hK
    obtain ⟨hs, dHp, hx, es', ep', vs, dDt, many, kv, hm⟩ := I.frzK hq
    obtain ⟨rfl, rfl⟩ := dict_ep dAt dDt
    obtain ⟨od, es2, ho2, hc2, hd2, hk2, hp2, hn2⟩ := id hm
    rw [dHp] at ho2
    cases ho2
    obtain ⟨rfl, _⟩ := dict_ep dDt hd2
    have hl : kvs.length = vs.length := Paired.length kv
    refine ⟨_, _, zpart_keys (es := es2) many, ⟨o, dHp, dDt⟩, fun k x hx => ?_, fun k hx => ?_⟩
    · cases hk : kvs[k]? with
      | none => rw [hk] at hx; cases hx
      | some q =>
        rw [hk] at hx
        obtain rfl : kV q.1 = x := Option.some.inj hx
        obtain ⟨u, hu, ru⟩ := kv_get kv (show kvs[k]? = some (q.1, q.2) from hk)
        have lt : k < es2.size := by
          have := (List.getElem?_eq_some_iff.mp hk).1
          omega
        have he : es2.toList[k]? = some es2[k] := by simp [lt]
        obtain ⟨hkey, _⟩ := hp2.get? he hu
        refine ⟨es2[k].key, by rw [Array.getElem?_eq_getElem lt]; rfl, relV_key (show keyIs q.1 es2[k].key = true from hkey)⟩
    · cases hk : kvs[k]? with
      | some q => rw [hk] at hx; cases hx
      | none =>
        have : kvs.length ≤ k := List.getElem?_eq_none_iff.mp hk
        show es2[k]?.map _ = none
        rw [Array.getElem?_eq_none (by omega)]
        rfl
/-- zip of a tuple and a locked dict of ints or texts, either way round -/
def iZipM (K : PySem.W.Frag) (ta : TA) : TI := fun σ H R => ta σ H fun vs H1 => ∃ a b, vs = [.ref a, .ref b] ∧
  ((∃ xs o kvs, SqT K H1 a xs ∧ H1 b = some (.frz o (.dK kvs)) ∧ R (ItzP (fun H => SqT K H a xs) (fun H => H b = some (.frz o (.dK kvs))) (fun i => xs[i]?) fun i => kvs[i]?.map fun q => kV q.1) H1) ∨
    ∃ xs o kvs, H1 a = some (.frz o (.dK kvs)) ∧ SqT K H1 b xs ∧ R (ItzP (fun H => H a = some (.frz o (.dK kvs))) (fun H => SqT K H b xs) (fun i => kvs[i]?.map fun q => kV q.1) fun i => xs[i]?) H1)
theorem pi_zipM {X : Cx} {e e2 : Expr} {ta : TA} {p pos tpos : Pos} {elts : List Expr} {kk : Nat} (gives : Gl X "zip") (hm : X.mg "zip" = none) (ha : PA X [e, e2] ta)
    (hs : starEach [e, e2] X.env = (false, eval e X.env) :: starEach [e2] X.env := by rfl) (plain1 : (backTo pos (starEach [e2] X.env)).any (·.1) = false := by rfl) :
    PI X (.Tuple elts kk tpos) (.Call (.Name "zip" p) [e, e2] [] pos) (iZipM X.K ta) := by
  refine ⟨fun pins s σ H R I h => ?_⟩
  refine Call_ (ld_blt I gives hm PyProof.Rows.boot_zip (PyProof.Rows.callWith_type1 (thn (ha.run pos pins s σ H _ I h) fun us t ⟨vs, H1, J, rel, q⟩ => ?_) hs plain1))
  obtain ⟨a, b, ev, q⟩ := q
  subst ev
  obtain ⟨u1, u2, rfl, r1, r2⟩ := vals2 rel
  obtain rfl : u1 = Value.ref a := r1
  obtain rfl : u2 = Value.ref b := r2
  have fresh : ∀ c, c ∈ [t.heap.objs.size + 4, t.heap.objs.size + 2, t.heap.objs.size + 3, t.heap.objs.size, t.heap.objs.size + 1] → FpOk X pins H1 c := fun c hc => by
    have le : t.heap.objs.size ≤ c := by
      simp only [List.mem_cons, List.not_mem_nil, or_false] at hc
      omega
    exact J.fpOk le (J.hok.fresh le)
  rcases q with ⟨xs, o, kvs, ht, hd, q⟩ | ⟨xs, o, kvs, hd, ht, q⟩
  · obtain ⟨its, rv, p1, _⟩ := J.tuple ht
    obtain ⟨hsys, dHp, hx, es, ep, ws, dDt, many, _, _⟩ := J.frzK hd
    have la : a < t.heap.objs.size := let ⟨_, z, _⟩ := id p1; Heap.lt_size z
    have lb := Heap.lt_size dHp
    refine call_zipO rfl rfl (meets_zipTK a b its.toArray es ep hsys) ⟨p1, o, dHp, hx, dDt⟩ fun h' atZ atI atO g1 g2 hk => wpAny_pyIter_zip atZ ?_
    exact ⟨t.heap.objs.size + 4, [t.heap.objs.size + 4, t.heap.objs.size + 2, t.heap.objs.size + 3, t.heap.objs.size, t.heap.objs.size + 1], _, _, H1, rfl, J.kept (t' := t.toks) hk,
      turn_zipP (PySem.W.ktu_apart t.heap.objs.size a b la lb) zside_tup (zside_keys dDt), ⟨atZ, atI, ⟨_, _, atO⟩, ⟨_, g1, rfl, rfl⟩, ⟨_, g2, rfl, by rw [many]; rfl⟩⟩, fresh, q⟩
  · obtain ⟨its, rv, p1, _⟩ := J.tuple ht
    obtain ⟨hsys, dHp, hx, es, ep, ws, dDt, many, _, _⟩ := J.frzK hd
    have lb : b < t.heap.objs.size := let ⟨_, z, _⟩ := id p1; Heap.lt_size z
    have la := Heap.lt_size dHp
    refine call_zipO rfl rfl (meets_zipKT a b its.toArray es ep hsys) ⟨p1, o, dHp, hx, dDt⟩ fun h' atZ atI atO g1 g2 hk => wpAny_pyIter_zip atZ ?_
    exact ⟨t.heap.objs.size + 4, [t.heap.objs.size + 4, t.heap.objs.size + 2, t.heap.objs.size + 3, t.heap.objs.size, t.heap.objs.size + 1], _, _, H1, rfl, J.kept (t' := t.toks) hk,
      turn_zipP (PySem.W.ktu_apart t.heap.objs.size a b la lb) (zside_keys dDt) zside_tup, ⟨atZ, atI, ⟨_, _, atO⟩, ⟨_, g1, rfl, by rw [many]; rfl⟩, ⟨_, g2, rfl, rfl⟩⟩, fresh, q⟩
theorem walk_zipP {A B : Hp → Prop} {xs ys : Nat → Option V} {n : Nat} (h1 : ∀ i, i < n → ∃ x y, xs i = some x ∧ ys i = some y) (h2 : xs n = none ∨ ys n = none) : Walk (ItzP A B xs ys) n (fun H => A H ∧ B H) (YPair xs ys) :=
  ⟨fun i H hi q => ⟨q.1, q.2, h1 i hi⟩, fun H q => ⟨q.1, q.2, h2⟩, fun i H x H' hi q y => y⟩
end RZ
set_option Elab.async false
set_option linter.all false
set_option maxRecDepth 100000
set_option maxHeartbeats 4000000
/-! A zip whose pair is kept by whoever got it: the next pair is a new one. dict(zip(t, u)) of two tuples. -/
namespace RZ
open PySem PySem.Spec PyProof.Rows L2
section
variable {prog : Program} {w : World} {A : Around} {E : Value → Shared → Prop} {s : Shared} {z TI TO T i1 i2 l1 l2 : Addr} {f : Bool} {oT : Obj} {k1 k2 : Nat} {At1 At2 : Nat → Heap → Prop} {S1 S2 : Heap → Prop} {g1 g2 : Nat → Option Value} {x y : Value}
theorem zipP_next_item_held {Q : Value → Shared → Prop} (p1 : ZPart prog w i1 l1 At1 S1 g1) (p2 : ZPart prog w i2 l2 At2 S2 g2) (D : ZipApart z TI TO i1 i2 l1 l2)
    (atZ : IsZipHeld s.heap z TI TO T f) (isT : s.heap.get? T = some oT) (atI : IsPair s.heap TI (.ref i1) (.ref i2)) (h1 : At1 k1 s.heap) (h2 : At2 k2 s.heap) (hl1 : S1 s.heap) (hl2 : S2 s.heap) (hx : g1 k1 = some x) (hy : g2 k2 = some y)
    (kOut : ∀ h', IsZipHeld h' z TI TO T true → At1 (k1 + 1) h' → At2 (k2 + 1) h' → IsPair h' s.heap.objs.size x y → h'.objs.size = s.heap.objs.size + 1 →
      (∀ d u, d ≠ z → d ≠ i1 → d ≠ i2 → s.heap.get? d = some u → h'.get? d = some u) → Q (.ref s.heap.objs.size) { s with heap := h' }) :
    wpAny (model prog w) A (Builtin.«zip.__next__» ⟨[.ref z], []⟩) (fun fin t => ∃ v, fin = .done (.ret v) ∧ Q v t) E s := by
  show wpAny _ _ (field (.ref z) 2 >>= _) _ _ _
  refine wpAny_bind (wpAny_field atZ rfl (x := .bool false) rfl ?_)
  show wpAny _ _ (field (.ref z) 3 >>= _) _ _ _
  refine wpAny_bind (wpAny_field atZ rfl (x := .ref TI) rfl (wpAny_bind (wpAny_seqItems atI rfl ?_)))
  show wpAny _ _ (Builtin.SmallTypes.ownedTupleIsFree (.ref z) >>= _) _ _ _
  refine wpAny_bind (wpAny_tupleHeld_zip atZ isT fun ha za sa => ?_)
  simp only [Bool.false_eq_true, if_false]
  refine wpAny_bind ?_
  rw [← Array.forIn_toList]
  simp only [List.forIn_cons, List.forIn_nil]
  have ka : ∀ c, c ≠ z → ∀ o, s.heap.get? c = some o → ha.get? c = some o := fun c n o e => sa.extBut _ _ n e
  refine wpAny_bind (wpAny_bind (wpAny_holding ?_))
  show wpAny _ _ (Builtin.SmallTypes.nextOf (.ref i1) >>= _) _ _ _
  refine wpAny_bind (p1.item (s := { s with heap := ha }) (p1.at_ h1 (ka _ D.i1z)) (p1.src hl1 (ka _ D.l1z)) hx fun hb b1 sb => wpAny_pure (wpAny_pure ?_))
  have kb : ∀ c, c ≠ z → c ≠ i1 → ∀ o, s.heap.get? c = some o → hb.get? c = some o := fun c n m o e => sb.extBut _ _ m (ka c n o e)
  refine wpAny_bind (wpAny_bind (wpAny_holding ?_))
  show wpAny _ _ (Builtin.SmallTypes.nextOf (.ref i2) >>= _) _ _ _
  refine wpAny_bind (p2.item (s := { s with heap := hb }) (p2.at_ h2 (kb _ D.i2z D.i12.symm)) (p2.src hl2 (kb _ D.l2z D.l2i1)) hy fun hc c2 sc => wpAny_pure (wpAny_pure (wpAny_pure ?_)))
  have kc : ∀ c o, c ≠ z → c ≠ i1 → c ≠ i2 → s.heap.get? c = some o → hc.get? c = some o := fun c o n m q e => sc.extBut _ _ q (kb c n m o e)
  show wpAny _ _ (newTuple [x, y] >>= _) _ _ _
  refine wpAny_bind (wpAny_newTuple ?_)
  have sz : hc.objs.size = s.heap.objs.size := by rw [sc.1, sb.1, sa.1]
  have zc : IsZipHeld hc z TI TO T true := sc.extBut _ _ D.i2z.symm (sb.extBut _ _ D.i1z.symm za)
  refine wpAny_pure ⟨_, rfl, ?_⟩
  show Q (.ref hc.objs.size) _
  have new : IsPair (hc.push { cls := .type "tuple", data := .seq #[x, y] }) hc.objs.size x y := Heap.get?_push_size _ rfl
  have sz2 : (hc.push { cls := .type "tuple", data := .seq #[x, y] }).objs.size = hc.objs.size + 1 := Heap.size_push ..
  rw [sz] at new sz2 ⊢
  exact kOut _ (Heap.get?_push_of_some _ zc) (p1.at_ b1 fun o e => Heap.get?_push_of_some _ (sc.extBut _ _ D.i12 e)) (p2.at_ c2 fun o e => Heap.get?_push_of_some _ e) new sz2 fun c o n m q e => Heap.get?_push_of_some _ (kc c o n m q e)
theorem zipP_next_end_held {Q : Fin → Shared → Prop} (calm0 : A.handled = none) (p1 : ZPart prog w i1 l1 At1 S1 g1) (p2 : ZPart prog w i2 l2 At2 S2 g2) (D : ZipApart z TI TO i1 i2 l1 l2)
    (atZ : IsZipHeld s.heap z TI TO T f) (isT : s.heap.get? T = some oT) (atI : IsPair s.heap TI (.ref i1) (.ref i2)) (h1 : At1 k1 s.heap) (h2 : At2 k2 s.heap) (hl1 : S1 s.heap) (hl2 : S2 s.heap) (last : g1 k1 = none ∨ g2 k2 = none)
    (kErr : ∀ h' e, (∀ d u, d ≠ z → d ≠ i1 → d ≠ i2 → s.heap.get? d = some u → h'.get? d = some u) → (∃ o, h'.get? e = some o ∧ o.cls = .type "StopIteration") → E (.ref e) { s with heap := h' }) :
    wpAny (model prog w) A (Builtin.«zip.__next__» ⟨[.ref z], []⟩) Q E s := by
  show wpAny _ _ (field (.ref z) 2 >>= _) _ _ _
  refine wpAny_bind (wpAny_field atZ rfl (x := .bool false) rfl ?_)
  show wpAny _ _ (field (.ref z) 3 >>= _) _ _ _
  refine wpAny_bind (wpAny_field atZ rfl (x := .ref TI) rfl (wpAny_bind (wpAny_seqItems atI rfl ?_)))
  show wpAny _ _ (Builtin.SmallTypes.ownedTupleIsFree (.ref z) >>= _) _ _ _
  refine wpAny_bind (wpAny_tupleHeld_zip atZ isT fun ha za sa => ?_)
  simp only [Bool.false_eq_true, if_false]
  refine wpAny_bind ?_
  rw [← Array.forIn_toList]
  simp only [List.forIn_cons, List.forIn_nil]
  have ka : ∀ c, c ≠ z → ∀ o, s.heap.get? c = some o → ha.get? c = some o := fun c n o e => sa.extBut _ _ n e
  refine wpAny_bind (wpAny_bind (wpAny_holding ?_))
  show wpAny _ _ (Builtin.SmallTypes.nextOf (.ref i1) >>= _) _ _ _
  cases hx : g1 k1 with
  | none => exact wpAny_bind (p1.fin (s := { s with heap := ha }) calm0 (p1.at_ h1 (ka _ D.i1z)) (p1.src hl1 (ka _ D.l1z)) hx fun hb e sb he => kErr hb e (fun c o n m _ q => sb _ _ m (ka c n o q)) he)
  | some x =>
    have hy : g2 k2 = none := last.resolve_left fun q => by rw [hx] at q; cases q
    refine wpAny_bind (p1.item (s := { s with heap := ha }) (p1.at_ h1 (ka _ D.i1z)) (p1.src hl1 (ka _ D.l1z)) hx fun hb b1 sb => wpAny_pure (wpAny_pure ?_))
    have kb : ∀ c, c ≠ z → c ≠ i1 → ∀ o, s.heap.get? c = some o → hb.get? c = some o := fun c n m o e => sb.extBut _ _ m (ka c n o e)
    refine wpAny_bind (wpAny_bind (wpAny_holding ?_))
    show wpAny _ _ (Builtin.SmallTypes.nextOf (.ref i2) >>= _) _ _ _
    exact wpAny_bind (p2.fin (s := { s with heap := hb }) calm0 (p2.at_ h2 (kb _ D.i2z D.i12.symm)) (p2.src hl2 (kb _ D.l2z D.l2i1)) hy fun hc e sc he => kErr hc e (fun c o n m q r => sc _ _ q (kb c n m o r)) he)
theorem pyNext_zipP_item_held {Q : Option Value → Shared → Prop} (p1 : ZPart prog w i1 l1 At1 S1 g1) (p2 : ZPart prog w i2 l2 At2 S2 g2) (D : ZipApart z TI TO i1 i2 l1 l2)
    (atZ : IsZipHeld s.heap z TI TO T f) (isT : s.heap.get? T = some oT) (atI : IsPair s.heap TI (.ref i1) (.ref i2)) (h1 : At1 k1 s.heap) (h2 : At2 k2 s.heap) (hl1 : S1 s.heap) (hl2 : S2 s.heap) (hx : g1 k1 = some x) (hy : g2 k2 = some y)
    (kOut : ∀ h', IsZipHeld h' z TI TO T true → At1 (k1 + 1) h' → At2 (k2 + 1) h' → IsPair h' s.heap.objs.size x y → h'.objs.size = s.heap.objs.size + 1 →
      (∀ d u, d ≠ z → d ≠ i1 → d ≠ i2 → s.heap.get? d = some u → h'.get? d = some u) → Q (some (.ref s.heap.objs.size)) { s with heap := h' }) :
    wpAny (model prog w) A (pyNext (.ref z)) Q E s := by
  have isZ : s.TypeIs (.ref z) "zip" := ⟨_, atZ, rfl⟩
  unfold pyNext
  exact wpAny_bind (wpAny_attempt (wpAny_callSpecial?_slot (name := Str.ofString "__next__") isZ F.slot_zip_next
    (wpAny_call_entry F.slot_zip_next isZ F.entry_zip_next (zipP_next_item_held p1 p2 D atZ isT atI h1 h2 hl1 hl2 hx hy fun h' q1 q2 q3 q4 q5 q6 => wpAny_pure (kOut h' q1 q2 q3 q4 q5 q6)) (F.args_zip_next_1 _))))
theorem pyNext_zipP_end_held {Q : Option Value → Shared → Prop} (calm0 : A.handled = none) (p1 : ZPart prog w i1 l1 At1 S1 g1) (p2 : ZPart prog w i2 l2 At2 S2 g2) (D : ZipApart z TI TO i1 i2 l1 l2)
    (atZ : IsZipHeld s.heap z TI TO T f) (isT : s.heap.get? T = some oT) (atI : IsPair s.heap TI (.ref i1) (.ref i2)) (h1 : At1 k1 s.heap) (h2 : At2 k2 s.heap) (hl1 : S1 s.heap) (hl2 : S2 s.heap) (last : g1 k1 = none ∨ g2 k2 = none)
    (kOut : ∀ h', (∀ d u, d ≠ z → d ≠ i1 → d ≠ i2 → s.heap.get? d = some u → h'.get? d = some u) → Q none { s with heap := h' }) : wpAny (model prog w) A (pyNext (.ref z)) Q E s := by
  have isZ : s.TypeIs (.ref z) "zip" := ⟨_, atZ, rfl⟩
  unfold pyNext
  refine wpAny_bind (wpAny_attempt (wpAny_callSpecial?_slot (name := Str.ofString "__next__") isZ F.slot_zip_next
    (wpAny_call_entry F.slot_zip_next isZ F.entry_zip_next (zipP_next_end_held calm0 p1 p2 D atZ isT atI h1 h2 hl1 hl2 last fun h' e hk ⟨o, ho, hc⟩ => ?_) (F.args_zip_next_1 _))))
  exact wpAny_bind (wpAny_isInstance (T := "StopIteration") (b := true) ⟨o, ho, hc⟩ isSubtype_stop (wpAny_pure (kOut _ hk)))
end
/-- the argument of dict: a zip of two tuples -/
theorem pairArg_zipT {prog : Program} {w : World} (z TI TO i1 i2 l1 l2 : Addr) (D : ZipApart z TI TO i1 i2 l1 l2) (xs ys : Array Value) :
    PairArg prog w "zip" z [z, TI, TO, i1, i2, l1, l2] [z, TO, i1, i2] (min xs.size ys.size) (fun i k v => xs[i]? = some k ∧ ys[i]? = some v)
      (fun h => IsZip h z TI TO .none ∧ IsPair h TI (.ref i1) (.ref i2) ∧ (∃ a b, IsPair h TO a b) ∧ h.IsTupleIter i1 l1 0 ∧ h.IsTupleIter i2 l2 0 ∧ h.IsTuple l1 xs ∧ h.IsTuple l2 ys) where
  type := fun s ok => ⟨_, ok.1, rfl⟩
  notDict := by decide
  keep := fun h h' ⟨atZ, atI, ⟨a, b, atO⟩, h1, h2, hl1, hl2⟩ hk => ⟨hk _ _ atZ, hk _ _ atI, ⟨a, b, hk _ _ atO⟩, h1.at fun o e => hk _ o e, h2.at fun o e => hk _ o e, (zpart_tuple (prog := prog) (w := w) (it := i1)).src hl1 fun o e => hk _ o e, (zpart_tuple (prog := prog) (w := w) (it := i2)).src hl2 fun o e => hk _ o e⟩
  there := fun h ⟨atZ, atI, ⟨a, c, atO⟩, ⟨o1, h1, _⟩, ⟨o2, h2, _⟩, ⟨o3, hl1, _⟩, ⟨o4, hl2, _⟩⟩ b hb => by
    simp only [List.mem_cons, List.not_mem_nil, or_false] at hb
    rcases hb with rfl | rfl | rfl | rfl | rfl | rfl | rfl
    all_goals first | exact ⟨_, atZ⟩ | exact ⟨_, atI⟩ | exact ⟨_, atO⟩ | exact ⟨_, h1⟩ | exact ⟨_, h2⟩ | exact ⟨_, hl1⟩ | exact ⟨_, hl2⟩
  sub := fun b hb => by simp at hb ⊢; rcases hb with rfl | rfl | rfl | rfl <;> simp
  noKeys := fun A s Q E hA ok h => getAttrOr_miss_zip ok.1 rfl rfl rfl zip_no_keys (by decide +kernel) hA h
  iter := fun A s d Q E hA ⟨atZ, atI, ⟨a, b, atO⟩, h1, h2, hl1, hl2⟩ hd off h => by
    have p1 : ZPart prog w i1 l1 _ _ _ := zpart_tuple (items := xs)
    have p2 : ZPart prog w i2 l2 _ _ _ := zpart_tuple (items := ys)
    simp only [List.mem_cons, List.not_mem_nil, or_false, not_or] at off
    obtain ⟨dz, dTI, dTO, di1, di2, dl1, dl2⟩ := off
    refine wpAny_pyIter_zip atZ (h z [z, TO, i1, i2] (fun i h => IsPair h TI (.ref i1) (.ref i2) ∧ h.IsTupleIter i1 l1 i ∧ h.IsTupleIter i2 l2 i ∧ h.IsTuple l1 xs ∧ h.IsTuple l2 ys ∧
      ((IsZip h z TI TO .none ∧ ∃ a b, IsPair h TO a b) ∨ ∃ T f oT, IsZipHeld h z TI TO T f ∧ h.get? T = some oT ∧ T ≠ z ∧ T ≠ i1 ∧ T ≠ i2 ∧ T ≠ d)) s.heap s.toks ?_
      ⟨atI, h1, h2, hl1, hl2, .inl ⟨atZ, a, b, atO⟩⟩ (fun _ _ e => e) fun b hb => .inl hb)
    exact {
      off := fun inW => by
        simp only [List.mem_cons, List.not_mem_nil, or_false] at inW
        rcases inW with e | e | e | e
        · exact dz e
        · exact dTO e
        · exact di1 e
        · exact di2 e
      frame := fun i ha hb ⟨atI, h1, h2, hl1, hl2, atZ⟩ hk => by
        refine ⟨hk _ _ (Ne.symm dTI) atI, h1.at fun o e => hk _ o (Ne.symm di1) e, h2.at fun o e => hk _ o (Ne.symm di2) e, p1.src hl1 fun o e => hk _ o (Ne.symm dl1) e, p2.src hl2 fun o e => hk _ o (Ne.symm dl2) e, ?_⟩
        rcases atZ with ⟨atZ, a, b, atO⟩ | ⟨T, f, oT, atZ, isT, q1z, q2z, q3z, q4z⟩
        · exact .inl ⟨hk _ _ (Ne.symm dz) atZ, a, b, hk _ _ (Ne.symm dTO) atO⟩
        · exact .inr ⟨T, f, oT, hk _ _ (Ne.symm dz) atZ, hk _ _ q4z isT, q1z, q2z, q3z, q4z⟩
      item := fun i t Q1 E1 hi ⟨atI, h1, h2, hl1, hl2, atZ⟩ hds kOut => by
        have ex := Array.getElem?_eq_getElem (Nat.lt_of_lt_of_le hi (Nat.min_le_left xs.size ys.size))
        have ey := Array.getElem?_eq_getElem (Nat.lt_of_lt_of_le hi (Nat.min_le_right xs.size ys.size))
        have new : ∀ {c o}, t.heap.get? c = some o → t.heap.objs.size ≠ c := fun e => Nat.ne_of_gt (Heap.lt_size e)
        have n1 : t.heap.objs.size ≠ i1 := let ⟨_, e, _⟩ := h1; new e
        have n2 : t.heap.objs.size ≠ i2 := let ⟨_, e, _⟩ := h2; new e
        rcases atZ with ⟨atZ, a, b, atO⟩ | ⟨T, f, oT, atZ, isT, q1z, q2z, q3z, q4z⟩
        · refine pyNext_zipP_item p1 p2 D atZ atI atO h1 h2 hl1 hl2 ex ey fun h' q1 q2 q3 q4 q5 _ hk => ?_
          exact kOut t.heap.objs.size _ _ h' t.toks ⟨ex, ey⟩ (.inl ⟨_, q5, rfl, _, rfl⟩)
            ⟨hk _ _ D.TIz D.TITO D.TIi1 D.TIi2 atI, q3, q4, p1.src hl1 fun o e => hk _ o D.l1z D.l1TO D.l1i1 D.l1i2 e, p2.src hl2 fun o e => hk _ o D.l2z D.l2TO D.l2i1 D.l2i2 e, .inr ⟨t.heap.objs.size, false, _, q1, q5, new atZ, n1, n2, Nat.ne_of_gt hds⟩⟩
            fun c o hc e => hk c o (fun x => hc (by simp [x])) (fun x => hc (by simp [x])) (fun x => hc (by simp [x])) (fun x => hc (by simp [x])) e
        · refine pyNext_zipP_item_held p1 p2 D atZ isT atI h1 h2 hl1 hl2 ex ey fun h' q1 q3 q4 q5 _ hk => ?_
          exact kOut t.heap.objs.size _ _ h' t.toks ⟨ex, ey⟩ (.inl ⟨_, q5, rfl, _, rfl⟩)
            ⟨hk _ _ D.TIz D.TIi1 D.TIi2 atI, q3, q4, p1.src hl1 fun o e => hk _ o D.l1z D.l1i1 D.l1i2 e, p2.src hl2 fun o e => hk _ o D.l2z D.l2i1 D.l2i2 e, .inr ⟨T, true, oT, q1, hk _ _ q1z q2z q3z isT, q1z, q2z, q3z, q4z⟩⟩
            fun c o hc e => hk c o (fun x => hc (by simp [x])) (fun x => hc (by simp [x])) (fun x => hc (by simp [x])) e
      done := fun t Q1 E1 ⟨atI, h1, h2, hl1, hl2, atZ⟩ kOut => by
        have last : xs[min xs.size ys.size]? = none ∨ ys[min xs.size ys.size]? = none := by
          rcases Nat.le_total xs.size ys.size with h | h
          · exact .inl (Array.getElem?_eq_none (by rw [Nat.min_eq_left h]; exact Nat.le_refl _))
          · exact .inr (Array.getElem?_eq_none (by rw [Nat.min_eq_right h]; exact Nat.le_refl _))
        rcases atZ with ⟨atZ, a, b, atO⟩ | ⟨T, f, oT, atZ, isT, q1z, q2z, q3z, q4z⟩
        · exact pyNext_zipP_end hA p1 p2 D atZ atI atO h1 h2 hl1 hl2 last fun h' hk => kOut h' t.toks fun c o hc e => hk c o (fun x => hc (by simp [x])) (fun x => hc (by simp [x])) (fun x => hc (by simp [x])) (fun x => hc (by simp [x])) e
        · exact pyNext_zipP_end_held hA p1 p2 D atZ isT atI h1 h2 hl1 hl2 last fun h' hk => kOut h' t.toks fun c o hc e => hk c o (fun x => hc (by simp [x])) (fun x => hc (by simp [x])) (fun x => hc (by simp [x])) e }
/-- dict(zip(t, u)), the keys ints or texts -/
def rDictZip (K : PySem.W.Frag) : List V → Hp → VK → Prop := fun vs H Q => ∃ (a b : Addr) (ks : List Key) (ys : List V), vs = [.ref a, .ref b] ∧ SqT K H a (ks.map kV) ∧ SqT K H b ys ∧ ys.length = ks.length ∧ ∀ p, H p = none → Q (.ref p) (upd H p (.dK (mergeK [] (ks.zip ys))))
def tDictZip (K : PySem.W.Frag) (ta : TA) : TE := fun σ H Q => ta σ H fun vs H1 => rDictZip K vs H1 Q
theorem kv_zip {ks : List Key} {ys : List V} {ws : List Value} (r : Vals ys ws) (l : ys.length = ks.length) : KV (ks.zip ys) (ks.zip ws) := by
  unfold KV
  induction r generalizing ks with
  | nil =>
    rw [List.zip_nil_right, List.zip_nil_right]
    exact .nil
  | cons h t ih =>
    cases ks with
    | nil => cases l
    | cons k ks => exact .cons ⟨rfl, h⟩ (ih (by simpa using l))
theorem pe_dictZip {X : Cx} {e e2 : Expr} {ta : TA} {p p2 q pos : Pos} (hc : X.calm = true) (hg : Gl X "dict") (inW : X.mg "dict" = none) (hg2 : Gl X "zip") (hm2 : X.mg "zip" = none) (ha : PA X [e, e2] ta)
    (hs : starEach [.Call (.Name "zip" p2) [e, e2] [] q] X.env = (false, eval (.Call (.Name "zip" p2) [e, e2] [] q) X.env) :: starEach [] X.env := by rfl)
    (star2 : starEach [e, e2] X.env = (false, eval e X.env) :: starEach [e2] X.env := by rfl) (plain1 : (backTo q (starEach [e2] X.env)).any (·.1) = false := by rfl) :
    PE X (.Call (.Name "dict" p) [.Call (.Name "zip" p2) [e, e2] [] q] [] pos) (tDictZip X.K ta) := by
  refine ⟨fun pins s σ H R I h => ?_⟩
  refine Call_ (ld_blt I hg inW PyProof.Rows.boot_dict ?_)
  refine PyProof.Rows.callWith_type1 ?_ hs rfl
  rw [hs]
  show wpAny _ _ (spliced ((false, eval (.Call (.Name "zip" p2) [e, e2] [] q) X.env) :: backTo pos (starEach [] X.env))) _ _ s
  refine Calls.spliced_cons ?_
  refine Call_ (ld_blt I hg2 hm2 PyProof.Rows.boot_zip (PyProof.Rows.callWith_type1 (thn (ha.run q pins s σ H _ I h) fun us t ⟨vs, H1, J, rel, w⟩ => ?_) star2 plain1))
  obtain ⟨a, b, ks, ys, ev, hx, hy, same, go⟩ := w
  subst ev
  obtain ⟨u1, u2, rfl, q1z, q2z⟩ := vals2 rel
  obtain rfl : u1 = Value.ref a := q1z
  obtain rfl : u2 = Value.ref b := q2z
  obtain ⟨its, rv, t1, few⟩ := J.tuple hx
  obtain ⟨its2, rv2, t2, _⟩ := J.tuple hy
  have l1 := rv.length
  have l2 := rv2.length
  rw [List.length_map] at l1 few
  have la : a < t.heap.objs.size := let ⟨_, z, _⟩ := id t1; Heap.lt_size z
  have lb : b < t.heap.objs.size := let ⟨_, z, _⟩ := id t2; Heap.lt_size z
  refine call_zipT (show t.heap.IsTuple a its.toArray from t1) (show t.heap.IsTuple b its2.toArray from t2) fun h' zz ti to j1 j2 sz hk => ?_
  refine Calls.spliced_nil ?_
  have arg := pairArg_zipT (prog := X.prog) (w := X.w) _ _ _ _ _ a b (PySem.W.ktu_apart t.heap.objs.size a b la lb) its.toArray its2.toArray
  refine PySem.call_dict_pairs (s := { t with heap := h' }) (knd := mixKind X.prog X.w) (kvs := ks.zip its2) arg (J.ok.hd hc) ⟨zz, ti, ⟨_, _, to⟩, j1, j2, (zpart_tuple (prog := X.prog) (w := X.w) (it := a)).src t1 fun o e => hk _ o e, (zpart_tuple (prog := X.prog) (w := X.w) (it := a)).src t2 fun o e => hk _ o e⟩ ⟨?_, fun i key v q => ?_⟩ ?_ fun h2 tk hd kp => ?_
  · rw [List.length_zip, List.size_toArray, List.size_toArray]
    omega
  · obtain ⟨q1, q2⟩ := q
    have q1 : its[i]? = some key := by simpa using q1
    have q2 : its2[i]? = some v := by simpa using q2
    have lt : i < ks.length := by
      have := (List.getElem?_eq_some_iff.mp q1).1
      omega
    refine ⟨ks[i], by rw [List.getElem?_zip_eq_some]; exact ⟨List.getElem?_eq_getElem lt, q2⟩, ?_⟩
    obtain ⟨u, hu, ru⟩ := rv.get (show (ks.map kV)[i]? = some (kV ks[i]) by rw [List.getElem?_map, List.getElem?_eq_getElem lt]; rfl)
    rw [q1] at hu
    cases hu
    exact kV_is ru
  · rw [List.size_toArray, List.size_toArray]
    omega
  · have low : ∀ c o, t.heap.get? c = some o → h2.get? c = some o := fun c o e => kp c o (fun m => by
      have lt := Heap.lt_size e
      simp only [List.mem_cons, List.not_mem_nil, or_false] at m
      rcases m with m | m | m | m
      · exact absurd lt (by rw [m]; exact Nat.not_lt.mpr (Nat.le_add_right _ 4))
      · exact absurd lt (by rw [m]; exact Nat.not_lt.mpr (Nat.le_add_right _ 3))
      · exact absurd lt (by rw [m]; exact Nat.lt_irrefl _)
      · exact absurd lt (by rw [m]; exact Nat.not_lt.mpr (Nat.le_add_right _ 1))) (hk c o e)
    have nS : t.heap.objs.size ≤ h'.objs.size := by rw [sz]; omega
    have room : (mergeK [] (ks.zip ys)).length ≤ sizeLine := by
      have := length_mergeK (ks.zip ys) []
      rw [List.length_zip] at this
      simp only [List.length_nil] at this
      omega
    have sys : (h'.objs.size == sysModules) = false := beq_eq_false_iff_ne.mpr (Nat.ne_of_gt (Nat.lt_of_lt_of_le J.big nS))
    exact ⟨.ref h'.objs.size, upd H1 h'.objs.size (.dK (mergeK [] (ks.zip ys))), J.laid (t' := tk) low nS (show ObjOk X.prog X.w _ _ _ (.dK (mergeK [] (ks.zip ys))) from ⟨room, sys, merged [] (ks.zip its2), KV.merge (kv_zip rv2 same) .nil, hd⟩), rfl, go _ (J.hok.fresh nS)⟩
end RZ
set_option Elab.async false
set_option linter.all false
set_option maxRecDepth 100000
set_option maxHeartbeats 4000000
/-! dict(zip(t, xs)) of a tuple and a list -/
namespace RZ
open PySem PySem.Spec PyProof.Rows L2
theorem zpart_list {prog : Program} {w : World} {it l : Addr} {items : Array Value} : ZPart prog w it l (fun k h => h.IsListIter it l k) (fun h => h.IsList l items) (fun k => items[k]?) where
  at_ := fun a k => a.at k
  src := fun ⟨o, e, r⟩ k => ⟨o, k o e, r⟩
  obj := fun ⟨o, e, _, d⟩ => ⟨o, e, fun v q => by rw [d] at q; cases q⟩
  item := fun a b c h => wpAny_nextOf_list_item a b c h
  fin := fun calm0 a b c h => wpAny_nextOf_list_end calm0 a b c h
abbrev itL (l : Addr) : Obj := { cls := .type "list_iterator", data := .fields #[.ref l, .int 0 0] }
theorem meets_zipTL (l d : Addr) (xs ys : Array Value) :
    Meets (Builtin.«zip.__new__» ⟨[.type "zip", .ref l, .ref d], []⟩) (fun _ R s => (s.heap.IsTuple l xs ∧ s.heap.IsList d ys) ∧
      R (.ok (.ret (.ref (zipAddr s.heap (itT l) (itL d))))) { s with heap := zipHeap s.heap (itT l) (itL d) }) :=
  .of_wp fun prog w A R s h => by
    obtain ⟨hp, gs, dr, tk, os⟩ := s
    obtain ⟨⟨hl, hd⟩, h⟩ := h
    have hsub := sub_zip
    have hL : Heap.IsTuple (Shared.heap ⟨hp, gs, dr, tk, os⟩) l xs := hl
    have hD : Heap.IsList (Shared.heap ⟨hp.push (itT l), gs, dr, tk, os⟩) d ys := Heap.IsList.push hd _
    wp_walk using wpAny_pyIter_tuple hL, wpAny_pyIter_list hD
    exact ⟨_, rfl, h⟩
/-- the argument of dict: a zip of a tuple and a list -/
theorem pairArg_zipTL {prog : Program} {w : World} (z TI TO i1 i2 l1 l2 : Addr) (D : ZipApart z TI TO i1 i2 l1 l2) (xs ys : Array Value) :
    PairArg prog w "zip" z [z, TI, TO, i1, i2, l1, l2] [z, TO, i1, i2] (min xs.size ys.size) (fun i k v => xs[i]? = some k ∧ ys[i]? = some v)
      (fun h => IsZip h z TI TO .none ∧ IsPair h TI (.ref i1) (.ref i2) ∧ (∃ a b, IsPair h TO a b) ∧ h.IsTupleIter i1 l1 0 ∧ h.IsListIter i2 l2 0 ∧ h.IsTuple l1 xs ∧ h.IsList l2 ys) where
  type := fun s ok => ⟨_, ok.1, rfl⟩
  notDict := by decide
  keep := fun h h' ⟨atZ, atI, ⟨a, b, atO⟩, h1, h2, hl1, hl2⟩ hk => ⟨hk _ _ atZ, hk _ _ atI, ⟨a, b, hk _ _ atO⟩, h1.at fun o e => hk _ o e, h2.at fun o e => hk _ o e, (zpart_tuple (prog := prog) (w := w) (it := i1)).src hl1 fun o e => hk _ o e, (zpart_list (prog := prog) (w := w) (it := i2)).src hl2 fun o e => hk _ o e⟩
  there := fun h ⟨atZ, atI, ⟨a, c, atO⟩, ⟨o1, h1, _⟩, ⟨o2, h2, _⟩, ⟨o3, hl1, _⟩, ⟨o4, hl2, _⟩⟩ b hb => by
    simp only [List.mem_cons, List.not_mem_nil, or_false] at hb
    rcases hb with rfl | rfl | rfl | rfl | rfl | rfl | rfl
    all_goals first | exact ⟨_, atZ⟩ | exact ⟨_, atI⟩ | exact ⟨_, atO⟩ | exact ⟨_, h1⟩ | exact ⟨_, h2⟩ | exact ⟨_, hl1⟩ | exact ⟨_, hl2⟩
  sub := fun b hb => by simp at hb ⊢; rcases hb with rfl | rfl | rfl | rfl <;> simp
  noKeys := fun A s Q E hA ok h => getAttrOr_miss_zip ok.1 rfl rfl rfl zip_no_keys (by decide +kernel) hA h
  iter := fun A s d Q E hA ⟨atZ, atI, ⟨a, b, atO⟩, h1, h2, hl1, hl2⟩ hd off h => by
    have p1 : ZPart prog w i1 l1 _ _ _ := zpart_tuple (items := xs)
    have p2 : ZPart prog w i2 l2 _ _ _ := zpart_list (items := ys)
    simp only [List.mem_cons, List.not_mem_nil, or_false, not_or] at off
    obtain ⟨dz, dTI, dTO, di1, di2, dl1, dl2⟩ := off
    refine wpAny_pyIter_zip atZ (h z [z, TO, i1, i2] (fun i h => IsPair h TI (.ref i1) (.ref i2) ∧ h.IsTupleIter i1 l1 i ∧ h.IsListIter i2 l2 i ∧ h.IsTuple l1 xs ∧ h.IsList l2 ys ∧
      ((IsZip h z TI TO .none ∧ ∃ a b, IsPair h TO a b) ∨ ∃ T f oT, IsZipHeld h z TI TO T f ∧ h.get? T = some oT ∧ T ≠ z ∧ T ≠ i1 ∧ T ≠ i2 ∧ T ≠ d)) s.heap s.toks ?_
      ⟨atI, h1, h2, hl1, hl2, .inl ⟨atZ, a, b, atO⟩⟩ (fun _ _ e => e) fun b hb => .inl hb)
    exact {
      off := fun inW => by
        simp only [List.mem_cons, List.not_mem_nil, or_false] at inW
        rcases inW with e | e | e | e
        · exact dz e
        · exact dTO e
        · exact di1 e
        · exact di2 e
      frame := fun i ha hb ⟨atI, h1, h2, hl1, hl2, atZ⟩ hk => by
        refine ⟨hk _ _ (Ne.symm dTI) atI, h1.at fun o e => hk _ o (Ne.symm di1) e, h2.at fun o e => hk _ o (Ne.symm di2) e, p1.src hl1 fun o e => hk _ o (Ne.symm dl1) e, p2.src hl2 fun o e => hk _ o (Ne.symm dl2) e, ?_⟩
        rcases atZ with ⟨atZ, a, b, atO⟩ | ⟨T, f, oT, atZ, isT, q1z, q2z, q3z, q4z⟩
        · exact .inl ⟨hk _ _ (Ne.symm dz) atZ, a, b, hk _ _ (Ne.symm dTO) atO⟩
        · exact .inr ⟨T, f, oT, hk _ _ (Ne.symm dz) atZ, hk _ _ q4z isT, q1z, q2z, q3z, q4z⟩
      item := fun i t Q1 E1 hi ⟨atI, h1, h2, hl1, hl2, atZ⟩ hds kOut => by
        have ex := Array.getElem?_eq_getElem (Nat.lt_of_lt_of_le hi (Nat.min_le_left xs.size ys.size))
        have ey := Array.getElem?_eq_getElem (Nat.lt_of_lt_of_le hi (Nat.min_le_right xs.size ys.size))
        have new : ∀ {c o}, t.heap.get? c = some o → t.heap.objs.size ≠ c := fun e => Nat.ne_of_gt (Heap.lt_size e)
        have n1 : t.heap.objs.size ≠ i1 := let ⟨_, e, _⟩ := h1; new e
        have n2 : t.heap.objs.size ≠ i2 := let ⟨_, e, _⟩ := h2; new e
        rcases atZ with ⟨atZ, a, b, atO⟩ | ⟨T, f, oT, atZ, isT, q1z, q2z, q3z, q4z⟩
        · refine pyNext_zipP_item p1 p2 D atZ atI atO h1 h2 hl1 hl2 ex ey fun h' q1 q2 q3 q4 q5 _ hk => ?_
          exact kOut t.heap.objs.size _ _ h' t.toks ⟨ex, ey⟩ (.inl ⟨_, q5, rfl, _, rfl⟩)
            ⟨hk _ _ D.TIz D.TITO D.TIi1 D.TIi2 atI, q3, q4, p1.src hl1 fun o e => hk _ o D.l1z D.l1TO D.l1i1 D.l1i2 e, p2.src hl2 fun o e => hk _ o D.l2z D.l2TO D.l2i1 D.l2i2 e, .inr ⟨t.heap.objs.size, false, _, q1, q5, new atZ, n1, n2, Nat.ne_of_gt hds⟩⟩
            fun c o hc e => hk c o (fun x => hc (by simp [x])) (fun x => hc (by simp [x])) (fun x => hc (by simp [x])) (fun x => hc (by simp [x])) e
        · refine pyNext_zipP_item_held p1 p2 D atZ isT atI h1 h2 hl1 hl2 ex ey fun h' q1 q3 q4 q5 _ hk => ?_
          exact kOut t.heap.objs.size _ _ h' t.toks ⟨ex, ey⟩ (.inl ⟨_, q5, rfl, _, rfl⟩)
            ⟨hk _ _ D.TIz D.TIi1 D.TIi2 atI, q3, q4, p1.src hl1 fun o e => hk _ o D.l1z D.l1i1 D.l1i2 e, p2.src hl2 fun o e => hk _ o D.l2z D.l2i1 D.l2i2 e, .inr ⟨T, true, oT, q1, hk _ _ q1z q2z q3z isT, q1z, q2z, q3z, q4z⟩⟩
            fun c o hc e => hk c o (fun x => hc (by simp [x])) (fun x => hc (by simp [x])) (fun x => hc (by simp [x])) e
      done := fun t Q1 E1 ⟨atI, h1, h2, hl1, hl2, atZ⟩ kOut => by
        have last : xs[min xs.size ys.size]? = none ∨ ys[min xs.size ys.size]? = none := by
          rcases Nat.le_total xs.size ys.size with h | h
          · exact .inl (Array.getElem?_eq_none (by rw [Nat.min_eq_left h]; exact Nat.le_refl _))
          · exact .inr (Array.getElem?_eq_none (by rw [Nat.min_eq_right h]; exact Nat.le_refl _))
        rcases atZ with ⟨atZ, a, b, atO⟩ | ⟨T, f, oT, atZ, isT, q1z, q2z, q3z, q4z⟩
        · exact pyNext_zipP_end hA p1 p2 D atZ atI atO h1 h2 hl1 hl2 last fun h' hk => kOut h' t.toks fun c o hc e => hk c o (fun x => hc (by simp [x])) (fun x => hc (by simp [x])) (fun x => hc (by simp [x])) (fun x => hc (by simp [x])) e
        · exact pyNext_zipP_end_held hA p1 p2 D atZ isT atI h1 h2 hl1 hl2 last fun h' hk => kOut h' t.toks fun c o hc e => hk c o (fun x => hc (by simp [x])) (fun x => hc (by simp [x])) (fun x => hc (by simp [x])) e }
/-- dict(zip(t, xs)) of a tuple and a list, the keys ints or texts -/
def rDictZipL (K : PySem.W.Frag) : List V → Hp → VK → Prop := fun vs H Q => ∃ (a b : Addr) (ks : List Key) (ys : List V), vs = [.ref a, .ref b] ∧ SqT K H a (ks.map kV) ∧ SqL K H b ys ∧ ys.length = ks.length ∧ ∀ p, H p = none → Q (.ref p) (upd H p (.dK (mergeK [] (ks.zip ys))))
def tDictZipL (K : PySem.W.Frag) (ta : TA) : TE := fun σ H Q => ta σ H fun vs H1 => rDictZipL K vs H1 Q
theorem pe_dictZipL {X : Cx} {e e2 : Expr} {ta : TA} {p p2 q pos : Pos} (hc : X.calm = true) (hg : Gl X "dict") (inW : X.mg "dict" = none) (hg2 : Gl X "zip") (hm2 : X.mg "zip" = none) (ha : PA X [e, e2] ta)
    (hs : starEach [.Call (.Name "zip" p2) [e, e2] [] q] X.env = (false, eval (.Call (.Name "zip" p2) [e, e2] [] q) X.env) :: starEach [] X.env := by rfl)
    (star2 : starEach [e, e2] X.env = (false, eval e X.env) :: starEach [e2] X.env := by rfl) (plain1 : (backTo q (starEach [e2] X.env)).any (·.1) = false := by rfl) :
    PE X (.Call (.Name "dict" p) [.Call (.Name "zip" p2) [e, e2] [] q] [] pos) (tDictZipL X.K ta) := by
  refine ⟨fun pins s σ H R I h => ?_⟩
  refine Call_ (ld_blt I hg inW PyProof.Rows.boot_dict ?_)
  refine PyProof.Rows.callWith_type1 ?_ hs rfl
  rw [hs]
  show wpAny _ _ (spliced ((false, eval (.Call (.Name "zip" p2) [e, e2] [] q) X.env) :: backTo pos (starEach [] X.env))) _ _ s
  refine Calls.spliced_cons ?_
  refine Call_ (ld_blt I hg2 hm2 PyProof.Rows.boot_zip (PyProof.Rows.callWith_type1 (thn (ha.run q pins s σ H _ I h) fun us t ⟨vs, H1, J, rel, w⟩ => ?_) star2 plain1))
  obtain ⟨a, b, ks, ys, ev, hx, hy, same, go⟩ := w
  subst ev
  obtain ⟨u1, u2, rfl, q1z, q2z⟩ := vals2 rel
  obtain rfl : u1 = Value.ref a := q1z
  obtain rfl : u2 = Value.ref b := q2z
  obtain ⟨its, rv, t1, few⟩ := J.tuple hx
  obtain ⟨its2, rv2, t2, _⟩ := J.list hy
  have l1 := rv.length
  have l2 := rv2.length
  rw [List.length_map] at l1 few
  have la : a < t.heap.objs.size := let ⟨_, z, _⟩ := id t1; Heap.lt_size z
  have lb : b < t.heap.objs.size := let ⟨_, z, _⟩ := id t2.isList; Heap.lt_size z
  refine call_zipO (o1 := itT a) (o2 := itL b) rfl rfl (meets_zipTL a b its.toArray its2.toArray) ⟨show t.heap.IsTuple a its.toArray from t1, show t.heap.IsList b its2.toArray from t2.isList⟩ fun h' zz ti to j1 j2 hk => ?_
  refine Calls.spliced_nil ?_
  have arg := pairArg_zipTL (prog := X.prog) (w := X.w) _ _ _ _ _ a b (PySem.W.ktu_apart t.heap.objs.size a b la lb) its.toArray its2.toArray
  refine PySem.call_dict_pairs (s := { t with heap := h' }) (knd := mixKind X.prog X.w) (kvs := ks.zip its2) arg (J.ok.hd hc) ⟨zz, ti, ⟨_, _, to⟩, ⟨_, j1, rfl, rfl⟩, ⟨_, j2, rfl, rfl⟩, (zpart_tuple (prog := X.prog) (w := X.w) (it := a)).src t1 fun o e => hk _ o e, (zpart_list (prog := X.prog) (w := X.w) (it := a)).src t2.isList fun o e => hk _ o e⟩ ⟨?_, fun i key v q => ?_⟩ ?_ fun h2 tk hd kp => ?_
  · rw [List.length_zip, List.size_toArray, List.size_toArray]
    omega
  · obtain ⟨q1, q2⟩ := q
    have q1 : its[i]? = some key := by simpa using q1
    have q2 : its2[i]? = some v := by simpa using q2
    have lt : i < ks.length := by
      have := (List.getElem?_eq_some_iff.mp q1).1
      omega
    refine ⟨ks[i], by rw [List.getElem?_zip_eq_some]; exact ⟨List.getElem?_eq_getElem lt, q2⟩, ?_⟩
    obtain ⟨u, hu, ru⟩ := rv.get (show (ks.map kV)[i]? = some (kV ks[i]) by rw [List.getElem?_map, List.getElem?_eq_getElem lt]; rfl)
    rw [q1] at hu
    cases hu
    exact kV_is ru
  · rw [List.size_toArray, List.size_toArray]
    omega
  · have low : ∀ c o, t.heap.get? c = some o → h2.get? c = some o := fun c o e => kp c o (fun m => by
      have lt := Heap.lt_size e
      simp only [List.mem_cons, List.not_mem_nil, or_false] at m
      rcases m with m | m | m | m
      · exact absurd lt (by rw [m]; exact Nat.not_lt.mpr (Nat.le_add_right _ 4))
      · exact absurd lt (by rw [m]; exact Nat.not_lt.mpr (Nat.le_add_right _ 3))
      · exact absurd lt (by rw [m]; exact Nat.lt_irrefl _)
      · exact absurd lt (by rw [m]; exact Nat.not_lt.mpr (Nat.le_add_right _ 1))) (hk c o e)
    have nS : t.heap.objs.size ≤ h'.objs.size := by have q : t.heap.objs.size + 4 < h'.objs.size := Heap.lt_size zz; omega
    have room : (mergeK [] (ks.zip ys)).length ≤ sizeLine := by
      have := length_mergeK (ks.zip ys) []
      rw [List.length_zip] at this
      simp only [List.length_nil] at this
      omega
    have sys : (h'.objs.size == sysModules) = false := beq_eq_false_iff_ne.mpr (Nat.ne_of_gt (Nat.lt_of_lt_of_le J.big nS))
    exact ⟨.ref h'.objs.size, upd H1 h'.objs.size (.dK (mergeK [] (ks.zip ys))), J.laid (t' := tk) low nS (show ObjOk X.prog X.w _ _ _ (.dK (mergeK [] (ks.zip ys))) from ⟨room, sys, merged [] (ks.zip its2), KV.merge (kv_zip rv2 same) .nil, hd⟩), rfl, go _ (J.hok.fresh nS)⟩
end RZ
set_option Elab.async false
set_option linter.all false
set_option maxRecDepth 100000
set_option maxHeartbeats 4000000
/-! a, *b = a list; enumerate(a list, start=k) -/
namespace Q
open PySem PySem.Spec PyProof.Rows L2 PySem.W
section
variable {prog : Program} {w : World} {A : Around} {E : Value → Shared → Prop} {s : Shared}
theorem head_rest {l : Addr} {items : Array Value} {x : Value} {xs : List Value} {Q : List Value → Shared → Prop} (isL : s.heap.IsList l items) (calm0 : A.handled = none) (ei : items.toList = x :: xs) (few : items.size ≤ 10000)
    (next : ∀ (hb : Heap) (tk : Nat), (∀ b o, s.heap.get? b = some o → hb.get? b = some o) → Q [x, .ref hb.objs.size] { s with heap := hb.push { cls := .type "list", data := .seq xs.toArray }, toks := tk }) :
    wpAny (model prog w) A (unpackItems (.ref l) 2 (some 1)) Q E s := by
  have nl : l ≠ s.heap.objs.size := let ⟨_, q, _⟩ := isL; Nat.ne_of_lt (Heap.lt_size q)
  have sz : items.size = xs.length + 1 := by rw [← Array.length_toList, ei, List.length_cons]
  unfold unpackItems notIterableAtAll
  refine wpAny_bind (wpAny_bind (wpAny_specialOf isL.typeIs slot_list_iter.lookup (wpAny_pure ?_)))
  rw [if_neg (by simp)]
  refine wpAny_bind (wpAny_holding (wpAny_pyIter_list isL (wpAny_bind (wpAny_holding ?_))))
  refine kun_draw nl 1 0 _ _ ⟨_, Heap.get?_push_size _ rfl, rfl, rfl⟩ (isL.push _) (by omega) fun ha ita sa => ?_
  have la : ha.IsList l items := (isL.push _).extBut sa.extBut nl
  have e1 : (items.toList.drop 0).take 1 = [x] := by rw [ei]; rfl
  rw [e1, if_neg (by simp)]
  have l1 : s.heap.objs.size < ha.objs.size := let ⟨_, q, _⟩ := ita; Heap.lt_size q
  have l2 : l < ha.objs.size := let ⟨_, q, _⟩ := la; Heap.lt_size q
  refine wpAny_bind (wpAny_holding (kun_collect (items := items) (s := { s with heap := ha }) (St := fun k h => h.IsListIter s.heap.objs.size l k ∧ h.IsList l items) (.inr (.inr (.inl rfl))) (Walks.list (A := A.in1) calm0 _ l nl items) (fun j u st => st.1.typeIs) (k := 1) (by omega) ⟨ita, la⟩ l1 l2 (fun hb tk kb => ?_) (by rw [sizeLine_eq]; omega)))
  have e2 : items.toList.drop 1 = xs := by rw [ei]; rfl
  rw [e2]
  dsimp only
  rw [if_neg (by omega)]
  rw [show xs.length - (2 - 1 - 1) = xs.length by omega, List.take_length, List.drop_length]
  refine wpAny_bind (wpAny_newList (wpAny_pure ?_) (by rw [sizeLine_eq]; omega))
  have up : ∀ b o, s.heap.get? b = some o → hb.get? b = some o := fun b o q => kb b o (fun z => by rw [z] at q; exact absurd (Heap.lt_size q) (Nat.lt_irrefl _)) (sa.extBut b o (fun z => by rw [z] at q; exact absurd (Heap.lt_size q) (Nat.lt_irrefl _)) (Heap.get?_push_of_some _ q))
  exact next hb tk up
end
def gHd (K : PySem.W.Frag) (t1 t2 : TG) : TG := fun v σ H Q => ∃ a x xs, v = .ref a ∧ SqL K H a (x :: xs) ∧ xs.length ≤ 9000 ∧ ∀ p, H p = none → t1 x σ (upd H p (.lst xs)) fun σ1 H1 => t2 (.ref p) σ1 H1 Q
theorem pg_hd {X : Cx} {e1 e2 : Expr} {k : Nat} {pos sp : Pos} {t1 t2 : TG} (hc : X.calm = true) (h1 : PG X e1 t1) (h2 : PG X e2 t2)
    (hs : assignEach [e1, .Starred e2 sp] X.env = [(false, assign e1 X.env), (true, assign e2 X.env)] := by rfl) : PG X (.Tuple [e1, .Starred e2 sp] k pos) (gHd X.K t1 t2) := by
  refine ⟨fun pins s σ H v u Q I r h => ?_⟩
  obtain ⟨a, x, xs, rfl, hq, few, h⟩ := h
  obtain rfl : u = Value.ref a := r
  obtain ⟨its, rv, pl, _⟩ := I.list hq
  cases rv with
  | @cons _ y _ ys rx rxs =>
    rw [PyProof.Rows.assign_Tuple]
    refine wpAny_bind (wpAny_standAt ?_)
    unfold unpack
    rw [hs]
    refine wpAny_bind (wpAny_holding (head_rest pl.isList (I.ok.hd hc) (x := y) (xs := ys) rfl (by have := rxs.length; rw [List.size_toArray, List.length_cons]; omega) fun hb tk up => ?_))
    have nD : H hb.objs.size = none := by
      cases e : H hb.objs.size with
      | none => rfl
      | some o => exact absurd ((I.hok.kept up).lt e) (Nat.lt_irrefl _)
    have hD : s.heap.get? hb.objs.size = none := by
      cases e : s.heap.get? hb.objs.size with
      | none => rfl
      | some o => exact absurd (Heap.lt_size (up _ _ e)) (Nat.lt_irrefl _)
    have I1 : Inv X pins σ (upd H hb.objs.size (.lst xs)) { s with heap := hb.push { cls := .type "list", data := .seq ys.toArray }, toks := tk } :=
      I.laidN (fun b o q => Heap.get?_push_of_some _ (up b o q)) hD nD ⟨by rw [sizeLine_eq]; omega, ys, 0, rxs, Heap.get?_push_size _ rfl⟩
    show wpAny _ _ (assignInOrder [assign e1 X.env, assign e2 X.env] [y, .ref hb.objs.size]) _ _ _
    refine assignInOrder_cons (thn (h1.run pins _ σ _ _ _ _ I1 rx (h _ nD)) fun _ s1 ⟨σ1, H1, J, q1⟩ => ?_)
    refine assignInOrder_cons (thn (h2.run pins s1 σ1 H1 (V.ref hb.objs.size) (Value.ref hb.objs.size) _ J rfl q1) fun _ s2 ⟨σ2, H2, J2, q2⟩ => ?_)
    exact wpAny_pure ⟨σ2, H2, J2, q2⟩
/-! enumerate(a list, start=k) -/
theorem draws_from {prog : Program} {w : World} {A : Around} (hh : A.handled = none) (it l : Addr) (nl : l ≠ it) (items : Array Value) (k : Nat) :
    Draws prog w A it [it, l] (k + items.size) (fun i v => ∃ j, i = k + j ∧ items[j]? = some v) (fun i h => ∃ j, i = k + j ∧ h.IsListIter it l j ∧ h.IsList l items) where
  live := fun i h ⟨j, _, st⟩ => (Draws.list (prog := prog) (w := w) hh it l nl items).live j h st
  frame := fun i h h' ⟨j, e, st⟩ kp => ⟨j, e, (Draws.list (prog := prog) (w := w) hh it l nl items).frame j h h' st kp⟩
  item := fun i s Q E hi ⟨j, e, st⟩ q => (Draws.list (prog := prog) (w := w) hh it l nl items).item j s Q E (by omega) st fun v h' tk hp st2 sb => q v h' tk ⟨j, e, hp⟩ ⟨j + 1, by omega, st2⟩ sb
  done := fun s Q E ⟨j, e, st⟩ q => (Draws.list (prog := prog) (w := w) hh it l nl items).done s Q E (by
    have z : j = items.size := by omega
    rw [← z]
    exact st) q
/-- the list at a as it stands at each turn, each item in a new pair with its number from k on -/
def ItS (K : PySem.W.Frag) (a : Addr) (k : Nat) : It where
  go := fun i H => ∃ (xs : List V) (x : V), SqL K H a xs ∧ xs[i]? = some x
  yld := fun i H v H' => ∃ T x, v = .ref T ∧ H T = none ∧ H' = upd H T (.tup [.int ((k + i : Nat) : Int), x]) ∧ ∀ xs, SqL K H a xs → xs[i]? = some x
  stop := fun i H => ∃ xs : List V, SqL K H a xs ∧ i = xs.length
theorem turn_enumS {P : Program} {w : World} {K : PySem.W.Frag} {elts : List Expr} {kk : Nat} {tpos : Pos} (a e it : Addr) (k : Nat) :
    Turn P w K (.Tuple elts kk tpos) (ItS K a k) [e, it] e (fun i h => (∃ old, IsEnum h e it ((k + i : Nat) : Int) old) ∧ h.IsListIter it a i ∧ e ≠ it ∧ a ≠ it ∧ a ≠ e) where
  mem := List.mem_cons_self
  obj := fun i h st b hb => by
    obtain ⟨⟨old, ie⟩, ⟨o, q, _, d⟩, _⟩ := st
    rcases List.mem_cons.mp hb with z | z
    · rw [z]
      exact ⟨_, ie, fun v y => nomatch y⟩
    · rw [List.mem_singleton.mp z]
      exact ⟨o, q, fun v y => by rw [d] at y; cases y⟩
  keep := fun i h h' st kp => by
    obtain ⟨⟨old, ie⟩, ⟨o, q, r⟩, ne⟩ := st
    exact ⟨⟨old, kp e (by simp) _ ie⟩, ⟨o, kp it (by simp) o q, r⟩, ne⟩
  item := by
    intro X e1 e2 e3 hc i pins s σ H E I hf st hg
    subst e1 e2 e3
    obtain ⟨⟨old, ie⟩, ti, ne, ne2, ne3⟩ := st
    obtain ⟨xs, x, hq, hx⟩ := hg
    obtain ⟨its, rv, pl, _⟩ := I.list hq
    obtain ⟨u, hu, ru⟩ := rv.get hx
    have le : e < s.heap.objs.size := Heap.lt_size ie
    have lit : it < s.heap.objs.size := let ⟨_, q, _⟩ := ti; Heap.lt_size q
    have lt : i < its.toArray.size := by
      have := (List.getElem?_eq_some_iff.mp hu).1
      rw [List.size_toArray]
      exact this
    have hh : X.A.in1.handled = none := I.ok.hd hc
    refine wpAny_pyNext_enum_itemD (draws_from hh it a ne2 its.toArray k) ie ⟨i, rfl, ti, pl.isList⟩ (by omega) ne (by
      simp only [List.mem_cons, List.not_mem_nil, or_false, not_or]
      exact ⟨ne, fun z => ne3 z.symm⟩) fun u2 h' tk pu io st2 hT _ hk => ?_
    obtain ⟨j, ej, ti2, _⟩ := st2
    obtain rfl : i + 1 = j := by omega
    obtain rfl : u2 = u := by
      obtain ⟨j2, e2, pu⟩ := pu
      obtain rfl : i = j2 := by omega
      have q : its[i]? = some u2 := by simpa using pu
      rw [hu] at q
      exact (Option.some.inj q).symm
    refine ⟨_, rfl, wpAny_letOwnedTupleGo_enum (s := { s with heap := h', toks := tk + 1 }) io fun h'' ie2 sb => ?_⟩
    have hT2 : h''.get? s.heap.objs.size = some { cls := .type "tuple", data := .seq #[.int ((k + i : Nat) : Int) tk, u2] } := (sb.2 _ (Nat.ne_of_gt le)).trans hT
    have new : ObjOk X.prog X.w (upd H s.heap.objs.size (.tup [.int ((k + i : Nat) : Int), x])) h'' s.heap.objs.size (.tup [.int ((k + i : Nat) : Int), x]) :=
      ⟨by show 2 ≤ sizeLine; decide, [.int ((k + i : Nat) : Int) tk, u2], .cons ⟨_, rfl⟩ (.cons ru .nil), ⟨_, hT2, rfl, _, rfl⟩⟩
    have I1 : Inv X pins σ (upd H s.heap.objs.size (.tup [.int ((k + i : Nat) : Int), x])) { s with heap := h'', toks := tk + 1 } :=
      I.turnedNew (ch := [e, it]) (fun b o nb q => (sb.2 b fun z => nb (by simp [z])).trans (hk b o (fun z => nb (by simp [z])) (fun z => nb (by simp [z])) q)) hf (Nat.le_refl _) new
    refine ⟨.ref s.heap.objs.size, _, I1, rfl, ⟨_, x, rfl, I.hok.fresh (Nat.le_refl _), rfl, fun ys hy => by rw [I.list_inj hy hq]; exact hx⟩, ⟨⟨u2, ?_⟩, ti2.at fun o q => (sb.2 it (Ne.symm ne)).trans q, ne, ne2, ne3⟩, fun b hb => ?_⟩
    · rw [show ((k + (i + 1) : Nat) : Int) = ((k + i : Nat) : Int) + 1 by omega]
      exact ie2
    · have lb : b < s.heap.objs.size := by
        rcases List.mem_cons.mp hb with z | z
        · rw [z]; exact le
        · rw [List.mem_singleton.mp z]; exact lit
      rw [upd_ne (Nat.ne_of_lt lb)]
      exact (hf b hb).1
  done := by
    intro X e1 e2 e3 hc i pins s σ H E I hf st hg
    subst e1 e2 e3
    obtain ⟨⟨old, ie⟩, ti, ne, ne2, ne3⟩ := st
    obtain ⟨xs, hq, hx⟩ := hg
    obtain ⟨its, rv, pl, _⟩ := I.list hq
    obtain ⟨f0, f1, f2, f3, f4, f5⟩ := hf it (by simp)
    have hl := rv.length
    subst hx
    have hh : X.A.in1.handled = none := I.ok.hd hc
    exact wpAny_pyNext_enum_endD (draws_from hh it a ne2 its.toArray k) ie ⟨_, by rw [List.size_toArray, hl], ti, pl.isList⟩ fun h' eb => ⟨rfl, I.turned (t' := s.toks) (fun b o hb q => eb b o hb q) f0 f1 f3 f4 f5⟩
  self := fun A i s Q E st h => by
    obtain ⟨⟨_, ie⟩, _⟩ := st
    exact wpAny_pyIter_enum ie h
theorem type_kw {M : Model} {A : Around} {E : Value → Shared → Prop} {s : Shared} {pos : Pos} {T : String} {args : List (Bool × Sem Value)} {kws : List (Option Str × Sem Value)} {Q : Value → Shared → Prop} (pl : args.any (·.1) = false) (nm : kws.any (·.1.isNone) = false)
    (h : wpAny M A (evalArgs (.type T) true args kws) (fun a t => wpAny M A (call (.type T) a.pos a.kw) Q E t) E s) : wpAny M A (callWith pos (.type T) [] args kws) Q E s := by
  unfold callWith
  refine wpAny_bind (wpAny_holding (wpAny_mono h (fun a t q => wpAny_bind (wpAny_standAt ?_)) fun _ _ z => z))
  simp only [pl, nm, Bool.or_false]
  exact wpAny_bind (wpAny_pure (wpAny_bind (wpAny_mono q (fun r t2 q2 => wpAny_bind (wpAny_holding (wpAny_point (wpAny_pure q2)))) fun _ _ z => z)))
theorem walk_enumS {K : PySem.W.Frag} {a : Addr} {k : Nat} {xs : List V} : Walk (ItS K a k) xs.length (fun H => SqL K H a xs) (YPair (fun i => some (.int ((k + i : Nat) : Int))) (fun i => xs[i]?)) := by
  refine ⟨fun i _ hi q => ⟨xs, xs[i], q, by simp [hi]⟩, fun _ q => ⟨xs, q, rfl⟩, fun i H v H' _ q y => ?_⟩
  obtain ⟨T, x, h1, h2, h3, h4⟩ := y
  exact ⟨T, _, x, h1, h2, h3, rfl, h4 xs q⟩
def iEnumS (K : PySem.W.Frag) (t tk : TA) : TI := fun σ H R => t σ H fun vs H1 => tk σ H1 fun zs H2 => ∃ (a : Addr) (xs : List V) (k : Nat), vs = [.ref a] ∧ zs = [.int (k : Int)] ∧ k < 1000 ∧ SqL K H2 a xs ∧ R (ItS K a k) H2
theorem pi_enumS {X : Cx} {e : Expr} {kws : List Keyword} {t tk : TA} {p pos tpos : Pos} {elts : List Expr} {kk : Nat} (hg : Gl X "enumerate") (hm : X.mg "enumerate" = none) (ha : PA X [e] t) (hk : PK X kws tk)
    (st : backTo pos (starEach [e] X.env) = (false, eval e X.env) :: backTo pos (starEach [] X.env) := by rfl) (pl : (backTo pos (starEach [e] X.env)).any (·.1) = false := by rfl)
    (all : (backToKw pos (keywordEach kws X.env)).all (·.1.isSome) = true := by rfl) (nm : (backToKw pos (keywordEach kws X.env)).any (·.1.isNone) = false := by rfl) (ns : (backToKw pos (keywordEach kws X.env)).filterMap (·.1) = [Str.ofString "start"] := by rfl) :
    PI X (.Tuple elts kk tpos) (.Call (.Name "enumerate" p) [e] kws pos) (iEnumS X.K t tk) := by
  refine ⟨fun pins s σ H R I h => ?_⟩
  refine wpAny_Call_Name_kw (ld_blt I hg hm boot_enumerate (type_kw pl nm ?_))
  rw [st]
  refine evalArgs_kwB all ?_
  rw [← st]
  refine thn (ha.run pos pins s σ H _ I h) fun us s1 ⟨vs, H1, I1, r1, q1⟩ => thn (hk.run pos pins s1 σ H1 _ I1 q1) fun ws s2 ⟨zs, H2, I2, r2, q2⟩ => ?_
  obtain ⟨a, xs, k, rfl, rfl, lk, hq, q⟩ := q2
  rw [ns, Vals.ref1 r1]
  obtain ⟨w1, rfl, tk, rfl⟩ : ∃ w1, ws = [w1] ∧ ∃ tk, w1 = .int (k : Int) tk := by
    cases r2 with
    | cons r rr =>
      cases rr
      obtain ⟨tk, rfl⟩ := r
      exact ⟨_, rfl, _, rfl⟩
  obtain ⟨its, rv, pl2, _⟩ := I2.list hq
  have la : a < s2.heap.objs.size := let ⟨_, q, _⟩ := pl2.isList; Heap.lt_size q
  show wpAny _ _ (call (.type "enumerate") [.ref a] [(Str.ofString "start", .int (k : Int) tk)]) _ _ _
  refine enum_begins_start (begins_list a its.toArray) pl2.isList (by omega) (by omega) fun h' ie ti _ up => wpAny_pyIter_enum ie ?_
  have I3 : Inv X pins σ H2 { s2 with heap := h' } := I2.kept (t' := s2.toks) up
  refine ⟨s2.heap.objs.size + 1, [s2.heap.objs.size + 1, s2.heap.objs.size], _, _, H2, rfl, I3, turn_enumS a (s2.heap.objs.size + 1) s2.heap.objs.size k,
    ⟨⟨.none, ie⟩, ⟨_, ti, rfl, rfl⟩, Nat.succ_ne_self _, Nat.ne_of_lt la, Nat.ne_of_lt (Nat.lt_succ_of_lt la)⟩, fun b hb => ?_, q⟩
  have le : s2.heap.objs.size ≤ b := by
    rcases List.mem_cons.mp hb with z | z
    · rw [z]; exact Nat.le_succ _
    · rw [List.mem_singleton.mp z]; exact Nat.le_refl _
  exact I2.fpOk le (I2.hok.fresh le)
end Q
set_option Elab.async false
set_option linter.all false
set_option maxRecDepth 100000
set_option maxHeartbeats 400000
/-! A dict of the module, texts to texts: what stands in it, and d.get(text). -/
namespace RZ
open PySem PySem.Spec PyProof.Rows L2
/-- the entries tell these pairs -/
inductive Pairs (P : Params) : List DictEntry → List (Str × Str) → Prop
  | nil : Pairs P [] []
  | cons {e : DictEntry} {es : List DictEntry} {k v : Str} {t u : Tok} {kvs : List (Str × Str)} (h1 : e.key = .str k t) (h2 : e.hash = PyData.keyHash P k) (h3 : e.val = .str v u) (r : Pairs P es kvs) : Pairs P (e :: es) ((k, v) :: kvs)
theorem Pairs.lit {P : Params} {es : List DictEntry} {kvs : List (Str × Str)} (h : Pairs P es kvs) : PySem.W.KeysLit P es := by
  induction h with
  | nil => trivial
  | cons h1 h2 _ _ ih => exact ⟨⟨_, _, h1, h2⟩, ih⟩
theorem Pairs.free {P : Params} {es : List DictEntry} {kvs : List (Str × Str)} (h : Pairs P es kvs) : es.any (·.refKey) = false := by
  induction h with
  | nil => rfl
  | @cons e es k v t u kvs h1 h2 _ _ ih =>
    rw [List.any_cons, ih, Bool.or_false]
    unfold DictEntry.refKey
    rw [h1]
theorem Pairs.find {P : Params} {es : List DictEntry} {kvs : List (Str × Str)} (h : Pairs P es kvs) (z : Str) : (∀ v, kvs.lookup z = some v → ∃ e u, es.find? (·.key.isStr z) = some e ∧ e.val = .str v u) ∧ (kvs.lookup z = none → es.find? (·.key.isStr z) = none) := by
  induction h with
  | nil => exact ⟨fun v q => (nomatch q), fun _ => rfl⟩
  | @cons e es k v t u kvs h1 h2 h3 _ ih =>
    have e1 : e.key.isStr z = (k == z) := by rw [h1]; rfl
    by_cases q : z = k
    · subst q
      have e2 : e.key.isStr z = true := by rw [e1]; simp
      constructor
      · intro v' hv
        rw [List.lookup_cons_self] at hv
        injection hv with hv
        exact ⟨e, u, by rw [List.find?_cons, e2], by rw [h3, hv]⟩
      · intro hv
        rw [List.lookup_cons_self] at hv
        cases hv
    · have e2 : e.key.isStr z = false := by rw [e1, beq_eq_false_iff_ne]; exact Ne.symm q
      have e3 : List.lookup z ((k, v) :: kvs) = kvs.lookup z := by
        have n : (z == k) = false := by rw [beq_eq_false_iff_ne]; exact q
        rw [List.lookup_cons, n]
      rw [e3]
      constructor
      · intro v' hv
        obtain ⟨e', u', w1, w2⟩ := ih.1 v' hv
        exact ⟨e', u', by rw [List.find?_cons, e2]; exact w1, w2⟩
      · intro hv
        rw [List.find?_cons, e2]
        exact ih.2 hv
/-- at d, in the frozen part: a dict with these pairs -/
def KTab (K : PySem.W.Frag) (w : World) (d : Addr) (kvs : List (Str × Str)) : Prop := ∃ es n, K.lookup d = some ⟨.type "dict", none, .dict es n, #[]⟩ ∧ (d == sysModules) = false ∧ Pairs w.params es.toList kvs
theorem KTab.ns {K : PySem.W.Frag} {w : World} {d : Addr} {kvs : List (Str × Str)} (h : KTab K w d kvs) (z : Str) : ∃ r, PySem.W.nsIn K d z = some r ∧ (∀ v, kvs.lookup z = some v → ∃ u, r = some (.str v u)) ∧ (kvs.lookup z = none → r = none) := by
  obtain ⟨es, n, l, _, p⟩ := h
  obtain ⟨f1, f2⟩ := p.find z
  unfold PySem.W.nsIn
  rw [l]
  cases e : kvs.lookup z with
  | none =>
    refine ⟨none, ?_, fun v q => (nomatch q), fun _ => rfl⟩
    show (match es.toList.find? (·.key.isStr z) with | some e => _ | none => _) = _
    rw [f2 e]
    show (if es.toList.any (·.refKey) then none else some none) = _
    rw [p.free]
    rfl
  | some v =>
    obtain ⟨en, u, w1, w2⟩ := f1 v e
    refine ⟨some (.str v u), ?_, fun v' q => ?_, fun q => (nomatch q)⟩
    · show (match es.toList.find? (·.key.isStr z) with | some e => _ | none => _) = _
      rw [w1]
      show some (some en.val) = _
      rw [w2]
    · injection q with q
      rw [← q]
      exact ⟨u, rfl⟩
/-- the text at a text, or None -/
def valT (kvs : List (Str × Str)) (z : Str) : V := match kvs.lookup z with
  | some v => .str v
  | none => .non
def tGetT (kvs : List (Str × Str)) (ty : TE) : TE := fun σ H Q => ty σ H fun y H1 => ∃ z, y = .str z ∧ Q (valT kvs z) H1
section
variable {X : Cx} {o e : Expr} {apos cpos : Pos} {td ty : TE} {d : Addr} {kvs : List (Str × Str)}
/-- D.get(text), D a name of the module -/
theorem pe_getT (ho : PE X o (fun σ H Q => Q (.ref d) H)) (D : KTab X.K X.w d kvs) (he : PE X e ty) (m : M1 X o "get" apos e cpos) :
    PE X (.Call (.Attribute o "get" apos) [e] [] cpos) (tGetT kvs ty) := by
  refine ⟨fun pins s σ H Q I h => ?_⟩
  refine wpAny_Call_method m.base m.few m.line PySem.F.plainAttrs_dict PySem.F.slot_dict_get PySem.F.type_dict_get (thn (ho.run pins s σ H (fun x H' => x = V.ref d ∧ H' = H) I ⟨rfl, rfl⟩) fun u s1 ⟨x, H1, I1, rx, ex, eh⟩ => ?_)
  subst ex
  subst eh
  obtain rfl : u = Value.ref d := rx
  obtain ⟨es, n, l, low, p⟩ := id D
  have hm := PySem.W.mapOf_K (prog := X.prog) (w := X.w) I1.kIn l p.lit
  refine ⟨hm.typeIs, ?_, ?_⟩
  · intro a q
    injection q with q
    subst q
    exact ⟨_, I1.kIn _ _ l, rfl⟩
  rw [m.trees]
  refine Calls.callWith_builtin rfl (Calls.evalArgs_plain (Calls.spliced_cons (thn (he.run pins s1 σ H1 _ I1 h) fun iv s2 ⟨y, H2, I2, ry, z, ez, q2⟩ => Calls.spliced_nil ?_)))
  subst ez
  obtain ⟨t, rfl⟩ := ry
  obtain ⟨r, hr, r1, r2⟩ := D.ns z
  have hm2 := PySem.W.mapOf_K (prog := X.prog) (w := X.w) I2.kIn l p.lit
  refine call_meetsIn PySem.F.slot_dict_get hm2.typeIs PySem.F.entry_dict_get (PySem.F.args_dict_get_2 _ _) (meets_dict_get (strKind X.prog X.w) d (strKind_is X.prog X.w z t) low) ⟨_, hm2, ⟨valT kvs z, H2, I2.tok _, ?_, q2⟩⟩
  rw [PySem.W.find_K l hr]
  unfold valT
  cases e : kvs.lookup z with
  | none =>
    rw [r2 e]
    rfl
  | some v =>
    obtain ⟨u, eu⟩ := r1 v e
    rw [eu]
    exact ⟨u, rfl⟩
end
end RZ
set_option Elab.async false
set_option linter.all false
set_option maxRecDepth 100000
set_option maxHeartbeats 1000000
/-! zip of a list or tuple and a text, either way round, in a loop with two targets. -/
namespace RZ
open PySem PySem.Spec PyProof.Rows L2
/-- one side of a zip, drawn from -/
structure DSide (P : Program) (w : World) (K : PySem.W.Frag) (it : Addr) (fs : List Addr) (n : Nat) (At : Nat → Heap → Prop) (Hs : Hp → Prop) (vs : Nat → Option V) : Prop where
  at_ : ∀ {k : Nat} {h h' : Heap}, At k h → (∀ o, h.get? it = some o → h'.get? it = some o) → At k h'
  obj : ∀ {k : Nat} {h : Heap}, At k h → ∃ o, h.get? it = some o ∧ ∀ v, o.data ≠ .cell v
  lt : ∀ {i : Nat} {x : V}, vs i = some x → i < n
  fin : ∀ {i : Nat}, vs i = none → n ≤ i
  side : ∀ (X : Cx), X.prog = P → X.w = w → X.K = K → X.A.in1.handled = none → ∀ (pins : List (Addr × Obj)) (σ : L2.St) (H : Hp) (s : Shared), Inv X pins σ H s → Hs H → ∃ (S : Heap → Prop) (P1 : Nat → Value → Prop),
    Draws P w X.A.in1 it (it :: fs) n P1 (fun i h => At i h ∧ S h) ∧ S s.heap ∧ ∀ i v, P1 i v → ∃ x, vs i = some x ∧ RelV x v
theorem turn_zipD {P : Program} {w : World} {K : PySem.W.Frag} {elts : List Expr} {kk : Nat} {tpos : Pos} {f1 f2 : List Addr} {z TI TO i1 i2 : Addr} {n1 n2 : Nat} {At1 At2 : Nat → Heap → Prop} {A B : Hp → Prop} {xs ys : Nat → Option V} (D : ZipSep2 z TI TO i1 i2 (i1 :: f1) (i2 :: f2))
    (s1 : DSide P w K i1 f1 n1 At1 A xs) (s2 : DSide P w K i2 f2 n2 At2 B ys) :
    Turn P w K (.Tuple elts kk tpos) (ItzP A B xs ys) [z, TI, TO, i1, i2] z (fun i h => (i ≤ n1 ∧ i ≤ n2) ∧ IsZip h z TI TO .none ∧ IsPair h TI (.ref i1) (.ref i2) ∧ (∃ x y, IsPair h TO x y) ∧ At1 i h ∧ At2 i h) where
  mem := by simp
  obj := fun i h ⟨_, atZ, atI, ⟨x, y, atO⟩, h1, h2⟩ c hc => by
    have wh : c = z ∨ c = TI ∨ c = TO ∨ c = i1 ∨ c = i2 := by simpa using hc
    rcases wh with q | q | q | q | q
    · rw [q]; exact ⟨_, atZ, fun v q => nomatch q⟩
    · rw [q]; exact ⟨_, atI, fun v q => nomatch q⟩
    · rw [q]; exact ⟨_, atO, fun v q => nomatch q⟩
    · rw [q]; exact s1.obj h1
    · rw [q]; exact s2.obj h2
  keep := fun i h h' ⟨le, atZ, atI, ⟨x, y, atO⟩, h1, h2⟩ k => ⟨le, k z (by simp) _ atZ, k TI (by simp) _ atI, ⟨x, y, k TO (by simp) _ atO⟩, s1.at_ h1 fun o q => k i1 (by simp) o q, s2.at_ h2 fun o q => k i2 (by simp) o q⟩
  item := by
    intro X hP hw hK hc i pins s σ H E I hf now gives
    have hh : X.A.in1.handled = none := I.ok.hd hc
    obtain ⟨S1, P1, d1, q1, m1⟩ := s1.side X hP hw hK hh pins σ H s I gives.1
    obtain ⟨S2, P2, d2, q2, m2⟩ := s2.side X hP hw hK hh pins σ H s I gives.2.1
    subst hP hw hK
    obtain ⟨_, atZ, atI, ⟨old1, old2, atO⟩, h1, h2⟩ := now
    obtain ⟨_, _, x0, y0, hx, hy⟩ := gives
    have l1 := s1.lt hx
    have l2 := s2.lt hy
    have zl : z < s.heap.objs.size := Heap.lt_size atZ
    refine wpAny_pyNext_zipD2_item D d1 d2 atZ atI atO ⟨h1, q1⟩ ⟨h2, q2⟩ l1 l2 fun u u2 h' tk w1 w2 z' TO' g1 g2 isZ _ hk => ?_
    obtain ⟨x, hx2, ru⟩ := m1 i u w1
    obtain ⟨y, hy2, ru2⟩ := m2 i u2 w2
    refine ⟨_, rfl, wpAny_letOwnedTupleGo_zip (s := { s with heap := h', toks := tk }) z' fun h'' z'' sb => ?_⟩
    have kz : ∀ c, c ≠ z → ∀ o, h'.get? c = some o → h''.get? c = some o := fun c n o e => (sb.2 c n).trans e
    have hT2 : h''.get? s.heap.objs.size = some { cls := .type "tuple", data := .seq #[u, u2] } := kz _ (Nat.ne_of_gt zl) _ isZ
    have off5 : ∀ c, c ∉ [z, TI, TO, i1, i2] → ∀ o, s.heap.get? c = some o → h''.get? c = some o := fun c n o e => by
      have n5 : c ≠ z ∧ c ≠ TI ∧ c ≠ TO ∧ c ≠ i1 ∧ c ≠ i2 := by simpa using n
      exact kz c n5.1 o (hk c o n5.1 n5.2.2.1 n5.2.2.2.1 n5.2.2.2.2 e)
    have new : ObjOk X.prog X.w (upd H s.heap.objs.size (.tup [x, y])) h'' s.heap.objs.size (.tup [x, y]) :=
      ⟨by show 2 ≤ sizeLine; decide, [u, u2], .cons ru (.cons ru2 .nil), ⟨_, hT2, rfl, _, rfl⟩⟩
    have J : Inv X pins σ (upd H s.heap.objs.size (.tup [x, y])) { s with heap := h'', toks := tk } :=
      I.turnedNew (ch := [z, TI, TO, i1, i2]) (fun c o hb q => off5 c hb o q) hf (Nat.le_refl _) new
    refine ⟨.ref s.heap.objs.size, _, J, rfl, ⟨_, x, y, rfl, I.hok.fresh (Nat.le_refl _), rfl, hx2, hy2⟩, ⟨⟨l1, l2⟩, z'', ?_, ⟨u, u2, ?_⟩, ?_, ?_⟩, fun c inF => ?_⟩
    · exact kz _ D.TIz _ (hk _ _ D.TIz D.TITO D.TIi1 D.TIi2 atI)
    · exact kz _ D.TOz _ TO'
    · exact s1.at_ g1.1 (kz _ D.zi1.symm)
    · exact s2.at_ g2.1 (kz _ D.zi2.symm)
    · have lt : c < s.heap.objs.size := by
        have wh : c = z ∨ c = TI ∨ c = TO ∨ c = i1 ∨ c = i2 := by simpa using inF
        rcases wh with q | q | q | q | q
        · rw [q]; exact zl
        · rw [q]; exact Heap.lt_size atI
        · rw [q]; exact Heap.lt_size atO
        · rw [q]; exact Heap.lt_size (s1.obj h1).choose_spec.1
        · rw [q]; exact Heap.lt_size (s2.obj h2).choose_spec.1
      rw [upd_ne (Nat.ne_of_lt lt)]
      exact (hf c inF).1
  done := by
    intro X hP hw hK hc i pins s σ H E I hf now gives
    have hh : X.A.in1.handled = none := I.ok.hd hc
    obtain ⟨S1, P1, d1, q1, m1⟩ := s1.side X hP hw hK hh pins σ H s I gives.1
    obtain ⟨S2, P2, d2, q2, m2⟩ := s2.side X hP hw hK hh pins σ H s I gives.2.1
    subst hP hw hK
    obtain ⟨⟨e1, e2⟩, atZ, atI, ⟨old1, old2, atO⟩, h1, h2⟩ := now
    have last : i = n1 ∨ i = n2 := gives.2.2.imp (fun q => Nat.le_antisymm e1 (s1.fin q)) fun q => Nat.le_antisymm e2 (s2.fin q)
    exact wpAny_pyNext_zipD2_end D d1 d2 atZ atI atO ⟨h1, q1⟩ ⟨h2, q2⟩ e1 e2 last fun h' tk hk => ⟨rfl, I.turnedL (ch := [z, TI, TO, i1, i2]) (fun c o n e => by
      have n5 : c ≠ z ∧ c ≠ TI ∧ c ≠ TO ∧ c ≠ i1 ∧ c ≠ i2 := by simpa using n
      exact hk c o n5.1 n5.2.2.1 n5.2.2.2.1 n5.2.2.2.2 e) hf⟩
  self := fun A i s Q E now h => wpAny_pyIter_zip now.2.1 h
theorem dside_list {P : Program} {w : World} {K : PySem.W.Frag} {it a : Addr} {xs : List V} (ne : a ≠ it) : DSide P w K it [a] xs.length (fun k h => h.IsListIter it a k) (fun H => SqL K H a xs) (fun i => xs[i]?) where
  at_ := fun q k => q.at k
  obj := fun ⟨o, e, _, d⟩ => ⟨o, e, fun v q => by rw [d] at q; cases q⟩
  lt := fun q => (List.getElem?_eq_some_iff.mp q).1
  fin := fun q => List.getElem?_eq_none_iff.mp q
  side := fun X hP hw hK hh pins σ H s I hq => by
    subst hP hw hK
    obtain ⟨its, rv, p, _⟩ := I.list hq
    have l := rv.length
    have d := Draws.list (prog := X.prog) (w := X.w) hh it a ne its.toArray
    rw [List.size_toArray, ← l] at d
    refine ⟨_, _, d, p.isList, fun i v hv => ?_⟩
    have hv : its[i]? = some v := by simpa using hv
    have lt := (List.getElem?_eq_some_iff.mp hv).1
    obtain ⟨u, hu, ru⟩ := rv.get (List.getElem?_eq_getElem (show i < xs.length by omega))
    rw [hv] at hu
    injection hu with hu
    exact ⟨_, List.getElem?_eq_getElem (by omega), hu ▸ ru⟩
theorem dside_tup {P : Program} {w : World} {K : PySem.W.Frag} {it a : Addr} {xs : List V} (ne : a ≠ it) : DSide P w K it [a] xs.length (fun k h => h.IsTupleIter it a k) (fun H => SqT K H a xs) (fun i => xs[i]?) where
  at_ := fun q k => q.at k
  obj := fun ⟨o, e, _, d⟩ => ⟨o, e, fun v q => by rw [d] at q; cases q⟩
  lt := fun q => (List.getElem?_eq_some_iff.mp q).1
  fin := fun q => List.getElem?_eq_none_iff.mp q
  side := fun X hP hw hK hh pins σ H s I hq => by
    subst hP hw hK
    obtain ⟨its, rv, p, _⟩ := I.tuple hq
    have l := rv.length
    have d := Draws.tuple (prog := X.prog) (w := X.w) hh it a ne its.toArray
    rw [List.size_toArray, ← l] at d
    refine ⟨_, _, d, p, fun i v hv => ?_⟩
    have hv : its[i]? = some v := by simpa using hv
    have lt := (List.getElem?_eq_some_iff.mp hv).1
    obtain ⟨u, hu, ru⟩ := rv.get (List.getElem?_eq_getElem (show i < xs.length by omega))
    rw [hv] at hu
    injection hu with hu
    exact ⟨_, List.getElem?_eq_getElem (by omega), hu ▸ ru⟩
theorem dside_text {P : Program} {w : World} {K : PySem.W.Frag} {it : Addr} {x : Str} {t : Tok} : DSide P w K it [] x.cps.size (fun k h => h.IsStrIter it (strIterType x) x t k) (fun _ => True) (fun i => x.cps[i]?.map fun c => V.str ⟨#[c]⟩) where
  at_ := fun st k => let ⟨o, ho, r⟩ := st; ⟨o, k o ho, r⟩
  obj := fun ⟨o, e, _, d⟩ => ⟨o, e, fun v q => by rw [d] at q; cases q⟩
  lt := fun q => by
    obtain ⟨c, e, _⟩ := Option.map_eq_some_iff.mp q
    exact (Array.getElem?_eq_some_iff.mp e).1
  fin := fun q => by
    have e := Option.map_eq_none_iff.mp q
    exact Array.getElem?_eq_none_iff.mp e
  side := fun X hP hw hK hh pins σ H s I hq => by
    subst hP hw hK
    have d := Draws.text (prog := X.prog) (w := X.w) hh it x t
    refine ⟨fun _ => True, _, ⟨fun i h st => d.live i h st.1, fun i h h' st k => ⟨d.frame i h h' st.1 k, trivial⟩, fun i s Q E hi st q => d.item i s Q E hi st.1 fun x h' tk p st2 sb => q x h' tk p ⟨st2, trivial⟩ sb, fun s Q E st q => d.done s Q E st.1 q⟩, trivial, fun i v ⟨c, u, e, ev⟩ => ?_⟩
    subst ev
    exact ⟨.str ⟨#[c]⟩, by rw [e]; rfl, ⟨u, rfl⟩⟩
abbrev itS (x : Str) (t : Tok) : Obj := { cls := .type (strIterType x), data := .fields #[.str x t, .int 0 0] }
theorem pyIter_text {prog : Program} {w : World} {A : Around} {E : Value → Shared → Prop} {s : Shared} {x : Str} {t : Tok} {Q : Value → Shared → Prop}
    (h : Q (.ref s.heap.objs.size) { s with heap := s.heap.push (itS x t) }) : wpAny (model prog w) A (pyIter (.str x t)) Q E s := by
  unfold itS at h
  cases ha : x.cps.all (· < 128)
  · simp only [strIterType, ha, Bool.false_eq_true, if_false] at h
    exact wpAny_pyIter_wide ha h
  · simp only [strIterType, ha, if_true] at h
    exact wpAny_pyIter_ascii ha h
/-- zip(v, u): the two iterators are laid -/
theorem meets_zipLS (l : Addr) (xs : Array Value) (x : Str) (t : Tok) :
    Meets (Builtin.«zip.__new__» ⟨[.type "zip", .ref l, .str x t], []⟩) (fun _ R s => s.heap.IsList l xs ∧
      R (.ok (.ret (.ref (zipAddr s.heap (itL l) (itS x t))))) { s with heap := zipHeap s.heap (itL l) (itS x t) }) :=
  .of_wp fun prog w A R s h => by
    obtain ⟨hp, gs, dr, tk, os⟩ := s
    obtain ⟨hl, h⟩ := h
    have hsub := sub_zip
    have hL : Heap.IsList (Shared.heap ⟨hp, gs, dr, tk, os⟩) l xs := hl
    wp_walk using wpAny_pyIter_list hL, pyIter_text
    exact ⟨_, rfl, h⟩
theorem meets_zipTS (l : Addr) (xs : Array Value) (x : Str) (t : Tok) :
    Meets (Builtin.«zip.__new__» ⟨[.type "zip", .ref l, .str x t], []⟩) (fun _ R s => s.heap.IsTuple l xs ∧
      R (.ok (.ret (.ref (zipAddr s.heap (itT l) (itS x t))))) { s with heap := zipHeap s.heap (itT l) (itS x t) }) :=
  .of_wp fun prog w A R s h => by
    obtain ⟨hp, gs, dr, tk, os⟩ := s
    obtain ⟨hl, h⟩ := h
    have hsub := sub_zip
    have hL : Heap.IsTuple (Shared.heap ⟨hp, gs, dr, tk, os⟩) l xs := hl
    wp_walk using wpAny_pyIter_tuple hL, pyIter_text
    exact ⟨_, rfl, h⟩
theorem meets_zipSL (l : Addr) (xs : Array Value) (x : Str) (t : Tok) :
    Meets (Builtin.«zip.__new__» ⟨[.type "zip", .str x t, .ref l], []⟩) (fun _ R s => s.heap.IsList l xs ∧
      R (.ok (.ret (.ref (zipAddr s.heap (itS x t) (itL l))))) { s with heap := zipHeap s.heap (itS x t) (itL l) }) :=
  .of_wp fun prog w A R s h => by
    obtain ⟨hp, gs, dr, tk, os⟩ := s
    obtain ⟨hl, h⟩ := h
    have hsub := sub_zip
    have hL : Heap.IsList (Shared.heap ⟨hp.push (itS x t), gs, dr, tk, os⟩) l xs := Heap.IsList.push hl _
    wp_walk using wpAny_pyIter_list hL, pyIter_text
    exact ⟨_, rfl, h⟩
/-- zip(v1, v2) of whatever gives two iterators -/
theorem call_zipV {prog : Program} {w : World} {A : Around} {E : Value → Shared → Prop} {s : Shared} {v1 v2 : Value} {o1 o2 : Obj} {P : Shared → Prop} {Q : Value → Shared → Prop} (f1 : o1.isFreed = false) (f2 : o2.isFreed = false)
    (M : Meets (Builtin.«zip.__new__» ⟨[.type "zip", v1, v2], []⟩) fun _ R s => P s ∧ R (.ok (.ret (.ref (zipAddr s.heap o1 o2)))) { s with heap := zipHeap s.heap o1 o2 }) (p : P s)
    (h : ∀ h', IsZip h' (s.heap.objs.size + 4) (s.heap.objs.size + 2) (s.heap.objs.size + 3) .none → IsPair h' (s.heap.objs.size + 2) (.ref s.heap.objs.size) (.ref (s.heap.objs.size + 1)) →
      IsPair h' (s.heap.objs.size + 3) .none .none → h'.get? s.heap.objs.size = some o1 → h'.get? (s.heap.objs.size + 1) = some o2 → (∀ c o, s.heap.get? c = some o → h'.get? c = some o) → Q (.ref (s.heap.objs.size + 4)) { s with heap := h' }) :
    wpAny (model prog w) A (call (.type "zip") [v1, v2]) Q E s := by
  refine callType_new F.called_zip (by decide) (F.typeCall_zip_2 _ _) (F.newCall_zip_2 _ _) (fun obj => F.args_object_init_3 obj _ _) F.entry_zip_new M ⟨p, ?_⟩
  show _ ∧ _
  dsimp only [zipAddr, zipHeap]
  generalize e1 : s.heap.push o1 = ha
  have z1 : ha.objs.size = s.heap.objs.size + 1 := by rw [← e1]; exact Heap.size_push ..
  have g1 : ha.get? s.heap.objs.size = some o1 := by rw [← e1]; exact Heap.get?_push_size _ f1
  have k1 : ∀ c o, s.heap.get? c = some o → ha.get? c = some o := fun c o e => by rw [← e1]; exact Heap.get?_push_of_some _ e
  generalize e2 : ha.push o2 = hb
  have z2 : hb.objs.size = s.heap.objs.size + 2 := by rw [← e2, Heap.size_push, z1]
  have g2 : hb.get? (s.heap.objs.size + 1) = some o2 := by rw [← e2, ← z1]; exact Heap.get?_push_size _ f2
  have k2 : ∀ c o, ha.get? c = some o → hb.get? c = some o := fun c o e => by rw [← e2]; exact Heap.get?_push_of_some _ e
  rw [z1, z2]
  generalize e3 : hb.push { cls := .type "tuple", data := .seq #[.ref s.heap.objs.size, .ref (s.heap.objs.size + 1)] } = hc
  have z3 : hc.objs.size = s.heap.objs.size + 3 := by rw [← e3, Heap.size_push, z2]
  have g3 : IsPair hc (s.heap.objs.size + 2) (.ref s.heap.objs.size) (.ref (s.heap.objs.size + 1)) := by rw [← e3, ← z2]; exact Heap.get?_push_size _ rfl
  have k3 : ∀ c o, hb.get? c = some o → hc.get? c = some o := fun c o e => by rw [← e3]; exact Heap.get?_push_of_some _ e
  rw [z3]
  generalize e4 : hc.push { cls := .type "tuple", data := .seq #[.none, .none] } = hd
  have z4 : hd.objs.size = s.heap.objs.size + 4 := by rw [← e4, Heap.size_push, z3]
  have g4 : IsPair hd (s.heap.objs.size + 3) .none .none := by rw [← e4, ← z3]; exact Heap.get?_push_size _ rfl
  have k4 : ∀ c o, hc.get? c = some o → hd.get? c = some o := fun c o e => by rw [← e4]; exact Heap.get?_push_of_some _ e
  generalize e5 : hd.push { cls := .type "zip", data := .fields #[.none, .bool false, .bool false, .ref (s.heap.objs.size + 2), .ref (s.heap.objs.size + 3)] } = he
  have g5 : IsZip he (s.heap.objs.size + 4) (s.heap.objs.size + 2) (s.heap.objs.size + 3) .none := by rw [← e5, ← z4]; exact Heap.get?_push_size _ rfl
  have k5 : ∀ c o, hd.get? c = some o → he.get? c = some o := fun c o e => by rw [← e5]; exact Heap.get?_push_of_some _ e
  rw [z4]
  exact ⟨⟨_, g5, rfl⟩, h he g5 (k5 _ _ (k4 _ _ g3)) (k5 _ _ g4) (k5 _ _ (k4 _ _ (k3 _ _ (k2 _ _ g1)))) (k5 _ _ (k4 _ _ (k3 _ _ g2))) fun c o e => k5 _ _ (k4 _ _ (k3 _ _ (k2 _ _ (k1 _ _ e))))⟩
/-- the signs of a text -/
abbrev signsV (x : Str) : Nat → Option V := fun i => x.cps[i]?.map fun c => V.str ⟨#[c]⟩
/-- zip of a list or a tuple and a text, or of a text and a list -/
def iZipS (K : PySem.W.Frag) (ta : TA) : TI := fun σ H R => ta σ H fun vs H1 =>
  (∃ (a : Addr) (xs : List V) (x : Str), vs = [.ref a, .str x] ∧ ((SqL K H1 a xs ∧ R (ItzP (fun H => SqL K H a xs) (fun _ => True) (fun i => xs[i]?) (signsV x)) H1) ∨
    (SqT K H1 a xs ∧ R (ItzP (fun H => SqT K H a xs) (fun _ => True) (fun i => xs[i]?) (signsV x)) H1))) ∨
  ∃ (a : Addr) (xs : List V) (x : Str), vs = [.str x, .ref a] ∧ SqL K H1 a xs ∧ R (ItzP (fun _ => True) (fun H => SqL K H a xs) (signsV x) (fun i => xs[i]?)) H1
theorem na {n i j : Nat} (h : i ≠ j) : n + i ≠ n + j := by omega
theorem n0 {n i : Nat} (h : 0 < i) : n + i ≠ n := by omega
theorem nl {n a i : Nat} (h : a < n) : n + i ≠ a := by omega
theorem nm1 {x y : Addr} (h : x ≠ y) : x ∉ [y] := by simp [h]
theorem nm2 {x y z : Addr} (h : x ≠ y) (g : x ≠ z) : x ∉ [y, z] := by simp [h, g]
theorem sep_lr (n a : Addr) (lt : a < n) : ZipSep2 (n + 4) (n + 2) (n + 3) n (n + 1) [n, a] [n + 1] where
  TIz := na (n := n) (by decide)
  TOz := na (n := n) (by decide)
  TITO := na (n := n) (by decide)
  TIi1 := n0 (n := n) (by decide)
  mem1 := List.mem_cons_self
  zf1 := nm2 (n0 (n := n) (by decide)) (nl lt)
  Tf1 := nm2 (n0 (n := n) (by decide)) (nl lt)
  TIi2 := na (n := n) (by decide)
  mem2 := List.mem_cons_self
  zf2 := nm1 (na (n := n) (by decide))
  Tf2 := nm1 (na (n := n) (by decide))
  sep1_2 := nm1 (n0 (n := n) (i := 1) (by decide)).symm
  sep2_1 := nm2 (n0 (n := n) (by decide)) (nl lt)
theorem sep_rl (n a : Addr) (lt : a < n) : ZipSep2 (n + 4) (n + 2) (n + 3) n (n + 1) [n] [n + 1, a] where
  TIz := na (n := n) (by decide)
  TOz := na (n := n) (by decide)
  TITO := na (n := n) (by decide)
  TIi1 := n0 (n := n) (by decide)
  mem1 := List.mem_cons_self
  zf1 := nm1 (n0 (n := n) (by decide))
  Tf1 := nm1 (n0 (n := n) (by decide))
  TIi2 := na (n := n) (by decide)
  mem2 := List.mem_cons_self
  zf2 := nm2 (na (n := n) (by decide)) (nl lt)
  Tf2 := nm2 (na (n := n) (by decide)) (nl lt)
  sep1_2 := nm2 (n0 (n := n) (i := 1) (by decide)).symm (Nat.ne_of_gt lt)
  sep2_1 := nm1 (n0 (n := n) (by decide))
theorem pi_zipS {X : Cx} {e e2 : Expr} {ta : TA} {p pos tpos : Pos} {elts : List Expr} {kk : Nat} (gives : Gl X "zip") (hm : X.mg "zip" = none) (ha : PA X [e, e2] ta)
    (hs : starEach [e, e2] X.env = (false, eval e X.env) :: starEach [e2] X.env := by rfl) (plain1 : (backTo pos (starEach [e2] X.env)).any (·.1) = false := by rfl) :
    PI X (.Tuple elts kk tpos) (.Call (.Name "zip" p) [e, e2] [] pos) (iZipS X.K ta) := by
  refine ⟨fun pins s σ H R I h => ?_⟩
  refine Call_ (ld_blt I gives hm PyProof.Rows.boot_zip (PyProof.Rows.callWith_type1 (thn (ha.run pos pins s σ H _ I h) fun us t ⟨vs, H1, J, rel, q⟩ => ?_) hs plain1))
  have fresh : ∀ c, c ∈ [t.heap.objs.size + 4, t.heap.objs.size + 2, t.heap.objs.size + 3, t.heap.objs.size, t.heap.objs.size + 1] → FpOk X pins H1 c := fun c hc => by
    have le : t.heap.objs.size ≤ c := by
      simp only [List.mem_cons, List.not_mem_nil, or_false] at hc
      omega
    exact J.fpOk le (J.hok.fresh le)
  rcases q with ⟨a, xs, x, ev, q⟩ | ⟨a, xs, x, ev, hl, q⟩
  · subst ev
    obtain ⟨u1, u2, rfl, r1, r2⟩ := vals2 rel
    obtain rfl : u1 = Value.ref a := r1
    obtain ⟨tk, rfl⟩ := r2
    rcases q with ⟨hl, q⟩ | ⟨hl, q⟩
    · obtain ⟨its, rv, p1, _⟩ := J.list hl
      have la : a < t.heap.objs.size := let ⟨_, z, _⟩ := id p1.isList; Heap.lt_size z
      refine call_zipV rfl rfl (meets_zipLS a its.toArray x tk) p1.isList fun h' atZ atI atO g1 g2 hk => wpAny_pyIter_zip atZ ?_
      exact ⟨t.heap.objs.size + 4, [t.heap.objs.size + 4, t.heap.objs.size + 2, t.heap.objs.size + 3, t.heap.objs.size, t.heap.objs.size + 1], _, _, H1, rfl, J.kept (t' := t.toks) hk,
        turn_zipD (sep_lr t.heap.objs.size a la) (dside_list (Nat.ne_of_lt la)) dside_text, ⟨⟨Nat.zero_le _, Nat.zero_le _⟩, atZ, atI, ⟨_, _, atO⟩, ⟨_, g1, rfl, rfl⟩, ⟨_, g2, rfl, rfl⟩⟩, fresh, q⟩
    · obtain ⟨its, rv, p1, _⟩ := J.tuple hl
      have la : a < t.heap.objs.size := let ⟨_, z, _⟩ := id p1; Heap.lt_size z
      refine call_zipV rfl rfl (meets_zipTS a its.toArray x tk) p1 fun h' atZ atI atO g1 g2 hk => wpAny_pyIter_zip atZ ?_
      exact ⟨t.heap.objs.size + 4, [t.heap.objs.size + 4, t.heap.objs.size + 2, t.heap.objs.size + 3, t.heap.objs.size, t.heap.objs.size + 1], _, _, H1, rfl, J.kept (t' := t.toks) hk,
        turn_zipD (sep_lr t.heap.objs.size a la) (dside_tup (Nat.ne_of_lt la)) dside_text, ⟨⟨Nat.zero_le _, Nat.zero_le _⟩, atZ, atI, ⟨_, _, atO⟩, ⟨_, g1, rfl, rfl⟩, ⟨_, g2, rfl, rfl⟩⟩, fresh, q⟩
  · subst ev
    obtain ⟨u1, u2, rfl, r1, r2⟩ := vals2 rel
    obtain ⟨tk, rfl⟩ := r1
    obtain rfl : u2 = Value.ref a := r2
    obtain ⟨its, rv, p1, _⟩ := J.list hl
    have la : a < t.heap.objs.size := let ⟨_, z, _⟩ := id p1.isList; Heap.lt_size z
    refine call_zipV rfl rfl (meets_zipSL a its.toArray x tk) p1.isList fun h' atZ atI atO g1 g2 hk => wpAny_pyIter_zip atZ ?_
    exact ⟨t.heap.objs.size + 4, [t.heap.objs.size + 4, t.heap.objs.size + 2, t.heap.objs.size + 3, t.heap.objs.size, t.heap.objs.size + 1], _, _, H1, rfl, J.kept (t' := t.toks) hk,
      turn_zipD (sep_rl t.heap.objs.size a la) dside_text (dside_list (Nat.ne_of_lt (Nat.lt_succ_of_lt la))), ⟨⟨Nat.zero_le _, Nat.zero_le _⟩, atZ, atI, ⟨_, _, atO⟩, ⟨_, g1, rfl, rfl⟩, ⟨_, g2, rfl, rfl⟩⟩, fresh, q⟩
end RZ
set_option Elab.async false
set_option linter.all false
set_option maxHeartbeats 400000
/-! A conditional expression as a test. -/
namespace RZ
open PySem PySem.Spec PyProof.Rows L2
def tIfT (c ta tb : TT) : TT := fun σ H Q => c σ H fun d H1 => if d = true then ta σ H1 Q else tb σ H1 Q
theorem pw_ifExp {X : Cx} {c a b : Expr} {pos : Pos} {tc ta tb : TT} (hc : PT X c tc) (ha : PT X a ta) (hb : PT X b tb) : PW X (.IfExp c a b pos) (tIfT tc ta tb) := by
  refine ⟨fun whole pins s σ H Q I h => ?_⟩
  rw [arm_isTrue_IfExp]
  refine wpAny_bind (thn (hc.run pins s σ H _ I h) fun d s1 ⟨H1, I1, q1⟩ => ?_)
  cases d with
  | true => exact ha.run pins s1 σ H1 Q I1 q1
  | false => exact hb.run pins s1 σ H1 Q I1 q1
end RZ
set_option Elab.async false
set_option linter.all false
set_option maxRecDepth 100000
set_option maxHeartbeats 4000000
namespace Toy
open PySem L2 Q RZ
def topS (i : Nat) : Stmt := PySem.Challenge.pw_quietturns_k65_runs_as_texts.main.body.getD i (.Pass ⟨0, 0, 0, 0⟩)
abbrev s_is_integer : Stmt := topS 6
abbrev N_is_integer : List Str := ["value"]
theorem sc_is_integer : FnScope N_is_integer ["value"] (defScope s_is_integer) := ⟨rfl, rfl, rfl, by decide +kernel, rfl, by decide +kernel, by decide +kernel⟩
abbrev s_is_integer_from : Stmt := topS 7
abbrev N_is_integer_from : List Str := ["value", "least"]
theorem sc_is_integer_from : FnScope N_is_integer_from ["value", "least"] (defScope s_is_integer_from) := ⟨rfl, rfl, rfl, by decide +kernel, rfl, by decide +kernel, by decide +kernel⟩
abbrev s_is_name : Stmt := topS 8
abbrev N_is_name : List Str := ["value", "letter"]
theorem sc_is_name : FnScope N_is_name ["value"] (defScope s_is_name) := ⟨rfl, rfl, rfl, by decide +kernel, rfl, by decide +kernel, by decide +kernel⟩
abbrev s_is_event : Stmt := topS 13
abbrev N_is_event : List Str := ["value", "form", "part", "kind"]
theorem sc_is_event : FnScope N_is_event ["value"] (defScope s_is_event) := ⟨rfl, rfl, rfl, by decide +kernel, rfl, by decide +kernel, by decide +kernel⟩
abbrev s_is_part : Stmt := topS 14
abbrev N_is_part : List Str := ["value", "kind"]
theorem sc_is_part : FnScope N_is_part ["value", "kind"] (defScope s_is_part) := ⟨rfl, rfl, rfl, by decide +kernel, rfl, by decide +kernel, by decide +kernel⟩
abbrev s_row_of : Stmt := topS 15
abbrev N_row_of : List Str := ["event", "part"]
theorem sc_row_of : FnScope N_row_of ["event"] (defScope s_row_of) := ⟨rfl, rfl, rfl, by decide +kernel, rfl, by decide +kernel, by decide +kernel⟩
abbrev s_event_of : Stmt := topS 16
abbrev N_event_of : List Str := ["row", "word", "rest", "form", "parts", "part", "kind", "event"]
theorem sc_event_of : FnScope N_event_of ["row"] (defScope s_event_of) := ⟨rfl, rfl, rfl, by decide +kernel, rfl, by decide +kernel, by decide +kernel⟩
abbrev s_number_of : Stmt := topS 17
abbrev N_number_of : List Str := ["word", "digit"]
theorem sc_number_of : FnScope N_number_of ["word"] (defScope s_number_of) := ⟨rfl, rfl, rfl, by decide +kernel, rfl, by decide +kernel, by decide +kernel⟩
abbrev s_show_run : Stmt := topS 19
abbrev N_show_run : List Str := ["run", "at", "event"]
theorem sc_show_run : FnScope N_show_run ["run"] (defScope s_show_run) := ⟨rfl, rfl, rfl, by decide +kernel, rfl, by decide +kernel, by decide +kernel⟩
abbrev s_read_run : Stmt := topS 20
abbrev N_read_run : List Str := ["text", "rows"]
theorem sc_read_run : FnScope N_read_run ["text"] (defScope s_read_run) := ⟨rfl, rfl, rfl, by decide +kernel, rfl, by decide +kernel, by decide +kernel⟩
abbrev s_rows_of : Stmt := topS 21
abbrev N_rows_of : List Str := ["text"]
theorem sc_rows_of : FnScope N_rows_of ["text"] (defScope s_rows_of) := ⟨rfl, rfl, rfl, by decide +kernel, rfl, by decide +kernel, by decide +kernel⟩
abbrev s_events_of : Stmt := topS 22
abbrev N_events_of : List Str := ["rows", "first", "events", "at", "row", "event"]
theorem sc_events_of : FnScope N_events_of ["rows", "first"] (defScope s_events_of) := ⟨rfl, rfl, rfl, by decide +kernel, rfl, by decide +kernel, by decide +kernel⟩
abbrev s_l_pot : Stmt := topS 24
abbrev N_l_pot : List Str := ["_law_script", "_law_k", "_law_cell", "_law_own"]
theorem sc_l_pot : FnScope N_l_pot ["_law_script", "_law_k"] (defScope s_l_pot) := ⟨rfl, rfl, rfl, by decide +kernel, rfl, by decide +kernel, by decide +kernel⟩
abbrev s_l_take : Stmt := topS 25
abbrev N_l_take : List Str := ["_law_pot_here", "_law_upto", "_law_digit", "_law_prime", "_law_stirred"]
theorem sc_l_take : FnScope N_l_take ["_law_pot_here", "_law_upto"] (defScope s_l_take) := ⟨rfl, rfl, rfl, by decide +kernel, rfl, by decide +kernel, by decide +kernel⟩
abbrev s_l_pots : Stmt := topS 26
abbrev N_l_pots : List Str := ["_law_script", "_law_most", "_law_k"]
theorem sc_l_pots : FnScope N_l_pots ["_law_script", "_law_most"] (defScope s_l_pots) := ⟨rfl, rfl, rfl, by decide +kernel, rfl, by decide +kernel, by decide +kernel⟩
abbrev s_l_of : Stmt := topS 27
abbrev N_l_of : List Str := ["_law_pot_here", "_law_some"]
theorem sc_l_of : FnScope N_l_of ["_law_pot_here", "_law_some"] (defScope s_l_of) := ⟨rfl, rfl, rfl, by decide +kernel, rfl, by decide +kernel, by decide +kernel⟩
abbrev s_l_turned : Stmt := topS 28
abbrev N_l_turned : List Str := ["_law_pot_here", "_law_some", "_law_at", "_law_row"]
theorem sc_l_turned : FnScope N_l_turned ["_law_pot_here", "_law_some"] (defScope s_l_turned) := ⟨rfl, rfl, rfl, by decide +kernel, rfl, by decide +kernel, by decide +kernel⟩
abbrev s_l_names : Stmt := topS 29
abbrev N_l_names : List Str := ["_law_pot_here", "_law_many", "_law_small", "_law_stem", "_law_turn", "_law_spot", "_law_at", "_law_found", "_law_k"]
theorem sc_l_names : FnScope N_l_names ["_law_pot_here", "_law_many"] (defScope s_l_names) := ⟨rfl, rfl, rfl, by decide +kernel, rfl, by decide +kernel, by decide +kernel⟩
abbrev s_l_far : Stmt := topS 30
abbrev N_l_far : List Str := ["_law_pot_here"]
theorem sc_l_far : FnScope N_l_far ["_law_pot_here"] (defScope s_l_far) := ⟨rfl, rfl, rfl, by decide +kernel, rfl, by decide +kernel, by decide +kernel⟩
abbrev s_l_odd : Stmt := topS 31
abbrev N_l_odd : List Str := ["_law_pot_here", "_law_some"]
theorem sc_l_odd : FnScope N_l_odd ["_law_pot_here"] (defScope s_l_odd) := ⟨rfl, rfl, rfl, by decide +kernel, rfl, by decide +kernel, by decide +kernel⟩
abbrev s_l_bent_part : Stmt := topS 32
abbrev N_l_bent_part : List Str := ["_law_pot_here", "_law_value", "_law_at", "_law_some"]
theorem sc_l_bent_part : FnScope N_l_bent_part ["_law_pot_here", "_law_value"] (defScope s_l_bent_part) := ⟨rfl, rfl, rfl, by decide +kernel, rfl, by decide +kernel, by decide +kernel⟩
abbrev s_l_bent : Stmt := topS 33
abbrev N_l_bent : List Str := ["_law_pot_here", "_law_value", "_law_deep", "_law_at"]
theorem sc_l_bent : FnScope N_l_bent ["_law_pot_here", "_law_value", "_law_deep"] (defScope s_l_bent) := ⟨rfl, rfl, rfl, by decide +kernel, rfl, by decide +kernel, by decide +kernel⟩
abbrev s_l_caught : Stmt := topS 34
abbrev N_l_caught : List Str := ["_law_look", "_law_caught_here", "error"]
theorem sc_l_caught : FnScope N_l_caught ["_law_look"] (defScope s_l_caught) := ⟨rfl, rfl, rfl, by decide +kernel, rfl, by decide +kernel, by decide +kernel⟩
abbrev s_l_is_from : Stmt := topS 35
abbrev N_l_is_from : List Str := ["_law_value", "_law_least"]
theorem sc_l_is_from : FnScope N_l_is_from ["_law_value", "_law_least"] (defScope s_l_is_from) := ⟨rfl, rfl, rfl, by decide +kernel, rfl, by decide +kernel, by decide +kernel⟩
abbrev s_l_is_name : Stmt := topS 36
abbrev N_l_is_name : List Str := ["_law_value", "_law_sign"]
theorem sc_l_is_name : FnScope N_l_is_name ["_law_value"] (defScope s_l_is_name) := ⟨rfl, rfl, rfl, by decide +kernel, rfl, by decide +kernel, by decide +kernel⟩
abbrev s_l_is_number : Stmt := topS 37
abbrev N_l_is_number : List Str := ["_law_word", "_law_sign"]
theorem sc_l_is_number : FnScope N_l_is_number ["_law_word"] (defScope s_l_is_number) := ⟨rfl, rfl, rfl, by decide +kernel, rfl, by decide +kernel, by decide +kernel⟩
abbrev s_l_event_page : Stmt := topS 38
abbrev N_l_event_page : List Str := ["_law_event", "_law_part"]
theorem sc_l_event_page : FnScope N_l_event_page ["_law_event"] (defScope s_l_event_page) := ⟨rfl, rfl, rfl, by decide +kernel, rfl, by decide +kernel, by decide +kernel⟩
abbrev s_l_event_read : Stmt := topS 39
abbrev N_l_event_read : List Str := ["_law_row", "_law_words", "_law_forms", "_law_parts", "_law_kind", "_law_word"]
theorem sc_l_event_read : FnScope N_l_event_read ["_law_row"] (defScope s_l_event_read) := ⟨rfl, rfl, rfl, by decide +kernel, rfl, by decide +kernel, by decide +kernel⟩
abbrev s_l_is_form : Stmt := topS 40
abbrev N_l_is_form : List Str := ["_law_value", "_law_part"]
theorem sc_l_is_form : FnScope N_l_is_form ["_law_value"] (defScope s_l_is_form) := ⟨rfl, rfl, rfl, by decide +kernel, rfl, by decide +kernel, by decide +kernel⟩
abbrev s_l_bent_page : Stmt := topS 41
abbrev N_l_bent_page : List Str := ["_law_pot_here", "_law_page", "_law_way", "_law_at", "_law_rows", "_law_sign", "_law_k"]
theorem sc_l_bent_page : FnScope N_l_bent_page ["_law_pot_here", "_law_page"] (defScope s_l_bent_page) := ⟨rfl, rfl, rfl, by decide +kernel, rfl, by decide +kernel, by decide +kernel⟩
abbrev s_l_any_event : Stmt := topS 42
abbrev N_l_any_event : List Str := ["_law_pot_here", "_law_names_here", "_law_a", "_law_b", "_law_low", "_law_high", "_law_packet", "_law_some"]
theorem sc_l_any_event : FnScope N_l_any_event ["_law_pot_here", "_law_names_here"] (defScope s_l_any_event) := ⟨rfl, rfl, rfl, by decide +kernel, rfl, by decide +kernel, by decide +kernel⟩
abbrev s_l_shown : Stmt := topS 43
abbrev N_l_shown : List Str := ["_law_value", "_law_caught_here"]
theorem sc_l_shown : FnScope N_l_shown ["_law_value"] (defScope s_l_shown) := ⟨rfl, rfl, rfl, by decide +kernel, rfl, by decide +kernel, by decide +kernel⟩
abbrev s_l_read : Stmt := topS 44
abbrev N_l_read : List Str := ["_law_value", "_law_caught_here"]
theorem sc_l_read : FnScope N_l_read ["_law_value"] (defScope s_l_read) := ⟨rfl, rfl, rfl, by decide +kernel, rfl, by decide +kernel, by decide +kernel⟩
abbrev s_l_shown_due : Stmt := topS 45
abbrev N_l_shown_due : List Str := ["_law_value", "_law_wrong", "_law_at", "_law_event"]
theorem sc_l_shown_due : FnScope N_l_shown_due ["_law_value"] (defScope s_l_shown_due) := ⟨rfl, rfl, rfl, by decide +kernel, rfl, by decide +kernel, by decide +kernel⟩
abbrev s_l_read_due : Stmt := topS 46
abbrev N_l_read_due : List Str := ["_law_value", "_law_rows", "_law_wrong", "_law_at", "_law_row"]
theorem sc_l_read_due : FnScope N_l_read_due ["_law_value"] (defScope s_l_read_due) := ⟨rfl, rfl, rfl, by decide +kernel, rfl, by decide +kernel, by decide +kernel⟩
abbrev s_l_fine : Stmt := topS 47
abbrev N_l_fine : List Str := ["_law_pot_here", "_law_names_here", "_law_run", "_law_turn", "_law_bent_here", "_law_page", "_law_event", "_law_value"]
theorem sc_l_fine : FnScope N_l_fine ["_law_pot_here"] (defScope s_l_fine) := ⟨rfl, rfl, rfl, by decide +kernel, rfl, by decide +kernel, by decide +kernel⟩
abbrev s_law : Stmt := topS 48
abbrev N_law : List Str := ["_law_script", "_law_pot_here", "_law_turn"]
theorem sc_law : FnScope N_law ["_law_script"] (defScope s_law) := ⟨rfl, rfl, rfl, by decide +kernel, rfl, by decide +kernel, by decide +kernel⟩


/-- what the written part says of NetError -/
structure ErrN (K : PySem.W.Frag) (mg : Str → Option Value) (C : Addr) : Prop where
  g : mg "NetError" = some (.ref C)
  xL : ∃ nm q N bs sn sub ab col dd k0 k1 k2 k3 k5, K.lookup C = some (excClassObj nm q C N bs PySem.HandSPX.veTail true sn sub ab col dd k0 k1 k2 k3 k5 "ValueError.__new__")
/-- .. and of a class below it -/
structure ErrC (K : PySem.W.Frag) (mg : Str → Option Value) (nm : Str) (C Cn : Addr) : Prop where
  g : mg nm = some (.ref C)
  xL : ∃ nm q N bs sn sub ab col dd k0 k1 k2 k3 k5, K.lookup C = some (excClassObj nm q C N bs (.ref Cn :: PySem.HandSPX.veTail) true sn sub ab col dd k0 k1 k2 k3 k5 "ValueError.__new__")
  sa : PySem.W.findIn K (.ref C) "__setattr__" = some (some (.builtin "object.__setattr__"))
  ga : PySem.W.findIn K (.ref C) "__getattribute__" = some (some (.builtin "BaseException.__getattribute__"))
  gg : PySem.W.findIn K (.ref C) "__getattr__" = some none
  hc : PySem.W.findIn K (.ref C) "__class__" = some (some (.builtin "object.__class__"))
  kC : PySem.W.keepIn K (.ref C) = true
structure Txt (w : World) (K : PySem.W.Frag) (mg : Str → Option Value) (ca ia fa : Nat → Addr) (fd fi : Nat → FuncData) : Prop where
  n_abs : mg "abs" = none
  n_all : mg "all" = none
  n_any : mg "any" = none
  n_bool : mg "bool" = none
  n_enumerate : mg "enumerate" = none
  n_int : mg "int" = none
  n_isinstance : mg "isinstance" = none
  n_len : mg "len" = none
  n_list : mg "list" = none
  n_max : mg "max" = none
  n_min : mg "min" = none
  n_range : mg "range" = none
  n_repr : mg "repr" = none
  n_set : mg "set" = none
  n_sorted : mg "sorted" = none
  n_str : mg "str" = none
  n_tuple : mg "tuple" = none
  n_zip : mg "zip" = none
  v_LONGEST_NAME : ∃ t, mg "LONGEST_NAME" = some (.int 8 t)
  v_MOST_DIGITS : ∃ t, mg "MOST_DIGITS" = some (.int 9 t)
  hn : PySem.W.specialIn K (.builtin "object.__class__") "__get__" = some (some (.builtin "getset_descriptor.__get__"))
  ht : PySem.W.takesIn K (.builtin "object.__class__") = some true
  cN : ErrN K mg (ca 1)
  c_BadText : ErrC K mg "BadText" (ca 2) (ca 1)
  FI_BadText : Fun K "__init__" "BadText.__init__" (inClass (topS 2) 0) (ia 2) (fi 2)
  iC_BadText : PySem.W.findIn K (.ref (ca 2)) "__init__" = some (some (.ref (ia 2)))
  tI_BadText : PySem.W.typeIn K (.ref (ia 2)) = some (.type "function")
  no_BadText_value : PySem.W.findIn K (.ref (ca 2)) "value" = some none
  c_BadRun : ErrC K mg "BadRun" (ca 3) (ca 1)
  FI_BadRun : Fun K "__init__" "BadRun.__init__" (inClass (topS 3) 0) (ia 3) (fi 3)
  iC_BadRun : PySem.W.findIn K (.ref (ca 3)) "__init__" = some (some (.ref (ia 3)))
  tI_BadRun : PySem.W.typeIn K (.ref (ia 3)) = some (.type "function")
  no_BadRun_value : PySem.W.findIn K (.ref (ca 3)) "value" = some none
  nd : ([ca 1, ca 2, ca 3] : List Addr).Nodup
  v_FORMS : ∃ d, mg "FORMS" = some (.ref d) ∧ KTab K w d [("set", "rrll"), ("out", "rr"), ("learn", "r"), ("send", "rr"), ("hop", "pr"), ("drop", "p")]
  v_OF_A_LINK : ∃ d, mg "OF_A_LINK" = some (.ref d) ∧ ∀ H, SqT K H d [.str "set", .str "out"]
  F_is_integer : Fun K "is_integer" "is_integer" s_is_integer (fa 6) (fd 6)
  g_is_integer : mg "is_integer" = some (.ref (fa 6))
  F_is_integer_from : Fun K "is_integer_from" "is_integer_from" s_is_integer_from (fa 7) (fd 7)
  g_is_integer_from : mg "is_integer_from" = some (.ref (fa 7))
  F_is_name : Fun K "is_name" "is_name" s_is_name (fa 8) (fd 8)
  g_is_name : mg "is_name" = some (.ref (fa 8))
  F_is_event : Fun K "is_event" "is_event" s_is_event (fa 13) (fd 13)
  g_is_event : mg "is_event" = some (.ref (fa 13))
  F_is_part : Fun K "is_part" "is_part" s_is_part (fa 14) (fd 14)
  g_is_part : mg "is_part" = some (.ref (fa 14))
  F_row_of : Fun K "row_of" "row_of" s_row_of (fa 15) (fd 15)
  g_row_of : mg "row_of" = some (.ref (fa 15))
  F_event_of : Fun K "event_of" "event_of" s_event_of (fa 16) (fd 16)
  g_event_of : mg "event_of" = some (.ref (fa 16))
  F_number_of : Fun K "number_of" "number_of" s_number_of (fa 17) (fd 17)
  g_number_of : mg "number_of" = some (.ref (fa 17))
  F_show_run : Fun K "show_run" "show_run" s_show_run (fa 19) (fd 19)
  g_show_run : mg "show_run" = some (.ref (fa 19))
  F_read_run : Fun K "read_run" "read_run" s_read_run (fa 20) (fd 20)
  g_read_run : mg "read_run" = some (.ref (fa 20))
  F_rows_of : Fun K "rows_of" "rows_of" s_rows_of (fa 21) (fd 21)
  g_rows_of : mg "rows_of" = some (.ref (fa 21))
  F_events_of : Fun K "events_of" "events_of" s_events_of (fa 22) (fd 22)
  g_events_of : mg "events_of" = some (.ref (fa 22))
  F_l_pot : Fun K "_law_pot" "_law_pot" s_l_pot (fa 24) (fd 24)
  g_l_pot : mg "_law_pot" = some (.ref (fa 24))
  F_l_take : Fun K "_law_take" "_law_take" s_l_take (fa 25) (fd 25)
  g_l_take : mg "_law_take" = some (.ref (fa 25))
  F_l_pots : Fun K "_law_pots" "_law_pots" s_l_pots (fa 26) (fd 26)
  g_l_pots : mg "_law_pots" = some (.ref (fa 26))
  F_l_of : Fun K "_law_of" "_law_of" s_l_of (fa 27) (fd 27)
  g_l_of : mg "_law_of" = some (.ref (fa 27))
  F_l_turned : Fun K "_law_turned" "_law_turned" s_l_turned (fa 28) (fd 28)
  g_l_turned : mg "_law_turned" = some (.ref (fa 28))
  F_l_names : Fun K "_law_names" "_law_names" s_l_names (fa 29) (fd 29)
  g_l_names : mg "_law_names" = some (.ref (fa 29))
  F_l_far : Fun K "_law_far" "_law_far" s_l_far (fa 30) (fd 30)
  g_l_far : mg "_law_far" = some (.ref (fa 30))
  F_l_odd : Fun K "_law_odd" "_law_odd" s_l_odd (fa 31) (fd 31)
  g_l_odd : mg "_law_odd" = some (.ref (fa 31))
  F_l_bent_part : Fun K "_law_bent_part" "_law_bent_part" s_l_bent_part (fa 32) (fd 32)
  g_l_bent_part : mg "_law_bent_part" = some (.ref (fa 32))
  F_l_bent : Fun K "_law_bent" "_law_bent" s_l_bent (fa 33) (fd 33)
  g_l_bent : mg "_law_bent" = some (.ref (fa 33))
  F_l_caught : Fun K "_law_caught" "_law_caught" s_l_caught (fa 34) (fd 34)
  g_l_caught : mg "_law_caught" = some (.ref (fa 34))
  F_l_is_from : Fun K "_law_is_from" "_law_is_from" s_l_is_from (fa 35) (fd 35)
  g_l_is_from : mg "_law_is_from" = some (.ref (fa 35))
  F_l_is_name : Fun K "_law_is_name" "_law_is_name" s_l_is_name (fa 36) (fd 36)
  g_l_is_name : mg "_law_is_name" = some (.ref (fa 36))
  F_l_is_number : Fun K "_law_is_number" "_law_is_number" s_l_is_number (fa 37) (fd 37)
  g_l_is_number : mg "_law_is_number" = some (.ref (fa 37))
  F_l_event_page : Fun K "_law_event_page" "_law_event_page" s_l_event_page (fa 38) (fd 38)
  g_l_event_page : mg "_law_event_page" = some (.ref (fa 38))
  F_l_event_read : Fun K "_law_event_read" "_law_event_read" s_l_event_read (fa 39) (fd 39)
  g_l_event_read : mg "_law_event_read" = some (.ref (fa 39))
  F_l_is_form : Fun K "_law_is_form" "_law_is_form" s_l_is_form (fa 40) (fd 40)
  g_l_is_form : mg "_law_is_form" = some (.ref (fa 40))
  F_l_bent_page : Fun K "_law_bent_page" "_law_bent_page" s_l_bent_page (fa 41) (fd 41)
  g_l_bent_page : mg "_law_bent_page" = some (.ref (fa 41))
  F_l_any_event : Fun K "_law_any_event" "_law_any_event" s_l_any_event (fa 42) (fd 42)
  g_l_any_event : mg "_law_any_event" = some (.ref (fa 42))
  F_l_shown : Fun K "_law_shown" "_law_shown" s_l_shown (fa 43) (fd 43)
  g_l_shown : mg "_law_shown" = some (.ref (fa 43))
  F_l_read : Fun K "_law_read" "_law_read" s_l_read (fa 44) (fd 44)
  g_l_read : mg "_law_read" = some (.ref (fa 44))
  F_l_shown_due : Fun K "_law_shown_due" "_law_shown_due" s_l_shown_due (fa 45) (fd 45)
  g_l_shown_due : mg "_law_shown_due" = some (.ref (fa 45))
  F_l_read_due : Fun K "_law_read_due" "_law_read_due" s_l_read_due (fa 46) (fd 46)
  g_l_read_due : mg "_law_read_due" = some (.ref (fa 46))
  F_l_fine : Fun K "_law_fine" "_law_fine" s_l_fine (fa 47) (fd 47)
  g_l_fine : mg "_law_fine" = some (.ref (fa 47))
  F_law : Fun K "law" "law" s_law (fa 48) (fd 48)
  g_law : mg "law" = some (.ref (fa 48))
section
variable {P : Program} {w : World} {K : PySem.W.Frag} {mg : Str → Option Value} {base : Heap} {ca ia fa : Nat → Addr} {fd fi : Nat → FuncData}
theorem Txt.k_is_integer (T : Txt w K mg ca ia fa fd fi) : PySem.W.keepIn K (.ref (fa 6)) = true := T.F_is_integer.kp
theorem Txt.b_is_integer (T : Txt w K mg ca ia fa fd fi) : Binds K (fd 6) ["value"] [] :=
  T.F_is_integer.binds (ps := ["value"]) fun _ _ _ _ _ _ us hl => match us, hl with | [_], _ => rfl
theorem Txt.k_is_integer_from (T : Txt w K mg ca ia fa fd fi) : PySem.W.keepIn K (.ref (fa 7)) = true := T.F_is_integer_from.kp
theorem Txt.b_is_integer_from (T : Txt w K mg ca ia fa fd fi) : Binds K (fd 7) ["value", "least"] [] :=
  T.F_is_integer_from.binds (ps := ["value", "least"]) fun _ _ _ _ _ _ us hl => match us, hl with | [_, _], _ => rfl
theorem Txt.k_is_name (T : Txt w K mg ca ia fa fd fi) : PySem.W.keepIn K (.ref (fa 8)) = true := T.F_is_name.kp
theorem Txt.b_is_name (T : Txt w K mg ca ia fa fd fi) : Binds K (fd 8) ["value"] [] :=
  T.F_is_name.binds (ps := ["value"]) fun _ _ _ _ _ _ us hl => match us, hl with | [_], _ => rfl
theorem Txt.k_is_event (T : Txt w K mg ca ia fa fd fi) : PySem.W.keepIn K (.ref (fa 13)) = true := T.F_is_event.kp
theorem Txt.b_is_event (T : Txt w K mg ca ia fa fd fi) : Binds K (fd 13) ["value"] [] :=
  T.F_is_event.binds (ps := ["value"]) fun _ _ _ _ _ _ us hl => match us, hl with | [_], _ => rfl
theorem Txt.k_is_part (T : Txt w K mg ca ia fa fd fi) : PySem.W.keepIn K (.ref (fa 14)) = true := T.F_is_part.kp
theorem Txt.b_is_part (T : Txt w K mg ca ia fa fd fi) : Binds K (fd 14) ["value", "kind"] [] :=
  T.F_is_part.binds (ps := ["value", "kind"]) fun _ _ _ _ _ _ us hl => match us, hl with | [_, _], _ => rfl
theorem Txt.k_row_of (T : Txt w K mg ca ia fa fd fi) : PySem.W.keepIn K (.ref (fa 15)) = true := T.F_row_of.kp
theorem Txt.b_row_of (T : Txt w K mg ca ia fa fd fi) : Binds K (fd 15) ["event"] [] :=
  T.F_row_of.binds (ps := ["event"]) fun _ _ _ _ _ _ us hl => match us, hl with | [_], _ => rfl
theorem Txt.k_event_of (T : Txt w K mg ca ia fa fd fi) : PySem.W.keepIn K (.ref (fa 16)) = true := T.F_event_of.kp
theorem Txt.b_event_of (T : Txt w K mg ca ia fa fd fi) : Binds K (fd 16) ["row"] [] :=
  T.F_event_of.binds (ps := ["row"]) fun _ _ _ _ _ _ us hl => match us, hl with | [_], _ => rfl
theorem Txt.k_number_of (T : Txt w K mg ca ia fa fd fi) : PySem.W.keepIn K (.ref (fa 17)) = true := T.F_number_of.kp
theorem Txt.b_number_of (T : Txt w K mg ca ia fa fd fi) : Binds K (fd 17) ["word"] [] :=
  T.F_number_of.binds (ps := ["word"]) fun _ _ _ _ _ _ us hl => match us, hl with | [_], _ => rfl
theorem Txt.k_show_run (T : Txt w K mg ca ia fa fd fi) : PySem.W.keepIn K (.ref (fa 19)) = true := T.F_show_run.kp
theorem Txt.b_show_run (T : Txt w K mg ca ia fa fd fi) : Binds K (fd 19) ["run"] [] :=
  T.F_show_run.binds (ps := ["run"]) fun _ _ _ _ _ _ us hl => match us, hl with | [_], _ => rfl
theorem Txt.k_read_run (T : Txt w K mg ca ia fa fd fi) : PySem.W.keepIn K (.ref (fa 20)) = true := T.F_read_run.kp
theorem Txt.b_read_run (T : Txt w K mg ca ia fa fd fi) : Binds K (fd 20) ["text"] [] :=
  T.F_read_run.binds (ps := ["text"]) fun _ _ _ _ _ _ us hl => match us, hl with | [_], _ => rfl
theorem Txt.k_rows_of (T : Txt w K mg ca ia fa fd fi) : PySem.W.keepIn K (.ref (fa 21)) = true := T.F_rows_of.kp
theorem Txt.b_rows_of (T : Txt w K mg ca ia fa fd fi) : Binds K (fd 21) ["text"] [] :=
  T.F_rows_of.binds (ps := ["text"]) fun _ _ _ _ _ _ us hl => match us, hl with | [_], _ => rfl
theorem Txt.k_events_of (T : Txt w K mg ca ia fa fd fi) : PySem.W.keepIn K (.ref (fa 22)) = true := T.F_events_of.kp
theorem Txt.b_events_of (T : Txt w K mg ca ia fa fd fi) : Binds K (fd 22) ["rows", "first"] [] :=
  T.F_events_of.binds (ps := ["rows", "first"]) fun _ _ _ _ _ _ us hl => match us, hl with | [_, _], _ => rfl
theorem Txt.k_l_pot (T : Txt w K mg ca ia fa fd fi) : PySem.W.keepIn K (.ref (fa 24)) = true := T.F_l_pot.kp
theorem Txt.b_l_pot (T : Txt w K mg ca ia fa fd fi) : Binds K (fd 24) ["_law_script", "_law_k"] [] :=
  T.F_l_pot.binds (ps := ["_law_script", "_law_k"]) fun _ _ _ _ _ _ us hl => match us, hl with | [_, _], _ => rfl
theorem Txt.k_l_take (T : Txt w K mg ca ia fa fd fi) : PySem.W.keepIn K (.ref (fa 25)) = true := T.F_l_take.kp
theorem Txt.b_l_take (T : Txt w K mg ca ia fa fd fi) : Binds K (fd 25) ["_law_pot_here", "_law_upto"] [] :=
  T.F_l_take.binds (ps := ["_law_pot_here", "_law_upto"]) fun _ _ _ _ _ _ us hl => match us, hl with | [_, _], _ => rfl
theorem Txt.k_l_pots (T : Txt w K mg ca ia fa fd fi) : PySem.W.keepIn K (.ref (fa 26)) = true := T.F_l_pots.kp
theorem Txt.b_l_pots (T : Txt w K mg ca ia fa fd fi) : Binds K (fd 26) ["_law_script", "_law_most"] [] :=
  T.F_l_pots.binds (ps := ["_law_script", "_law_most"]) fun _ _ _ _ _ _ us hl => match us, hl with | [_, _], _ => rfl
theorem Txt.k_l_of (T : Txt w K mg ca ia fa fd fi) : PySem.W.keepIn K (.ref (fa 27)) = true := T.F_l_of.kp
theorem Txt.b_l_of (T : Txt w K mg ca ia fa fd fi) : Binds K (fd 27) ["_law_pot_here", "_law_some"] [] :=
  T.F_l_of.binds (ps := ["_law_pot_here", "_law_some"]) fun _ _ _ _ _ _ us hl => match us, hl with | [_, _], _ => rfl
theorem Txt.k_l_turned (T : Txt w K mg ca ia fa fd fi) : PySem.W.keepIn K (.ref (fa 28)) = true := T.F_l_turned.kp
theorem Txt.b_l_turned (T : Txt w K mg ca ia fa fd fi) : Binds K (fd 28) ["_law_pot_here", "_law_some"] [] :=
  T.F_l_turned.binds (ps := ["_law_pot_here", "_law_some"]) fun _ _ _ _ _ _ us hl => match us, hl with | [_, _], _ => rfl
theorem Txt.k_l_names (T : Txt w K mg ca ia fa fd fi) : PySem.W.keepIn K (.ref (fa 29)) = true := T.F_l_names.kp
theorem Txt.b_l_names (T : Txt w K mg ca ia fa fd fi) : Binds K (fd 29) ["_law_pot_here", "_law_many"] [] :=
  T.F_l_names.binds (ps := ["_law_pot_here", "_law_many"]) fun _ _ _ _ _ _ us hl => match us, hl with | [_, _], _ => rfl
theorem Txt.k_l_far (T : Txt w K mg ca ia fa fd fi) : PySem.W.keepIn K (.ref (fa 30)) = true := T.F_l_far.kp
theorem Txt.b_l_far (T : Txt w K mg ca ia fa fd fi) : Binds K (fd 30) ["_law_pot_here"] [] :=
  T.F_l_far.binds (ps := ["_law_pot_here"]) fun _ _ _ _ _ _ us hl => match us, hl with | [_], _ => rfl
theorem Txt.k_l_odd (T : Txt w K mg ca ia fa fd fi) : PySem.W.keepIn K (.ref (fa 31)) = true := T.F_l_odd.kp
theorem Txt.b_l_odd (T : Txt w K mg ca ia fa fd fi) : Binds K (fd 31) ["_law_pot_here"] [] :=
  T.F_l_odd.binds (ps := ["_law_pot_here"]) fun _ _ _ _ _ _ us hl => match us, hl with | [_], _ => rfl
theorem Txt.k_l_bent_part (T : Txt w K mg ca ia fa fd fi) : PySem.W.keepIn K (.ref (fa 32)) = true := T.F_l_bent_part.kp
theorem Txt.b_l_bent_part (T : Txt w K mg ca ia fa fd fi) : Binds K (fd 32) ["_law_pot_here", "_law_value"] [] :=
  T.F_l_bent_part.binds (ps := ["_law_pot_here", "_law_value"]) fun _ _ _ _ _ _ us hl => match us, hl with | [_, _], _ => rfl
theorem Txt.k_l_bent (T : Txt w K mg ca ia fa fd fi) : PySem.W.keepIn K (.ref (fa 33)) = true := T.F_l_bent.kp
theorem Txt.b_l_bent (T : Txt w K mg ca ia fa fd fi) : Binds K (fd 33) ["_law_pot_here", "_law_value", "_law_deep"] [] :=
  T.F_l_bent.binds (ps := ["_law_pot_here", "_law_value", "_law_deep"]) fun _ _ _ _ _ _ us hl => match us, hl with | [_, _, _], _ => rfl
theorem Txt.k_l_caught (T : Txt w K mg ca ia fa fd fi) : PySem.W.keepIn K (.ref (fa 34)) = true := T.F_l_caught.kp
theorem Txt.b_l_caught (T : Txt w K mg ca ia fa fd fi) : Binds K (fd 34) ["_law_look"] [] :=
  T.F_l_caught.binds (ps := ["_law_look"]) fun _ _ _ _ _ _ us hl => match us, hl with | [_], _ => rfl
theorem Txt.k_l_is_from (T : Txt w K mg ca ia fa fd fi) : PySem.W.keepIn K (.ref (fa 35)) = true := T.F_l_is_from.kp
theorem Txt.b_l_is_from (T : Txt w K mg ca ia fa fd fi) : Binds K (fd 35) ["_law_value", "_law_least"] [] :=
  T.F_l_is_from.binds (ps := ["_law_value", "_law_least"]) fun _ _ _ _ _ _ us hl => match us, hl with | [_, _], _ => rfl
theorem Txt.k_l_is_name (T : Txt w K mg ca ia fa fd fi) : PySem.W.keepIn K (.ref (fa 36)) = true := T.F_l_is_name.kp
theorem Txt.b_l_is_name (T : Txt w K mg ca ia fa fd fi) : Binds K (fd 36) ["_law_value"] [] :=
  T.F_l_is_name.binds (ps := ["_law_value"]) fun _ _ _ _ _ _ us hl => match us, hl with | [_], _ => rfl
theorem Txt.k_l_is_number (T : Txt w K mg ca ia fa fd fi) : PySem.W.keepIn K (.ref (fa 37)) = true := T.F_l_is_number.kp
theorem Txt.b_l_is_number (T : Txt w K mg ca ia fa fd fi) : Binds K (fd 37) ["_law_word"] [] :=
  T.F_l_is_number.binds (ps := ["_law_word"]) fun _ _ _ _ _ _ us hl => match us, hl with | [_], _ => rfl
theorem Txt.k_l_event_page (T : Txt w K mg ca ia fa fd fi) : PySem.W.keepIn K (.ref (fa 38)) = true := T.F_l_event_page.kp
theorem Txt.b_l_event_page (T : Txt w K mg ca ia fa fd fi) : Binds K (fd 38) ["_law_event"] [] :=
  T.F_l_event_page.binds (ps := ["_law_event"]) fun _ _ _ _ _ _ us hl => match us, hl with | [_], _ => rfl
theorem Txt.k_l_event_read (T : Txt w K mg ca ia fa fd fi) : PySem.W.keepIn K (.ref (fa 39)) = true := T.F_l_event_read.kp
theorem Txt.b_l_event_read (T : Txt w K mg ca ia fa fd fi) : Binds K (fd 39) ["_law_row"] [] :=
  T.F_l_event_read.binds (ps := ["_law_row"]) fun _ _ _ _ _ _ us hl => match us, hl with | [_], _ => rfl
theorem Txt.k_l_is_form (T : Txt w K mg ca ia fa fd fi) : PySem.W.keepIn K (.ref (fa 40)) = true := T.F_l_is_form.kp
theorem Txt.b_l_is_form (T : Txt w K mg ca ia fa fd fi) : Binds K (fd 40) ["_law_value"] [] :=
  T.F_l_is_form.binds (ps := ["_law_value"]) fun _ _ _ _ _ _ us hl => match us, hl with | [_], _ => rfl
theorem Txt.k_l_bent_page (T : Txt w K mg ca ia fa fd fi) : PySem.W.keepIn K (.ref (fa 41)) = true := T.F_l_bent_page.kp
theorem Txt.b_l_bent_page (T : Txt w K mg ca ia fa fd fi) : Binds K (fd 41) ["_law_pot_here", "_law_page"] [] :=
  T.F_l_bent_page.binds (ps := ["_law_pot_here", "_law_page"]) fun _ _ _ _ _ _ us hl => match us, hl with | [_, _], _ => rfl
theorem Txt.k_l_any_event (T : Txt w K mg ca ia fa fd fi) : PySem.W.keepIn K (.ref (fa 42)) = true := T.F_l_any_event.kp
theorem Txt.b_l_any_event (T : Txt w K mg ca ia fa fd fi) : Binds K (fd 42) ["_law_pot_here", "_law_names_here"] [] :=
  T.F_l_any_event.binds (ps := ["_law_pot_here", "_law_names_here"]) fun _ _ _ _ _ _ us hl => match us, hl with | [_, _], _ => rfl
theorem Txt.k_l_shown (T : Txt w K mg ca ia fa fd fi) : PySem.W.keepIn K (.ref (fa 43)) = true := T.F_l_shown.kp
theorem Txt.b_l_shown (T : Txt w K mg ca ia fa fd fi) : Binds K (fd 43) ["_law_value"] [] :=
  T.F_l_shown.binds (ps := ["_law_value"]) fun _ _ _ _ _ _ us hl => match us, hl with | [_], _ => rfl
theorem Txt.k_l_read (T : Txt w K mg ca ia fa fd fi) : PySem.W.keepIn K (.ref (fa 44)) = true := T.F_l_read.kp
theorem Txt.b_l_read (T : Txt w K mg ca ia fa fd fi) : Binds K (fd 44) ["_law_value"] [] :=
  T.F_l_read.binds (ps := ["_law_value"]) fun _ _ _ _ _ _ us hl => match us, hl with | [_], _ => rfl
theorem Txt.k_l_shown_due (T : Txt w K mg ca ia fa fd fi) : PySem.W.keepIn K (.ref (fa 45)) = true := T.F_l_shown_due.kp
theorem Txt.b_l_shown_due (T : Txt w K mg ca ia fa fd fi) : Binds K (fd 45) ["_law_value"] [] :=
  T.F_l_shown_due.binds (ps := ["_law_value"]) fun _ _ _ _ _ _ us hl => match us, hl with | [_], _ => rfl
theorem Txt.k_l_read_due (T : Txt w K mg ca ia fa fd fi) : PySem.W.keepIn K (.ref (fa 46)) = true := T.F_l_read_due.kp
theorem Txt.b_l_read_due (T : Txt w K mg ca ia fa fd fi) : Binds K (fd 46) ["_law_value"] [] :=
  T.F_l_read_due.binds (ps := ["_law_value"]) fun _ _ _ _ _ _ us hl => match us, hl with | [_], _ => rfl
theorem Txt.k_l_fine (T : Txt w K mg ca ia fa fd fi) : PySem.W.keepIn K (.ref (fa 47)) = true := T.F_l_fine.kp
theorem Txt.b_l_fine (T : Txt w K mg ca ia fa fd fi) : Binds K (fd 47) ["_law_pot_here"] [] :=
  T.F_l_fine.binds (ps := ["_law_pot_here"]) fun _ _ _ _ _ _ us hl => match us, hl with | [_], _ => rfl
theorem Txt.k_law (T : Txt w K mg ca ia fa fd fi) : PySem.W.keepIn K (.ref (fa 48)) = true := T.F_law.kp
theorem Txt.b_law (T : Txt w K mg ca ia fa fd fi) : Binds K (fd 48) ["_law_script"] [] :=
  T.F_law.binds (ps := ["_law_script"]) fun _ _ _ _ _ _ us hl => match us, hl with | [_], _ => rfl
theorem Txt.bi_BadText (T : Txt w K mg ca ia fa fd fi) : Binds K (fi 2) ["self", "value"] [] :=
  T.FI_BadText.binds (ps := ["self", "value"]) fun _ _ _ _ _ _ us hl => match us, hl with | [_, _], _ => rfl
theorem Txt.bi_BadRun (T : Txt w K mg ca ia fa fd fi) : Binds K (fi 3) ["self", "value"] [] :=
  T.FI_BadRun.binds (ps := ["self", "value"]) fun _ _ _ _ _ _ us hl => match us, hl with | [_, _], _ => rfl
end
end Toy
set_option Elab.async false
set_option linter.all false
set_option maxRecDepth 100000
set_option maxHeartbeats 4000000
namespace Toy
open PySem L2 Q

/-! ### pots -/
abbrev potL (o s c : Int) : List V := [.int o, .int s, .int c]
/-- a pot at p, at most B draws of its second kind so far -/
def Pot (H : Hp) (p : Addr) (B : Nat) : Prop := ∃ o s c : Int, H p = some (.lst (potL o s c)) ∧ 0 ≤ o ∧ 0 ≤ s ∧
  s < 2305843009213693952 ∧ 0 ≤ c ∧ c ≤ (B : Int)
/-- all that is tracked but the pot at p is kept -/
def But (p : Addr) (H H' : Hp) : Prop := ∀ b o, b ≠ p → H b = some o → H' b = some o
theorem But.refl (p : Addr) (H : Hp) : But p H H := fun _ _ _ e => e
theorem But.trans {p : Addr} {H H1 H2 : Hp} (a : But p H H1) (b : But p H1 H2) : But p H H2 := fun c o n e => b c o n (a c o n e)
theorem But.of {p : Addr} {H H' : Hp} (s : Same H H') : But p H H' := fun b o _ e => s b o e
theorem Pot.mono {H : Hp} {p : Addr} {B B' : Nat} (h : Pot H p B) (l : B ≤ B') : Pot H p B' := by
  obtain ⟨o, s, c, e, h1, h2, h3, h4, h5⟩ := h
  exact ⟨o, s, c, e, h1, h2, h3, h4, by omega⟩
theorem Pot.same {H H' : Hp} {p : Addr} {B : Nat} (h : Pot H p B) (e : Same H H') : Pot H' p B := by
  obtain ⟨o, s, c, q, r⟩ := h
  exact ⟨o, s, c, e _ _ q, r⟩
theorem same_new {H : Hp} {a : Addr} {o : HO} (n : H a = none) : Same H (upd H a o) := fun b u e => by
  rw [upd_ne (ne_of_none e n)]
  exact e
theorem but_upd {H : Hp} {a : Addr} {o : HO} : But a H (upd H a o) := fun b u n e => by rw [upd_ne n]; exact e
/-- items read -/
theorem ixl {K : PySem.W.Frag} {H : Hp} {p : Addr} {xs : List V} {z : V} {Q : VK} (j : Nat) (h : SqL K H p xs)
    (e : xs[j]? = some z) (q : Q z H) : rIx K (.ref p) (.int (j : Int)) H Q :=
  .inl ⟨p, xs, (j : Int), z, rfl, rfl, h, atI_nat e, q⟩
theorem emod_lt31 {a b : Int} (hb : 0 < b) (h : b < 2147483648) : 0 ≤ a % b ∧ a % b < 2147483648 :=
  ⟨Int.emod_nonneg _ (by omega), Int.lt_trans (Int.emod_lt_of_pos _ hb) h⟩
theorem modN (a : Int) {n : Int} (hn : 0 < n) : ∃ d : Nat, a % n = (d : Int) ∧ (d : Int) < n := by
  obtain ⟨d, hd⟩ := Int.eq_ofNat_of_zero_le (Int.emod_nonneg a (show n ≠ 0 by omega))
  exact ⟨d, hd, hd ▸ Int.emod_lt_of_pos a hn⟩

/-- an assignment, its value's reading apart -/
theorem asg {te : TE} {g : TG} {D : Ends} {σ : L2.St} {H : Hp} (P : V → Hp → Prop)
    (h : ∀ Q : VK, (∀ v H', P v H' → Q v H') → te σ H Q) (k : ∀ v H', P v H' → g v σ H' D.nx) : tAsg te g D σ H := h _ k
theorem seqA {te : TE} {g : TG} {u : TS} {D : Ends} {σ : L2.St} {H : Hp} (P : V → Hp → Prop)
    (h : ∀ Q : VK, (∀ v H', P v H' → Q v H') → te σ H Q) (k : ∀ v H', P v H' → g v σ H' (u D)) : tSeq (tAsg te g) u D σ H := h _ k
theorem seqS {te : TE} {i : Nat} {u : TS} {D : Ends} {σ : L2.St} {H : Hp} (P : V → Hp → Prop)
    (h : ∀ Q : VK, (∀ v H', P v H' → Q v H') → te σ H Q) (k : ∀ v H', P v H' → u D (σ.set i (some v)) H') : tSeq (tAsg te (gName i)) u D σ H := h _ k
theorem ret {te : TE} {D : Ends} {σ : L2.St} {H : Hp} (P : V → Hp → Prop)
    (h : ∀ Q : VK, (∀ v H', P v H' → Q v H') → te σ H Q) (k : ∀ v H', P v H' → D.rt v H') : tRet te D σ H := h _ k
theorem nxt {f : L2.St → Hp → Prop} {rt : VK} {bk ct : L2.St → Hp → Prop} {σ : L2.St} {H : Hp} (h : f σ H) : Ends.nx ⟨f, rt, bk, ct⟩ σ H := h
theorem stepH {α : Type} {G : α → Hp → Prop} {σ : α} {H0 : Hp} (P : Hp → Prop) (h : P H0) (k : ∀ H', P H' → G σ H') : G σ H0 := k H0 h
abbrev primes : List V := [.int 2147483647, .int 2147483629, .int 2147483587, .int 2147483579, .int 2147483563]
theorem prime_at {d : Nat} (h : d < 5) : ∃ pr : Int, primes[d]? = some (.int pr) ∧ 0 < pr ∧ pr < 2147483648 := by
  match d, h with
  | 0, _ => exact ⟨_, rfl, by decide, by decide⟩
  | 1, _ => exact ⟨_, rfl, by decide, by decide⟩
  | 2, _ => exact ⟨_, rfl, by decide, by decide⟩
  | 3, _ => exact ⟨_, rfl, by decide, by decide⟩
  | 4, _ => exact ⟨_, rfl, by decide, by decide⟩
theorem mulOk {i j : Int} (hi : i.natAbs < 2 ^ 64) (hj : j.natAbs < 2 ^ 64) : CMulW i j :=
  wide_mul hi hj (by decide) (by decide) (by decide)
/-- _law_take(pot, n): some number from 0 below n -/
def spTake (K : PySem.W.Frag) : Sp := fun vs H Q _ => ∃ (p : Addr) (n : Int) (B : Nat), vs = [.ref p, .int n] ∧ Pot H p B ∧
  0 < n ∧ n < 1073741824 ∧ B < 1000000 ∧
  ∀ (d : Nat) (H' : Hp), (d : Int) < n → But p H H' → Pot H' p (B + 1) → Q (.int d) H'
theorem pw_bound {s c : Int} (h1 : 0 ≤ s) (h2 : s < 2305843009213693952) (h3 : 0 ≤ c) (h4 : c ≤ 1000001) :
    (s + 99989 * c * c + 71).natAbs < 2 ^ 64 := by
  have h5 : 99989 * c * c ≤ 99989 * 1000001 * 1000001 := by
    have a : 99989 * c ≤ 99989 * 1000001 := by omega
    exact Int.le_trans (Int.mul_le_mul_of_nonneg_right a h3) (Int.mul_le_mul_of_nonneg_left h4 (by omega))
  have h6 : 0 ≤ 99989 * c * c := Int.mul_nonneg (by omega) h3
  omega
section
variable {P : Program} {w : World} {K : PySem.W.Frag} {mg : Str → Option Value} {base : Heap} {ca ia fa : Nat → Addr} {fd fi : Nat → FuncData}
theorem ok_take (T : Txt w K mg ca ia fa fd fi) : FnOk P w K mg base CX0 1 (fa 25) (fd 25) ["_law_pot_here", "_law_upto"] (spTake K) := by
  refine T.F_l_take.ok sc_l_take (fun vs H Q E h => ?_) (fun cdv A outer s H vs Q E hr h => ?_)
  · obtain ⟨p, n, B, rfl, _⟩ := h
    rfl
  · obtain ⟨p, n, B, rfl, ⟨o, sd, c, hp, h1, h2, h3, h4, h5⟩, hn, hn2, hB, k⟩ := h
    refine ⟨_, (pss_cons (ps_if (pt_cmpR op_gt (pe_ix ix_seq (pv 0) pe_int (fun _ _ => rfl)) pe_int (nomark _)) (pss_cons (ps_set (i := 2) sc_l_take.nd rfl (Or.inl rfl) (pe_op op_mod (pe_callTy call_int1 (by rfl) T.n_int (by decide +kernel) (pa_cons (pe_ix ix_seq (pv 0) pe_int (fun _ _ => rfl)) pa_nil)) (pv 1)))
      (pss_cons (ps_asg (pe_op op_fdiv (pe_ix ix_seq (pv 0) pe_int (fun _ _ => rfl)) (pv 1)) (pg_sub (pv 0) pe_int set_list))
      (pss_one (ps_ret (pv 2))))) pss_nil)
      (pss_cons (ps_asg (pe_op op_add (pe_ix ix_seq (pv 0) pe_int (fun _ _ => rfl)) pe_int) (pg_sub (pv 0) pe_int set_list))
      (pss_cons (ps_set (i := 3) sc_l_take.nd rfl (Or.inl rfl) (pe_ix ix_seq (pe_lst (pa_cons pe_int (pa_cons pe_int (pa_cons pe_int (pa_cons pe_int (pa_cons pe_int pa_nil)))))) (pe_op op_mod (pe_callTy call_int1 (by rfl) T.n_int (by decide +kernel) (pa_cons (pe_ix ix_seq (pv 0) pe_int (fun _ _ => rfl)) pa_nil)) pe_int) (fun _ _ => rfl)))
      (pss_cons (ps_set (i := 4) sc_l_take.nd rfl (Or.inl rfl) (pe_op op_mod (pe_callTy call_int1 (by rfl) T.n_int (by decide +kernel) (pa_cons (pe_op op_pw (pe_callTy call_int1 (by rfl) T.n_int (by decide +kernel) (pa_cons (pe_op op_add (pe_op op_add (pe_ix ix_seq (pv 0) pe_int (fun _ _ => rfl)) (pe_op op_mulW (pe_op op_mulW pe_int (pe_ix ix_seq (pv 0) pe_int (fun _ _ => rfl))) (pe_ix ix_seq (pv 0) pe_int (fun _ _ => rfl)))) pe_int) pa_nil)) pe_int) pa_nil)) (pv 3)))
      (pss_cons (ps_set (i := 4) sc_l_take.nd rfl (Or.inl rfl) (pe_op op_mod (pe_callTy call_int1 (by rfl) T.n_int (by decide +kernel) (pa_cons (pe_op op_mulW (pv 4) (pe_op op_add (pe_op op_mod (pe_callTy call_int1 (by rfl) T.n_int (by decide +kernel) (pa_cons (pv 4) pa_nil)) pe_int) (pe_op op_mulW pe_int (pe_ix ix_seq (pv 0) pe_int (fun _ _ => rfl))))) pa_nil)) pe_int))
      (pss_one (ps_ret (pe_op op_mod (pe_callTy call_int1 (by rfl) T.n_int (by decide +kernel) (pa_cons (pe_op op_fdiv (pv 4) pe_int) pa_nil)) (pv 1))))))))), ?_⟩
    refine ⟨_, rfl, ixl 0 (SqL.of hp) rfl ⟨_, _, rfl, rfl, _, rfl, ite2 (fun ho => ?_) (fun ho => ?_)⟩⟩
    · have ho : 0 < o := of_decide_eq_true ho
      refine ⟨_, rfl, ixl 0 (SqL.of hp) rfl (.inl ⟨_, rfl, _, rfl, _, _, rfl, rfl, by omega, ?_⟩)⟩
      refine ⟨_, rfl, ixl 0 (SqL.of hp) rfl ⟨_, rfl, _, _, rfl, rfl, ⟨hn, hn2⟩, ?_⟩⟩
      refine ⟨_, rfl, p, _, 0, 0, rfl, rfl, hp, rfl, ?_⟩
      refine ⟨_, rfl, ?_⟩
      obtain ⟨d, hd, hl⟩ := modN o hn
      show Q (.int (o % n)) _
      rw [hd]
      exact k d _ hl but_upd ⟨o / n, sd, c, upd_same, Int.ediv_nonneg h1 (by omega), h2, h3, h4, by omega⟩
    · have ho : ¬ 0 < o := fun z => ho (decide_eq_true z)
      -- the counter goes up
      refine ⟨_, rfl, ixl 2 (SqL.of hp) rfl ⟨_, _, rfl, rfl, _, rfl, p, _, 2, 2, rfl, rfl, hp, rfl, ?_⟩⟩
      refine stepH (fun H1 => H1 p = some (.lst (potL o sd (c + 1))) ∧ But p H H1) ⟨upd_same, but_upd⟩ ?_
      rintro H1 ⟨e1, b1⟩
      -- the prime
      refine nxt ?_
      refine seqA (fun v H2 => (∃ pr : Int, v = .int pr ∧ 0 < pr ∧ pr < 2147483648) ∧ H2 p = some (.lst (potL o sd (c + 1))) ∧ But p H H2) (fun Q k => ?_) ?_
      · refine ⟨by show 5 ≤ sizeLine; decide, fun l hl => ?_⟩
        refine ⟨_, rfl, ixl 2 (SqL.of (same_new hl _ _ e1)) rfl (.inl ⟨_, rfl, _, _, rfl, rfl, (show (0 : Int) < 5 by decide), ?_⟩)⟩
        obtain ⟨d, hd, hl5⟩ := modN (c + 1) (show (0 : Int) < 5 by decide)
        obtain ⟨pr, hpr, p0, p1⟩ := prime_at (show d < 5 by omega)
        show rIx K (.ref l) (.int ((c + 1) % 5)) _ Q
        rw [hd]
        exact ixl d (SqL.of upd_same) hpr (k _ _ ⟨⟨pr, rfl, p0, p1⟩, same_new hl _ _ e1, b1.trans (But.of (same_new hl))⟩)
      rintro _ H2 ⟨⟨pr, rfl, p0, p1⟩, e2, b2⟩
      -- stirred
      have z0 : 0 ≤ c + 1 := by omega
      have z1 : c + 1 ≤ 1000001 := by omega
      have k1 := mulOk (show (99989 : Int).natAbs < 2 ^ 64 by decide) (show (c + 1).natAbs < 2 ^ 64 by omega)
      have k2 := mulOk (show (99989 * (c + 1)).natAbs < 2 ^ 64 by omega) (show (c + 1).natAbs < 2 ^ 64 by omega)
      have k3 := pw_bound h2 h3 z0 z1
      refine seqA (fun v H3 => H2 = H3 ∧ ∃ s1 : Nat, v = .int (s1 : Int) ∧ (s1 : Int) < 2147483648) (fun Q k => ?_) ?_
      · refine ⟨_, rfl, ixl 1 (SqL.of e2) rfl ⟨_, rfl, ixl 2 (SqL.of e2) rfl ⟨_, _, rfl, rfl, k1, _, rfl, ixl 2 (SqL.of e2) rfl ⟨_, _, rfl, rfl, k2, ?_⟩⟩⟩⟩
        refine ⟨_, _, rfl, rfl, _, _, rfl, rfl, .inl ⟨_, rfl, _, _, rfl, rfl, ⟨by decide, 64, k3, by decide⟩, ?_⟩⟩
        refine .inl ⟨_, rfl, _, rfl, _, _, rfl, rfl, p0, ?_⟩
        obtain ⟨s1, hs1, l1⟩ := modN ((sd + 99989 * (c + 1) * (c + 1) + 71) ^ (3 : Int).toNat) p0
        exact k _ _ ⟨rfl, s1, congrArg V.int hs1, by omega⟩
      rintro _ _ ⟨rfl, s1, rfl, l1⟩
      -- stirred again
      refine seqA (fun v H3 => H2 = H3 ∧ ∃ s1 : Nat, v = .int (s1 : Int)) (fun Q k => ?_) ?_
      · obtain ⟨s2, hs2, l2⟩ := modN (s1 : Int) (show (0 : Int) < 10007 by decide)
        have k4 := mulOk (show (83 : Int).natAbs < 2 ^ 64 by decide) (show (c + 1).natAbs < 2 ^ 64 by omega)
        have k5 := mulOk (show (s1 : Int).natAbs < 2 ^ 64 by omega) (show ((s1 : Int) % 10007 + 83 * (c + 1)).natAbs < 2 ^ 64 by omega)
        refine ⟨_, rfl, _, rfl, .inl ⟨_, rfl, _, _, rfl, rfl, (show (0 : Int) < 10007 by decide), _, rfl, ixl 2 (SqL.of e2) rfl ⟨_, _, rfl, rfl, k4, _, _, rfl, rfl, ?_⟩⟩⟩
        refine ⟨_, _, rfl, rfl, k5, .inl ⟨_, rfl, _, _, rfl, rfl, (show (0 : Int) < 2305843009213693907 by decide), ?_⟩⟩
        obtain ⟨s3, hs3, l3⟩ := modN ((s1 : Int) * ((s1 : Int) % 10007 + 83 * (c + 1))) (show (0 : Int) < 2305843009213693907 by decide)
        exact k _ _ ⟨rfl, s3, congrArg V.int hs3⟩
      rintro _ _ ⟨rfl, s3, rfl⟩
      refine ⟨_, rfl, _, _, rfl, rfl, ⟨by decide, by decide⟩, .inl ⟨_, rfl, _, rfl, _, _, rfl, rfl, hn, ?_⟩⟩
      obtain ⟨s4, hs4, l4⟩ := modN ((s3 : Int) / 103) hn
      show Q (.int (((s3 : Int) / 103) % n)) _
      rw [hs4]
      exact k s4 _ l4 b2 ⟨o, sd, c + 1, e2, h1, h2, h3, z0, by omega⟩
end
end Toy
set_option Elab.async false
set_option linter.all false
set_option maxRecDepth 100000
set_option maxHeartbeats 4000000
namespace Toy
open PySem L2 Q
/-- a sequence that can be drawn from while the pot is at p: its items -/
def Items (K : PySem.W.Frag) (H : Hp) (p : Addr) (x : V) (xs : List V) : Prop :=
  (∃ a, x = .ref a ∧ a ≠ p ∧ SqL K H a xs) ∨ (∃ a, x = .ref a ∧ SqT K H a xs) ∨
    (∃ z : Str, x = .str z ∧ xs = z.cps.toList.map (fun c => V.str ⟨#[c]⟩) ∧ z.length ≤ sizeLine)
theorem seq_but {K : PySem.W.Frag} {p a : Addr} {H H' : Hp} {xs : List V} (b : But p H H') (n : a ≠ p) (h : SqL K H a xs) : SqL K H' a xs := by
  rcases h with (h | ⟨o, h⟩) | h
  · exact .inl (.inl (b _ _ n h))
  · exact .inl (.inr ⟨o, b _ _ n h⟩)
  · exact .inr h
theorem tup_but {K : PySem.W.Frag} {p a : Addr} {H H' : Hp} {xs : List V} (b : But p H H') {q : List V} (hp : H p = some (.lst q)) (h : SqT K H a xs) : SqT K H' a xs := by
  rcases h with (h | ⟨o, h⟩) | h
  · refine .inl (.inl (b _ _ ?_ h))
    rintro rfl
    rw [hp] at h
    cases h
  · refine .inl (.inr ⟨o, b _ _ ?_ h⟩)
    rintro rfl
    rw [hp] at h
    cases h
  · exact .inr h
/-- _law_of(pot, some): one of them -/
def spOf (K : PySem.W.Frag) : Sp := fun vs H Q _ => ∃ (p : Addr) (x : V) (xs : List V) (B : Nat), vs = [.ref p, x] ∧ Pot H p B ∧ B < 1000000 ∧
  Items K H p x xs ∧ 0 < xs.length ∧ xs.length < 1073741824 ∧
  ∀ (d : Nat) (v : V) (H' : Hp), xs[d]? = some v → But p H H' → Pot H' p (B + 1) → Q v H'
/-- _law_pot(script, k): a new pot -/
def spPot (K : PySem.W.Frag) : Sp := fun vs H Q _ => ∃ (a : Addr) (ns : List Int) (k : Nat), vs = [.ref a, .int (k : Int)] ∧ SqL K H a (ns.map V.int) ∧ k < 1000 ∧
  ns.length ≤ 63 ∧ ∀ (p : Addr) (H' : Hp), Same H H' → H p = none → Pot H' p 0 → Q (.ref p) H'
/-- _law_pots(script, n): some new pots, each by itself -/
def spPots (K : PySem.W.Frag) : Sp := fun vs H Q _ => ∃ (a : Addr) (ns : List Int) (n : Nat), vs = [.ref a, .int (n : Int)] ∧ SqL K H a (ns.map V.int) ∧ n < 1000 ∧
  ns.length ≤ 63 ∧ ∀ (l : Addr) (ps : List Addr) (H' : Hp), Same H H' → H' l = some (.lst (ps.map V.ref)) → ps.length ≤ 1000 → ps.Nodup → l ∉ ps →
    (∀ p ∈ ps, Pot H' p 0) → Q (.ref l) H'
theorem b01 (b : Bool) : (if b = true then (1 : Int) else 0).natAbs < 2 ^ 4 ∧ (0 : Int) ≤ (if b = true then (1 : Int) else 0) := by
  cases b <;> decide
theorem two60 : (10 : Int) ^ (60 : Int).toNat = 10 ^ 60 := by decide
theorem big_nn : (0 : Int) < ((10 : Int) ^ (60 : Int).toNat) ^ (5 : Int).toNat := by decide +kernel
theorem big_lt {x : Int} (h : x < ((10 : Int) ^ (60 : Int).toNat) ^ (5 : Int).toNat) (h0 : 0 ≤ x) : x.natAbs < 2 ^ 1000 := by
  have e : ((10 : Int) ^ (60 : Int).toNat) ^ (5 : Int).toNat < 2 ^ 1000 := by decide +kernel
  omega
section
variable {P : Program} {w : World} {K : PySem.W.Frag} {mg : Str → Option Value} {base : Heap} {ca ia fa : Nat → Addr} {fd fi : Nat → FuncData}
theorem ok_of (T : Txt w K mg ca ia fa fd fi) : FnOk P w K mg base CX0 2 (fa 27) (fd 27) ["_law_pot_here", "_law_some"] (spOf K) := by
  have G_l_take := ok_take (P := P) (w := w) (base := base) T
  refine T.F_l_of.ok sc_l_of (fun vs H Q E h => ?_) (fun cdv A outer s H vs Q E hr h => ?_)
  · obtain ⟨p, x, xs, B, rfl, _⟩ := h
    rfl
  · obtain ⟨p, x, xs, B, rfl, hp, hB, hx, h0, h1, k⟩ := h
    obtain ⟨o, sd, c, hpp, _⟩ := id hp
    refine ⟨_, (pss_one (ps_ret (pe_ix ix_seq (pv 1) (pe_call G_l_take (hr.mono (by decide)) rfl T.g_l_take T.k_l_take T.b_l_take .nil pass0 (pa_cons (pv 0) (pa_cons (pe_callB call_len (by rfl) T.n_len (by decide +kernel) (pa_cons (pv 1) pa_nil)) pa_nil))) (fun _ _ => rfl)))), ?_⟩
    have lenV : LenV K x H xs.length := by
      rcases hx with ⟨a, rfl, _, h⟩ | ⟨a, rfl, h⟩ | ⟨z, rfl, e, hz⟩
      · exact .inl ⟨xs, h, rfl⟩
      · exact .inr ⟨xs, h, rfl⟩
      · refine ⟨hz, ?_⟩
        rw [e, List.length_map]
        rfl
    refine ⟨_, rfl, _, rfl, _, rfl, _, _, rfl, lenV, p, _, B, rfl, hp, by omega, by omega, hB, fun d H' hd hb hp' => ?_⟩
    obtain ⟨v, hv⟩ : ∃ v, xs[d]? = some v := ⟨_, List.getElem?_eq_getElem (show d < xs.length by omega)⟩
    have fin := k d v H' hv hb hp'
    rcases hx with ⟨a, rfl, ne, h⟩ | ⟨a, rfl, h⟩ | ⟨z, rfl, e, hz⟩
    · exact .inl ⟨a, xs, d, v, rfl, rfl, seq_but hb ne h, atI_nat hv, fin⟩
    · exact .inr (.inl ⟨a, xs, d, v, rfl, rfl, tup_but hb hpp h, atI_nat hv, fin⟩)
    · rw [e, List.getElem?_map] at hv
      obtain ⟨c', hc, rfl⟩ := Option.map_eq_some_iff.mp hv
      exact .inr (.inr ⟨z, d, c', rfl, rfl, hz, atI_nat hc, fin⟩)
theorem int_id {i : Int} {H : Hp} {Q : VK} (q : Q (.int i) H) : (∃ j, ([V.int i] : List V) = [V.int j] ∧ Q (.int j) H) ∨ (∃ k, ([V.int i] : List V) = [V.bl k] ∧ Q (.int (if k then 1 else 0)) H) := .inl ⟨i, rfl, q⟩
theorem ok_pot (T : Txt w K mg ca ia fa fd fi) : FnOk P w K mg base CX0 1 (fa 24) (fd 24) ["_law_script", "_law_k"] (spPot K) := by
  refine T.F_l_pot.ok sc_l_pot (fun vs H Q E h => ?_) (fun cdv A outer s H vs Q E hr h => ?_)
  · obtain ⟨a, ns, k, rfl, _⟩ := h
    rfl
  · obtain ⟨a, ns, k, rfl, hs, hk, hn, q⟩ := h
    refine ⟨_, (pss_cons (ps_set (i := 2) sc_l_pot.nd rfl (Or.inl rfl) (pe_ifExp (pt_cmpR op_lt (pv 1) (pe_callB call_len (by rfl) T.n_len (by decide +kernel) (pa_cons (pv 0) pa_nil)) (nomark _)) (pe_ix ix_seq (pv 0) (pv 1) (fun _ _ => rfl)) (pe_op op_add (pe_op op_mulW pe_int (pv 1)) pe_int)))
      (pss_cons (ps_set (i := 3) sc_l_pot.nd rfl (Or.inl rfl) (pe_op op_mulW (pe_op op_mod (pe_callTy call_int1 (by rfl) T.n_int (by decide +kernel) (pa_cons (pe_callB call_abs (by rfl) T.n_abs (by decide +kernel) (pa_cons (pv 2) pa_nil)) pa_nil)) (pe_op op_pw (pe_op op_pw pe_int pe_int) pe_int)) (pe_callTy call_int1 (by rfl) T.n_int (by decide +kernel) (pa_cons (pe_cmpR op_ge (pe_callB call_abs (by rfl) T.n_abs (by decide +kernel) (pa_cons (pv 2) pa_nil)) (pe_op op_pw pe_int pe_int) (nomark _)) pa_nil))))
      (pss_one (ps_ret (pe_lst (pa_cons (pv 3) (pa_cons (pe_op op_mod (pe_callTy call_int1 (by rfl) T.n_int (by decide +kernel) (pa_cons (pe_op op_add (pe_op op_add (pe_op op_mulW (pe_op op_mod (pe_callTy call_int1 (by rfl) T.n_int (by decide +kernel) (pa_cons (pv 2) pa_nil)) pe_int) pe_int) (pe_op op_mulW (pe_op op_mulW pe_int (pv 1)) (pv 1))) pe_int) pa_nil)) pe_int) (pa_cons pe_int pa_nil)))))))), ?_⟩
    refine seqS (fun v H' => H = H' ∧ ∃ z : Int, v = .int z) (fun Q k' => ?_) ?_
    · refine ⟨_, rfl, _, rfl, _, _, rfl, .inl ⟨_, hs, rfl⟩, _, _, rfl, rfl, _, rfl, ite2 (fun h => ?_) (fun _ => ?_)⟩
      · have h : (k : Int) < ((ns.map V.int).length : Nat) := of_decide_eq_true h
        rw [List.length_map] at h
        have hz : (ns.map V.int)[k]? = some (.int (ns[k]'(by omega))) := by
          rw [List.getElem?_map, List.getElem?_eq_getElem (by omega)]
          rfl
        exact ⟨_, rfl, _, rfl, ixl k hs hz (k' _ _ ⟨rfl, _, rfl⟩)⟩
      · refine ⟨_, rfl, _, _, rfl, rfl, mulOk (by decide) (by omega), _, _, rfl, rfl, ?_⟩
        exact k' _ _ ⟨rfl, _, rfl⟩
    rintro _ _ ⟨rfl, z, rfl⟩
    have pw1 : CPw 10 60 := ⟨by decide, 4, by decide, by decide⟩
    have pw2 : CPw ((10 : Int) ^ (60 : Int).toNat) 5 := ⟨by decide, 200, by decide +kernel, by decide⟩
    have pw3 : CPw 10 18 := ⟨by decide, 4, by decide, by decide⟩
    refine seqS (fun v H' => H = H' ∧ ∃ z : Int, v = .int z ∧ 0 ≤ z) (fun Q k' => ?_) ?_
    · refine ⟨_, rfl, _, rfl, .inl ⟨_, rfl, _, _, rfl, rfl, pw1, _, _, rfl, rfl, pw2, _, _, rfl, rfl, big_nn, ?_⟩⟩
      obtain ⟨d, hd, hl⟩ := modN (if z < 0 then -z else z) big_nn
      refine ⟨_, rfl, _, rfl, _, _, rfl, rfl, pw3, _, _, rfl, rfl, .inr ⟨_, rfl, ?_⟩⟩
      have ⟨h2, h3⟩ := b01 (decide ((10 : Int) ^ (18 : Int).toNat ≤ if z < 0 then -z else z))
      refine ⟨_, _, rfl, rfl, ?_, ?_⟩
      · show CMulW ((if z < 0 then -z else z) % _) _
        rw [hd]
        exact wide_mul (big_lt hl (by omega)) h2 (by decide) (by decide) (by decide)
      · refine k' _ _ ⟨rfl, _, rfl, ?_⟩
        show 0 ≤ ((if z < 0 then -z else z) % _) * _
        rw [hd]
        exact Int.mul_nonneg (by omega) h3
    rintro _ _ ⟨rfl, own, rfl, hown⟩
    have hp61 : (0 : Int) < 2305843009213693951 := by decide
    obtain ⟨d, hd, hl⟩ := modN z hp61
    have m1 : CMulW (z % 2305843009213693951) 69389 := by
      rw [hd]
      exact mulOk (by omega) (by decide)
    have m2 : CMulW 7561 (k : Int) := mulOk (by decide) (by omega)
    have m3 : CMulW (7561 * (k : Int)) (k : Int) := mulOk (by omega) (by omega)
    refine ⟨_, rfl, _, rfl, .inl ⟨_, rfl, _, _, rfl, rfl, hp61, _, _, rfl, rfl, m1, _, rfl, _, _, rfl, rfl, m2, _, rfl, _, _, rfl, rfl, m3, ?_⟩⟩
    refine ⟨_, _, rfl, rfl, _, _, rfl, rfl, .inl ⟨_, rfl, _, _, rfl, rfl, (show (0 : Int) < 2305843009213693921 by decide), ?_⟩⟩
    refine ⟨by show 3 ≤ sizeLine; decide, fun p hp => ?_⟩
    obtain ⟨d2, hd2, hl2⟩ := modN (z % 2305843009213693951 * 69389 + 7561 * (k : Int) * (k : Int) + 83) (show (0 : Int) < 2305843009213693921 by decide)
    refine q p _ (same_new hp) hp ⟨own, (d2 : Int), 0, ?_, hown, by omega, by omega, by decide, by decide⟩
    rw [← hd2]
    exact upd_same
end
end Toy
set_option Elab.async false
set_option linter.all false
set_option maxRecDepth 100000
set_option maxHeartbeats 4000000
namespace Toy
open PySem L2 Q
section
variable {P : Program} {w : World} {K : PySem.W.Frag} {mg : Str → Option Value} {base : Heap} {ca ia fa : Nat → Addr} {fd fi : Nat → FuncData}
theorem ok_pots (T : Txt w K mg ca ia fa fd fi) : FnOk P w K mg base CX0 2 (fa 26) (fd 26) ["_law_script", "_law_most"] (spPots K) := by
  have G_l_pot := ok_pot (P := P) (w := w) (base := base) T
  refine T.F_l_pots.ok sc_l_pots (fun vs H Q E h => ?_) (fun cdv A outer s H vs Q E hr h => ?_)
  · obtain ⟨a, ns, n, rfl, _⟩ := h
    rfl
  · obtain ⟨a, ns, n, rfl, hs, hn, hl, q⟩ := h
    refine ⟨_, (pss_one (ps_ret (pe_lc (own := [("_law_k", 2)]) (g := (gName 2)) (tt := tYes) rfl sc_l_pots.nd (pi_range1 rfl T.n_range (pa_cons (pe_callB (call_max2 rfl) (by rfl) T.n_max (by decide +kernel) (pa_cons pe_int (pa_cons (pe_callB (call_min2 rfl) (by rfl) T.n_min (by decide +kernel) (pa_cons (pe_callTy call_int1 (by rfl) T.n_int (by decide +kernel) (pa_cons (pv 1) pa_nil)) (pa_cons (pe_callB call_len (by rfl) T.n_len (by decide +kernel) (pa_cons (pv 0) pa_nil)) pa_nil))) pa_nil))) pa_nil)) (blkOk_by (own := [("_law_k", 2)]) (N := N_l_pots) (sc := defScope s_l_pots) (by decide +kernel)) (fun _ _ _ _ _ => (pg_name (i := 2) sc_l_pots.nd rfl (Or.inl rfl))) (fun _ _ _ _ _ => pts_nil) (fun _ _ _ _ _ => by exact (pe_call G_l_pot (hr.mono (by decide)) rfl T.g_l_pot T.k_l_pot T.b_l_pot .nil pass0 (pa_cons (pv 0) (pa_cons (pv 2) pa_nil))))))), ?_⟩
    refine ⟨_, rfl, .inl ⟨_, rfl, _, rfl, _, _, rfl, .inl ⟨_, hs, rfl⟩, _, _, rfl, _, _, rfl, ?_⟩⟩
    obtain ⟨m, hm, hm2⟩ : ∃ m : Nat, (if (if ((ns.map V.int).length : Int) < (n : Int) then ((ns.map V.int).length : Int) else (n : Int)) > 1
        then (if ((ns.map V.int).length : Int) < (n : Int) then ((ns.map V.int).length : Int) else (n : Int)) else 1) = (m : Int) ∧ m ≤ 1000 := by
      refine ⟨((if (if ((ns.map V.int).length : Int) < (n : Int) then ((ns.map V.int).length : Int) else (n : Int)) > 1
        then (if ((ns.map V.int).length : Int) < (n : Int) then ((ns.map V.int).length : Int) else (n : Int)) else 1)).toNat, ?_, ?_⟩ <;> repeat' split <;> omega
    rw [hm]
    refine ⟨_, rfl, by omega, by omega, fun D hD => ?_⟩
    refine lc_range (lo := 0) (n := (m : Int).toNat) (fun i H' => ∃ ps : List Addr, ps.length = i ∧ H' D = some (.lst (ps.map V.ref)) ∧ Same H H' ∧ ps.Nodup ∧ D ∉ ps ∧ ∀ p ∈ ps, Pot H' p 0)
      ⟨[], rfl, upd_same, same_new hD, List.nodup_nil, List.not_mem_nil, fun _ z => nomatch z⟩ ?_ ?_
    · rintro i H1 hi ⟨ps, hlen, h1, s1, nd, nD, hp⟩
      refine ⟨rfl, ?_⟩
      dsimp only [tYes]
      rw [if_pos rfl]
      refine ⟨_, rfl, _, rfl, a, ns, i, by rw [Int.zero_add] <;> rfl, s1.seq hs, by omega, hl, fun p H2 s2 np hpot => ?_⟩
      have npD : p ≠ D := fun z => by rw [z, h1] at np; cases np
      have s3 : ∀ {o}, ∀ b u, b ≠ D → H2 b = some u → upd H2 D o b = some u := fun b u n e => by rw [upd_ne n]; exact e
      refine ⟨_, s2 _ _ h1, ?_, ps ++ [p], by simp [hlen], ?_, ?_, ?_, ?_, ?_⟩
      · rw [List.length_map]
        exact small1000 (by omega)
      · rw [upd_same, List.map_append]
        rfl
      · intro b u e
        exact s3 b u (ne_of_none e hD) (s2 _ _ (s1 _ _ e))
      · refine List.nodup_append.mpr ⟨nd, by simp, ?_⟩
        intro x hx y hy e
        have e2 : y = p := by simpa using hy
        subst e2
        obtain ⟨_, _, _, z, _⟩ := hp x hx
        rw [e, np] at z
        cases z
      · intro z
        rcases List.mem_append.mp z with z | z
        · exact nD z
        · exact npD (by simpa using z : D = p).symm
      · intro x hx
        have nx : x ≠ D := by
          rcases List.mem_append.mp hx with z | z
          · rintro rfl
            exact nD z
          · have e2 : x = p := by simpa using z
            rw [e2]
            exact npD
        have px : Pot H2 x 0 := by
          rcases List.mem_append.mp hx with z | z
          · exact (hp x z).same s2
          · have e2 : x = p := by simpa using z
            rw [e2]
            exact hpot
        obtain ⟨o, sd, c, e, r⟩ := px
        exact ⟨o, sd, c, s3 _ _ nx e, r⟩
    · rintro H1 ⟨ps, hlen, h1, s1, nd, nD, hp⟩
      exact q D ps H1 s1 h1 (by omega) nd nD hp
end
end Toy
set_option Elab.async false
set_option linter.all false
set_option maxRecDepth 100000
set_option maxHeartbeats 4000000
namespace Toy
open PySem L2 Q
/-- _law_turned(pot, xs): the items, turned about, in a new list -/
def spTurned (K : PySem.W.Frag) : Sp := fun vs H Q _ => ∃ (p a : Addr) (xs : List V) (B : Nat), vs = [.ref p, .ref a] ∧ Pot H p B ∧ B < 999990 ∧ a ≠ p ∧
  SqL K H a xs ∧ 0 < xs.length ∧ xs.length < 1000000 ∧
  ∀ (ys : List V) (q : Addr) (H' : Hp), ys.Perm xs → But p H H' → Pot H' p (B + 2) → H q = none → H' q = some (.lst ys) → Q (.ref q) H'
/-- _law_far(pot): a length from 1 to 90 -/
def spFar (K : PySem.W.Frag) : Sp := fun vs H Q _ => ∃ (p : Addr) (B : Nat), vs = [.ref p] ∧ Pot H p B ∧ B < 999990 ∧
  ∀ (n : Nat) (H' : Hp), 1 ≤ n → n ≤ 90 → But p H H' → Pot H' p (B + 3) → Q (.int (n : Int)) H'
theorem cut_drop (xs : List V) (d : Nat) : cutV xs (some (d : Int)) none = xs.drop d := by
  unfold cutV
  rw [HT.sIx_nat, HT.sIx_none, List.take_of_length_le (by rw [List.length_drop]; omega)]
  rcases Nat.le_total d xs.length with h | h
  · rw [Nat.min_eq_left h]
  · rw [Nat.min_eq_right h, List.drop_eq_nil_of_le (Nat.le_refl _), List.drop_eq_nil_of_le h]
theorem cut_take (xs : List V) (d : Nat) : cutV xs none (some (d : Int)) = xs.take d := by
  unfold cutV
  rw [HT.sIx_nat, HT.sIx_none, List.drop_zero, Nat.sub_zero]
  rcases Nat.le_total d xs.length with h | h
  · rw [Nat.min_eq_left h]
  · rw [Nat.min_eq_right h, List.take_of_length_le (Nat.le_refl _), List.take_of_length_le h]
theorem rot_perm (xs : List V) (d : Nat) : (xs.drop d ++ xs.take d).Perm xs := by
  have h : (xs.drop d ++ xs.take d).Perm (xs.take d ++ xs.drop d) := List.perm_append_comm
  rw [List.take_append_drop] at h
  exact h
theorem pot_none {H : Hp} {p q : Addr} {B : Nat} (h : Pot H p B) (n : H q = none) : q ≠ p := by
  rintro rfl
  obtain ⟨o, s, c, e, _⟩ := h
  rw [e] at n
  cases n
theorem but_none {H H' : Hp} {p q : Addr} {B : Nat} (b : But p H H') (h : Pot H' p B) (n : H' q = none) : H q = none := by
  cases e : H q with
  | none => rfl
  | some o =>
    rw [b q o (pot_none h n) e] at n
    cases n
theorem pot_but {H H' : Hp} {p a : Addr} {o : HO} (n : H a = none) (h : ∃ B, Pot H p B) (b : But p (upd H a o) H') : H' a = some o := by
  obtain ⟨B, h⟩ := h
  exact b _ _ (pot_none h n) upd_same
section
variable {P : Program} {w : World} {K : PySem.W.Frag} {mg : Str → Option Value} {base : Heap} {ca ia fa : Nat → Addr} {fd fi : Nat → FuncData}
theorem ok_turned (T : Txt w K mg ca ia fa fd fi) : FnOk P w K mg base CX0 2 (fa 28) (fd 28) ["_law_pot_here", "_law_some"] (spTurned K) := by
  have G_l_take := ok_take (P := P) (w := w) (base := base) T
  refine T.F_l_turned.ok sc_l_turned (fun vs H Q E h => ?_) (fun cdv A outer s H vs Q E hr h => ?_)
  · obtain ⟨p, a, xs, B, rfl, _⟩ := h
    rfl
  · obtain ⟨p, a, xs, B, rfl, hp, hB, nap, hx, h0, h1, k⟩ := h
    refine ⟨_, (pss_cons (ps_set (i := 2) sc_l_turned.nd rfl (Or.inl rfl) (pe_call G_l_take (hr.mono (by decide)) rfl T.g_l_take T.k_l_take T.b_l_take .nil pass0 (pa_cons (pv 0) (pa_cons (pe_callB call_len (by rfl) T.n_len (by decide +kernel) (pa_cons (pv 1) pa_nil)) pa_nil))))
      (pss_cons (ps_set (i := 3) sc_l_turned.nd rfl (Or.inl rfl) (pe_op op_cat (pe_slice sl_list (pv 1) (po_some (pv 2)) po_none) (pe_slice sl_list (pv 1) po_none (po_some (pv 2)))))
      (pss_one (ps_ret (pe_ifExp (pt_cmpR op_eq (pe_call G_l_take (hr.mono (by decide)) rfl T.g_l_take T.k_l_take T.b_l_take .nil pass0 (pa_cons (pv 0) (pa_cons pe_int pa_nil))) pe_int (nomark _)) (pe_revL (pv 3)) (pv 3)))))), ?_⟩
    refine seqS (fun v H' => ∃ d : Nat, v = .int (d : Int) ∧ But p H H' ∧ Pot H' p (B + 1)) (fun Q k' => ?_) ?_
    · refine ⟨_, rfl, _, rfl, _, _, rfl, .inl ⟨xs, hx, rfl⟩, p, _, B, rfl, hp, by omega, by omega, by omega, fun d H' hd hb hp' => k' _ _ ⟨d, rfl, hb, hp'⟩⟩
    rintro _ H1 ⟨d, rfl, b1, p1⟩
    have hx1 := seq_but b1 nap hx
    refine seqS (fun v H' => ∃ q, v = .ref q ∧ Same H1 H' ∧ H1 q = none ∧ H' q = some (.lst (xs.drop d ++ xs.take d))) (fun Q k' => ?_) ?_
    · refine ⟨_, rfl, _, rfl, _, rfl, a, xs, rfl, hx1, fun l1 n1 => ?_⟩
      refine ⟨_, rfl, _, rfl, _, rfl, a, xs, rfl, (same_new n1).seq hx1, fun l2 n2 => ?_⟩
      have e1 := cut_drop xs d
      have e2 := cut_take xs d
      refine ⟨l1, l2, xs.drop d, xs.take d, rfl, rfl, ?_, ?_, ?_, fun q nq => k' _ _ ⟨q, rfl, ?_, ?_, upd_same⟩⟩
      · rw [same_new n2 _ _ upd_same, e1]
      · rw [upd_same, e2]
      · rw [List.length_drop, List.length_take, sizeLine_eq]
        omega
      · exact ((same_new n1).trans (same_new n2)).trans (same_new nq)
      · cases e : H1 q with
        | none => rfl
        | some o =>
          rw [((same_new n1).trans (same_new n2)) _ _ e] at nq
          cases nq
    rintro _ H2 ⟨q, rfl, s2, nq, hq⟩
    have p2 := p1.same s2
    have nqp : q ≠ p := pot_none p1 nq
    have nH : H q = none := but_none b1 p1 nq
    refine ⟨_, rfl, p, 2, B + 1, rfl, p2, by decide, by decide, by omega, fun d2 H3 hd2 b3 p3 => ?_⟩
    have h3 : H3 q = some (.lst (xs.drop d ++ xs.take d)) := b3 _ _ nqp hq
    have b13 : But p H H3 := (b1.trans (But.of s2)).trans b3
    refine ⟨rfl, _, rfl, ite2 (fun _ => ?_) (fun _ => ?_)⟩
    · refine ⟨_, rfl, q, _, rfl, SqL.of h3, fun r nr => ?_⟩
      exact k _ r _ ((List.reverse_perm _).trans (rot_perm xs d)) (b13.trans (But.of (same_new nr))) (p3.same (same_new nr)) (but_none b13 p3 nr) upd_same
    · exact ⟨_, rfl, k _ q _ (rot_perm xs d) b13 p3 nH h3⟩
theorem ok_far (T : Txt w K mg ca ia fa fd fi) : FnOk P w K mg base CX0 3 (fa 30) (fd 30) ["_law_pot_here"] (spFar K) := by
  have G_l_take := ok_take (P := P) (w := w) (base := base) T
  have G_l_of := ok_of (P := P) (w := w) (base := base) T
  refine T.F_l_far.ok sc_l_far (fun vs H Q E h => ?_) (fun cdv A outer s H vs Q E hr h => ?_)
  · obtain ⟨p, B, rfl, _⟩ := h
    rfl
  · obtain ⟨p, B, rfl, hp, hB, k⟩ := h
    refine ⟨_, (pss_one (ps_ret (pe_call G_l_of (hr.mono (by decide)) rfl T.g_l_of T.k_l_of T.b_l_of .nil pass0 (pa_cons (pv 0) (pa_cons (pe_lst (pa_cons pe_int (pa_cons pe_int (pa_cons pe_int (pa_cons pe_int (pa_cons pe_int (pa_cons pe_int (pa_cons pe_int (pa_cons pe_int (pa_cons pe_int (pa_cons pe_int (pa_cons (pe_op op_add pe_int (pe_call G_l_take (hr.mono (by decide)) rfl T.g_l_take T.k_l_take T.b_l_take .nil pass0 (pa_cons (pv 0) (pa_cons pe_int pa_nil)))) (pa_cons (pe_op op_add pe_int (pe_call G_l_take (hr.mono (by decide)) rfl T.g_l_take T.k_l_take T.b_l_take .nil pass0 (pa_cons (pv 0) (pa_cons pe_int pa_nil)))) pa_nil))))))))))))) pa_nil))))), ?_⟩
    refine ⟨_, rfl, ?_⟩
    refine ⟨_, rfl, p, 12, B, rfl, hp, by decide, by decide, by omega, fun d1 H1 hd1 b1 p1 => ?_⟩
    refine ⟨_, _, rfl, rfl, _, rfl, p, 90, B + 1, rfl, p1, by decide, by decide, by omega, fun d2 H2 hd2 b2 p2 => ?_⟩
    refine ⟨_, _, rfl, rfl, by show 12 ≤ sizeLine; decide, fun l nl => ?_⟩
    have b12 := b1.trans b2
    have nlp : l ≠ p := pot_none p2 nl
    refine ⟨p, .ref l, _, B + 2, rfl, p2.same (same_new nl), by omega, .inl ⟨l, rfl, nlp, SqL.of upd_same⟩, by show 0 < 12; decide, by show 12 < 1073741824; decide, fun d v H3 hv b3 p3 => ?_⟩
    have b13 := (b12.trans (But.of (same_new nl))).trans b3
    have out : ∃ n : Nat, v = .int (n : Int) ∧ 1 ≤ n ∧ n ≤ 90 := by
      match d, hv with
      | 0, hv => cases hv; exact ⟨1, rfl, by decide, by decide⟩
      | 1, hv => cases hv; exact ⟨1, rfl, by decide, by decide⟩
      | 2, hv => cases hv; exact ⟨2, rfl, by decide, by decide⟩
      | 3, hv => cases hv; exact ⟨2, rfl, by decide, by decide⟩
      | 4, hv => cases hv; exact ⟨3, rfl, by decide, by decide⟩
      | 5, hv => cases hv; exact ⟨1, rfl, by decide, by decide⟩
      | 6, hv => cases hv; exact ⟨4, rfl, by decide, by decide⟩
      | 7, hv => cases hv; exact ⟨2, rfl, by decide, by decide⟩
      | 8, hv => cases hv; exact ⟨5, rfl, by decide, by decide⟩
      | 9, hv => cases hv; exact ⟨3, rfl, by decide, by decide⟩
      | 10, hv =>
        cases hv
        exact ⟨1 + d1, by simp, by omega, by omega⟩
      | 11, hv =>
        cases hv
        exact ⟨1 + d2, by simp, by omega, by omega⟩
      | d + 12, hv => cases hv
    obtain ⟨n, rfl, n1, n2⟩ := out
    exact k n H3 n1 n2 b13 p3
end
end Toy
set_option Elab.async false
set_option linter.all false
set_option maxRecDepth 100000
set_option maxHeartbeats 4000000
namespace Toy
open PySem L2 Q
abbrev Low (z : Str) : Prop := ∀ c ∈ z.cps.toList, 97 ≤ c ∧ c ≤ 122
abbrev small : Str := Str.ofString "abcdefghijklmnopqrstuvwxyz"
/-- a right name -/
abbrev NameOk (z : Str) : Prop := 1 ≤ z.length ∧ z.length ≤ 8 ∧ Low z
theorem small_at {j : Nat} (h : j < 26) : small.cps.toList[j]? = some (97 + j) := by
  have all : ∀ j : Fin 26, small.cps.toList[j.val]? = some (97 + j.val) := by decide +kernel
  exact all ⟨j, h⟩
theorem small_len : small.cps.toList.length = 26 := by decide +kernel
theorem roomU {k : Nat} {A : Around} (h : Room k A) : A.units + 2 < cLine := by
  have q := h.units
  omega
theorem len_list (z : Str) : z.length = z.cps.toList.length := rfl
theorem joinL_nil : ∀ ls : List (List Nat), TL.joinL [] ls = ls.flatten
  | [] => rfl
  | [p] => by simp [TL.joinL]
  | p :: q :: r => by
    rw [TL.joinL, joinL_nil (q :: r), List.flatten_cons (L := q :: r), List.nil_append]
theorem join_cps (ys : List Str) : (Txt.join (Str.ofString "") ys).cps.toList = (ys.map (·.cps.toList)).flatten := by
  rw [TL.join_eq]
  have e := TL.tl_join (Str.ofString "") ys
  have e0 : TL.tl (Str.ofString "") = [] := by decide +kernel
  rw [e0, joinL_nil] at e
  exact e
theorem flat_low : ∀ {ys : List Str}, (∀ y ∈ ys, y.length = 1 ∧ Low y) → (ys.map (·.cps.toList)).flatten.length = ys.length ∧ (∀ c ∈ (ys.map (·.cps.toList)).flatten, 97 ≤ c ∧ c ≤ 122) ∧
    (ys.map (·.length)).sum = ys.length
  | [], _ => ⟨rfl, fun _ h => (by cases h), rfl⟩
  | y :: ys, h => by
    obtain ⟨h1, h2⟩ := h y List.mem_cons_self
    obtain ⟨q1, q2, q3⟩ := flat_low fun z hz => h z (List.mem_cons_of_mem _ hz)
    rw [len_list] at h1
    refine ⟨?_, ?_, ?_⟩
    · rw [List.map_cons, List.flatten_cons, List.length_append, h1, q1, List.length_cons]
      omega
    · intro c hc
      rw [List.map_cons, List.flatten_cons, List.mem_append] at hc
      exact hc.elim (h2 c) (q2 c)
    · rw [List.map_cons, List.sum_cons, q3, len_list, h1, List.length_cons]
      omega
abbrev rPlus : R2 := fun x y H Q => ∃ i j, x = .str i ∧ y = .str j ∧ i.length + j.length ≤ sizeLine ∧ Q (.str (i ++ j)) H
abbrev rInt1 : List V → Hp → VK → Prop := fun xs H Q => (∃ i, xs = [.int i] ∧ Q (.int i) H) ∨ ∃ k, xs = [.bl k] ∧ Q (.int (if k then 1 else 0)) H
abbrev tName (K : PySem.W.Frag) : TE :=
  tOp rPlus (tOp rPlus (tSl rSlS (tVar 3) tNoPart (tPart (tVar 5))) (tOp (rIx K) (tVar 2) (tOp (rI (fun _ j => 0 < j) fun i j => .int (i % j))
    (tCB rInt1 (tCons (tOp (rI0 fun i j => .int (i + j)) (tVar 6) (tOp (rI CMulW fun i j => .int (i * j)) (tC (.int 5)) (tVar 8))) tNil)) (tC (.int 26)))))
    (tSl rSlS (tVar 3) (tPart (tVar 5)) tNoPart)
/-- the k-th name: a letter put into the stem -/
def nameL (z : Str) (sp a k : Nat) : List Nat := z.cps.toList.take sp ++ (97 + (a + 5 * k) % 26) :: z.cps.toList.drop sp
def nameS (z : Str) (sp a k : Nat) : Str := ⟨(nameL z sp a k).toArray⟩
theorem cutS_take (z : Str) (d : Nat) : (cutS z none (some (d : Int))).cps.toList = z.cps.toList.take d := by
  unfold cutS
  rw [HT.sIx_nat, HT.sIx_none, List.toList_toArray, List.drop_zero, Nat.sub_zero]
  rcases Nat.le_total d z.length with h | h
  · rw [Nat.min_eq_left h]
  · rw [Nat.min_eq_right h]
    show z.cps.toList.take z.cps.toList.length = _
    rw [List.take_length, List.take_of_length_le h]
theorem cutS_drop (z : Str) (d : Nat) : (cutS z (some (d : Int)) none).cps.toList = z.cps.toList.drop d := by
  unfold cutS
  rw [HT.sIx_nat, HT.sIx_none, List.toList_toArray, List.take_of_length_le (by rw [List.length_drop]; exact Nat.le_refl _)]
  rcases Nat.le_total d z.length with h | h
  · rw [Nat.min_eq_left h]
  · rw [Nat.min_eq_right h]
    show z.cps.toList.drop z.cps.toList.length = _
    rw [List.drop_length, List.drop_eq_nil_of_le h]
theorem name_eq (z : Str) (sp a k : Nat) : cutS z none (some (sp : Int)) ++ (⟨#[97 + (a + 5 * k) % 26]⟩ : Str) ++ cutS z (some (sp : Int)) none = nameS z sp a k := by
  apply Q.str_ext
  have e := TL.tl_append (cutS z none (some (sp : Int)) ++ (⟨#[97 + (a + 5 * k) % 26]⟩ : Str)) (cutS z (some (sp : Int)) none)
  have e2 := TL.tl_append (cutS z none (some (sp : Int))) (⟨#[97 + (a + 5 * k) % 26]⟩ : Str)
  refine Eq.trans e ?_
  rw [e2]
  show (cutS z none (some (sp : Int))).cps.toList ++ [97 + (a + 5 * k) % 26] ++ (cutS z (some (sp : Int)) none).cps.toList = nameL z sp a k
  rw [cutS_take, cutS_drop, List.append_assoc]
  rfl
theorem name_inj {z : Str} {sp a k l : Nat} (hk : k < 26) (hl : l < 26) (e : nameS z sp a k = nameS z sp a l) : k = l := by
  have e1 : nameL z sp a k = nameL z sp a l := by
    have q := congrArg (fun s : Str => s.cps.toList) e
    exact q
  unfold nameL at e1
  have e2 := List.append_cancel_left e1
  injection e2 with e3 _
  omega
theorem name_ok {z : Str} {sp a k : Nat} (hz : z.length ≤ 7) (low : Low z) : NameOk (nameS z sp a k) := by
  have hl : (nameS z sp a k).length = z.length + 1 := by
    show (nameL z sp a k).length = _
    unfold nameL
    rw [List.length_append, List.length_cons, List.length_take, List.length_drop, len_list]
    omega
  refine ⟨by omega, by omega, fun c hc => ?_⟩
  have hc : c ∈ nameL z sp a k := hc
  unfold nameL at hc
  rcases List.mem_append.mp hc with h | h
  · exact low c (List.mem_of_mem_take h)
  · rcases List.mem_cons.mp h with h | h
    · have : (a + 5 * k) % 26 < 26 := Nat.mod_lt _ (by decide)
      omega
    · exact low c (List.mem_of_mem_drop h)
/-- _law_names(pot, n): n unlike right names in their order -/
def spNames (K : PySem.W.Frag) : Sp := fun vs H Q _ => ∃ (p : Addr) (n B : Nat), vs = [.ref p, .int (n : Int)] ∧ Pot H p B ∧ B < 999900 ∧ n ≤ 26 ∧
  ∀ (zs : List Str) (q : Addr) (H' : Hp), zs.length = n → zs.Pairwise tLt → (∀ z ∈ zs, NameOk z) → But p H H' → Pot H' p (B + 20) → H q = none → H' q = some (.lst (zs.map V.str)) → Q (.ref q) H'
section
variable {P : Program} {w : World} {K : PySem.W.Frag} {mg : Str → Option Value} {base : Heap} {ca ia fa : Nat → Addr} {fd fi : Nat → FuncData}
theorem ok_names (T : Txt w K mg ca ia fa fd fi) : FnOk P w K mg base CX0 3 (fa 29) (fd 29) ["_law_pot_here", "_law_many"] (spNames K) := by
  have G_l_take := ok_take (P := P) (w := w) (base := base) T
  have G_l_of := ok_of (P := P) (w := w) (base := base) T
  refine T.F_l_names.ok sc_l_names (fun vs H Q E h => ?_) (fun cdv A outer s H vs Q E hr h => ?_)
  · obtain ⟨p, n, B, rfl, _⟩ := h
    rfl
  · obtain ⟨p, n, B, rfl, hp, hB, hn, k⟩ := h
    refine ⟨_, (pss_cons (ps_set (i := 2) sc_l_names.nd rfl (Or.inr rfl) pe_str)
      (pss_cons (ps_set (i := 3) sc_l_names.nd rfl (Or.inr rfl) (pe_join pe_str (pe_lc (own := [("_law_turn", 4)]) (g := (gName 4)) (tt := tYes) rfl sc_l_names.nd (pi_range1 rfl T.n_range (pa_cons (pe_call G_l_of (hr.mono (by decide)) rfl T.g_l_of T.k_l_of T.b_l_of .nil pass0 (pa_cons (pv 0) (pa_cons (pe_lst (pa_cons pe_int (pa_cons pe_int (pa_cons pe_int (pa_cons pe_int (pa_cons pe_int (pa_cons pe_int (pa_cons pe_int (pa_cons pe_int (pa_cons pe_int pa_nil)))))))))) pa_nil))) pa_nil)) (blkOk_by (own := [("_law_turn", 4)]) (N := N_l_names) (sc := defScope s_l_names) (by decide +kernel)) (fun _ _ _ _ _ => (pg_name (i := 4) sc_l_names.nd rfl (Or.inl rfl))) (fun _ _ _ _ _ => pts_nil) (fun _ _ _ _ _ => by exact (pe_call G_l_of (hr.mono (by decide)) rfl T.g_l_of T.k_l_of T.b_l_of .nil pass0 (pa_cons (pv 0) (pa_cons (pv 2) pa_nil)))))))
      (pss_cons (ps_asg (pe_tup (pa_cons (pe_call G_l_take (hr.mono (by decide)) rfl T.g_l_take T.k_l_take T.b_l_take .nil pass0 (pa_cons (pv 0) (pa_cons (pe_op op_add (pe_callB call_len (by rfl) T.n_len (by decide +kernel) (pa_cons (pv 3) pa_nil)) pe_int) pa_nil))) (pa_cons (pe_call G_l_take (hr.mono (by decide)) rfl T.g_l_take T.k_l_take T.b_l_take .nil pass0 (pa_cons (pv 0) (pa_cons pe_int pa_nil))) pa_nil))) (pg_tup rfl (pgs_cons (pg_name (i := 5) sc_l_names.nd rfl (Or.inr rfl)) (pgs_cons (pg_name (i := 6) sc_l_names.nd rfl (Or.inr rfl)) pgs_nil))))
      (pss_cons (ps_setLc (i := 7) (own := [("_law_k", 8)]) (g := (gName 8)) (tt := tYes) (te := (tName K)) rfl sc_l_names.nd rfl rfl (sw_true rfl rfl rfl (by decide +kernel)) (pi_range1 rfl T.n_range (pa_cons (pv 1) pa_nil)) (blkOk_by (own := [("_law_k", 8)]) (N := N_l_names) (sc := defScope s_l_names) (by decide +kernel)) (fun _ _ _ _ _ => (pg_name (i := 8) sc_l_names.nd rfl (Or.inl rfl))) (fun _ _ _ _ _ => pts_nil) (fun _ _ _ _ _ => by exact (pe_op op_add_str (pe_op op_add_str (pe_slice sl_str (pv 3) po_none (po_some (pv 5))) (pe_ix ix_seq (pv 2) (pe_op op_mod (pe_callTy call_int1 (by rfl) T.n_int (by decide +kernel) (pa_cons (pe_op op_add (pv 6) (pe_op op_mulW pe_int (pv 8))) pa_nil)) pe_int) (fun _ _ => rfl))) (pe_slice sl_str (pv 3) (po_some (pv 5)) po_none))))
      (pss_one (ps_ret (pe_callB (cr_sortTx rfl (roomU hr)) (by rfl) T.n_sorted (by decide +kernel) (pa_cons (pe_callTy (cr_setTx rfl) (by rfl) T.n_set (by decide +kernel) (pa_cons (pv 7) pa_nil)) pa_nil)))))))), ?_⟩
    refine seqS (fun v H' => H = H' ∧ v = .str small) (fun Q k' => k' _ _ ⟨rfl, rfl⟩) ?_
    rintro _ _ ⟨rfl, rfl⟩
    refine seqS (fun v H' => ∃ z : Str, v = .str z ∧ z.length ≤ 7 ∧ Low z ∧ But p H H' ∧ Pot H' p (B + 9)) (fun Q k' => ?_) ?_
    · refine ⟨⟨_, rfl⟩, ?_⟩
      refine ⟨_, rfl, by show 9 ≤ sizeLine; decide, fun l nl => ?_⟩
      have nlp : l ≠ p := pot_none hp nl
      refine ⟨p, .ref l, _, B, rfl, hp.same (same_new nl), by omega, .inl ⟨l, rfl, nlp, SqL.of upd_same⟩, by show 0 < 9; decide, by show 9 < 1073741824; decide, fun d v H3 hv b3 p3 => ?_⟩
      have b13 := (But.of (same_new nl)).trans b3
      obtain ⟨m, rfl, hm⟩ : ∃ m : Nat, v = .int (m : Int) ∧ m ≤ 7 := by
        match d, hv with
        | 0, hv => cases hv; exact ⟨0, rfl, by decide⟩
        | 1, hv => cases hv; exact ⟨0, rfl, by decide⟩
        | 2, hv => cases hv; exact ⟨1, rfl, by decide⟩
        | 3, hv => cases hv; exact ⟨2, rfl, by decide⟩
        | 4, hv => cases hv; exact ⟨3, rfl, by decide⟩
        | 5, hv => cases hv; exact ⟨4, rfl, by decide⟩
        | 6, hv => cases hv; exact ⟨5, rfl, by decide⟩
        | 7, hv => cases hv; exact ⟨6, rfl, by decide⟩
        | 8, hv => cases hv; exact ⟨7, rfl, by decide⟩
        | d + 9, hv => cases hv
      refine ⟨_, rfl, by omega, by omega, fun D hD => ?_⟩
      have nDp : D ≠ p := pot_none p3 hD
      refine lc_range (lo := 0) (n := (m : Int).toNat) (fun i H' => ∃ ys : List Str, ys.length = i ∧ H' D = some (.lst (ys.map V.str)) ∧ (∀ y ∈ ys, y.length = 1 ∧ Low y) ∧ But p H H' ∧ Pot H' p (B + 1 + i))
        ⟨[], rfl, upd_same, fun _ h => (by cases h), b13.trans (But.of (same_new hD)), p3.same (same_new hD)⟩ ?_ ?_
      · rintro i H1 hi ⟨ys, hlen, h1, hy, b1, p1⟩
        refine ⟨rfl, ?_⟩
        dsimp only [tYes]
        rw [if_pos rfl]
        refine ⟨_, rfl, _, rfl, p, .str small, _, B + 1 + i, rfl, p1, by omega, .inr (.inr ⟨small, rfl, rfl, by decide +kernel⟩), ?_, ?_, fun d v H2 hv b2 p2 => ?_⟩
        · rw [List.length_map, small_len]; decide
        · rw [List.length_map, small_len]; decide
        rw [List.getElem?_map] at hv
        obtain ⟨c, hc, rfl⟩ := Option.map_eq_some_iff.mp hv
        have hd : d < 26 := by
          have q := (List.getElem?_eq_some_iff.mp hc).1
          rw [small_len] at q
          exact q
        rw [small_at hd] at hc
        cases hc
        refine ⟨_, b2 _ _ nDp h1, ?_, ys ++ [⟨#[97 + d]⟩], by simp [hlen], ?_, ?_, ?_, ?_⟩
        · rw [List.length_map, sizeLine_eq]
          omega
        · rw [upd_same, List.map_append]
          rfl
        · intro y hy2
          rcases List.mem_append.mp hy2 with q | q
          · exact hy y q
          · rw [List.mem_singleton.mp q]
            refine ⟨rfl, fun c hc => ?_⟩
            have e : c = 97 + d := by simpa using hc
            omega
        · intro b o nb e
          have nbD : b ≠ D := by
            rintro rfl
            rw [b13 b o nb e] at hD
            cases hD
          rw [upd_ne nbD]
          exact b2 _ _ nb (b1 _ _ nb e)
        · obtain ⟨o, sd, c, e, r⟩ := p2
          exact ⟨o, sd, c, by rw [upd_ne nDp.symm]; exact e, by omega⟩
      · rintro H1 ⟨ys, hlen, h1, hy, b1, p1⟩
        obtain ⟨f1, f2, f3⟩ := flat_low hy
        refine ⟨_, D, ys, rfl, rfl, .inl (SqL.of h1), ?_, k' _ _ ⟨_, rfl, ?_, ?_, b1, p1.mono (by omega)⟩⟩
        · show _ + ys.length * 0 ≤ _
          rw [f3]
          omega
        · rw [len_list, join_cps, f1]
          omega
        · intro c hc
          rw [join_cps] at hc
          exact f2 c hc
    rintro _ H1 ⟨z, rfl, hz, low, b1, p1⟩
    refine seqA (fun v H' => ∃ (sp a : Nat) (tq : Addr), v = .ref tq ∧ a < 26 ∧ H' tq = some (.tup [.int (sp : Int), .int (a : Int)]) ∧ But p H1 H' ∧ Pot H' p (B + 11)) (fun Q k' => ?_) ?_
    · refine ⟨_, rfl, _, rfl, _, _, rfl, ⟨by rw [sizeLine_eq]; omega, rfl⟩, _, _, rfl, rfl, p, ((z.length : Nat) : Int) + 1, B + 9, rfl, p1, by omega, by omega, by omega, fun sp H2 hsp b2 p2 => ?_⟩
      refine ⟨_, rfl, p, 26, B + 10, rfl, p2, by decide, by decide, by omega, fun a H3 ha b3 p3 => ?_⟩
      refine ⟨by show 2 ≤ sizeLine; decide, fun t nt => k' _ _ ⟨sp, a, t, rfl, by omega, upd_same, ?_, p3.same (same_new nt)⟩⟩
      exact (b2.trans b3).trans (But.of (same_new nt))
    rintro _ H2 ⟨sp, a, tq, rfl, ha, htq, b2, p2⟩
    refine ⟨tq, _, rfl, SqT.of htq, rfl, _, _, rfl, _, _, rfl, rfl, ?_⟩
    have hz2 : z.length ≤ sizeLine := by rw [sizeLine_eq]; omega
    refine seqS (fun v H' => ∃ l, v = .ref l ∧ Same H2 H' ∧ H2 l = none ∧ H' l = some (.lst (((List.range n).map (nameS z sp a)).map V.str))) (fun Q k' => ?_) ?_
    · refine ⟨_, rfl, _, rfl, by omega, by omega, fun D hD => ?_⟩
      refine lc_range (lo := 0) (n := (n : Int).toNat) (fun i H' => H' D = some (.lst (((List.range i).map (nameS z sp a)).map V.str)) ∧ Same H2 H') ⟨upd_same, same_new hD⟩ ?_ ?_
      · rintro i H3 hi ⟨h3, s3⟩
        refine ⟨rfl, ?_⟩
        dsimp only [tYes]
        rw [if_pos rfl]
        refine ⟨_, rfl, _, rfl, _, rfl, z, rfl, hz2, ?_⟩
        have m1 : CMulW 5 (0 + (i : Int)) := mulOk (by decide) (by omega)
        refine ⟨_, rfl, _, rfl, _, rfl, _, _, rfl, rfl, m1, _, _, rfl, rfl, .inl ⟨_, rfl, _, _, rfl, rfl, (show (0 : Int) < 26 by decide), ?_⟩⟩
        have ei : ((a : Int) + 5 * (0 + (i : Int))) % 26 = (((a + 5 * i) % 26 : Nat) : Int) := by omega
        show rIx K (.str small) (.int (((a : Int) + 5 * (0 + (i : Int))) % 26)) _ _
        rw [ei]
        have l26 : (a + 5 * i) % 26 < 26 := Nat.mod_lt _ (by decide)
        refine .inr (.inr ⟨small, _, 97 + (a + 5 * i) % 26, rfl, rfl, by decide +kernel, atI_nat (small_at l26), ?_⟩)
        have c1 : (cutS z none (some (sp : Int))).length ≤ 7 := by rw [len_list, cutS_take, List.length_take]; rw [len_list] at hz; omega
        have c2 : (cutS z (some (sp : Int)) none).length ≤ 7 := by rw [len_list, cutS_drop, List.length_drop]; rw [len_list] at hz; omega
        have c3 : (cutS z none (some (sp : Int)) ++ (⟨#[97 + (a + 5 * i) % 26]⟩ : Str)).length ≤ 8 := by
          have e := TL.tl_append (cutS z none (some (sp : Int))) (⟨#[97 + (a + 5 * i) % 26]⟩ : Str)
          have e2 := congrArg List.length e
          rw [List.length_append] at e2
          rw [len_list] at c1 ⊢
          refine Nat.le_trans (Nat.le_of_eq e2) ?_
          show _ + 1 ≤ 8
          exact Nat.add_le_add_right c1 1
        refine ⟨_, _, rfl, rfl, ?_, ?_⟩
        · show _ + 1 ≤ sizeLine
          rw [sizeLine_eq]
          omega
        refine ⟨_, rfl, _, rfl, _, rfl, z, rfl, hz2, _, _, rfl, rfl, ?_, ?_⟩
        · rw [sizeLine_eq]
          omega
        refine ⟨_, h3, ?_, ?_, ?_⟩
        · rw [List.length_map, List.length_map, List.length_range, sizeLine_eq]
          omega
        · rw [upd_same, name_eq, List.range_succ, List.map_append, List.map_append]
          rfl
        · intro b o e
          rw [upd_ne (ne_of_none e hD)]
          exact s3 b o e
      · rintro H3 ⟨h3, s3⟩
        exact k' _ _ ⟨D, rfl, s3, hD, h3⟩
    rintro _ H3 ⟨l, rfl, s3, nl, hl⟩
    have nd : ((List.range n).map (nameS z sp a)).Nodup := by
      refine List.pairwise_map.mpr (List.Pairwise.imp_of_mem (fun {i j} hi hj ne e => ?_) List.nodup_range)
      exact ne (name_inj (Nat.lt_of_lt_of_le (List.mem_range.mp hi) hn) (Nat.lt_of_lt_of_le (List.mem_range.mp hj) hn) e)
    have ln : ((List.range n).map (nameS z sp a)).length = n := by rw [List.length_map, List.length_range]
    refine ⟨_, rfl, l, _, rfl, SqL.of hl, nd, by omega, fun S us ru nS => ?_⟩
    refine ⟨S, us, _, rfl, upd_same, ru, nd, by omega, fun q zs pz pw nq => ?_⟩
    have p3 := (p2.same s3).same (same_new (o := SetM w S us) nS)
    have b3 : But p H (upd H3 S (SetM w S us)) := ((b1.trans b2).trans (But.of s3)).trans (But.of (same_new nS))
    refine k zs q _ (pz.length_eq.trans ln) pw (fun y hy => ?_) (b3.trans (But.of (same_new nq))) ((p3.same (same_new nq)).mono (by omega)) (but_none b3 p3 nq) upd_same
    obtain ⟨i, _, rfl⟩ := List.mem_map.mp (pz.mem_iff.mp hy)
    exact name_ok hz low
end
end Toy
set_option Elab.async false
set_option linter.all false
set_option maxRecDepth 100000
set_option maxHeartbeats 4000000
namespace Toy
open PySem L2 Q
section
variable {K : PySem.W.Frag} {mg : Str → Option Value} {nm : Str} {C Cn : Addr}
theorem mro_of (h : ∃ nm q N bs sn sub ab col dd k0 k1 k2 k3 k5, K.lookup C = some (excClassObj nm q C N bs (.ref Cn :: PySem.HandSPX.veTail) true sn sub ab col dd k0 k1 k2 k3 k5 "ValueError.__new__"))
    (b : Value) : PySem.W.mroIn K C b = some ((Value.ref C :: Value.ref Cn :: PySem.HandSPX.veTail).contains b) := by
  obtain ⟨_, _, _, _, _, _, _, _, _, _, _, _, _, _, e⟩ := h
  unfold PySem.W.mroIn PySem.W.clsIn
  rw [e]
  rfl
theorem cls_of {bm : List Value} (h : ∃ nm q N bs sn sub ab col dd k0 k1 k2 k3 k5, K.lookup C = some (excClassObj nm q C N bs bm true sn sub ab col dd k0 k1 k2 k3 k5 "ValueError.__new__")) :
    (PySem.W.clsIn K C).isSome = true ∧ PySem.W.hasDictIn K C = true ∧ PySem.W.typeIn K (.ref C) = some (.type "type") := by
  obtain ⟨_, _, _, _, _, _, _, _, _, _, _, _, _, _, e⟩ := h
  refine ⟨?_, ?_, ?_⟩
  · unfold PySem.W.clsIn
    rw [e]
    rfl
  · unfold PySem.W.hasDictIn PySem.W.clsIn
    rw [e]
    rfl
  · show (K.lookup C).map (·.cls) = _
    rw [e]
    rfl
theorem ErrC.sub (c : ErrC K mg nm C Cn) (b : Value) : PySem.W.subIn K (.ref C) b = some ((Value.ref C :: Value.ref Cn :: PySem.HandSPX.veTail).contains b) := mro_of c.xL b
theorem ErrC.oex (c : ErrC K mg nm C Cn) : OexC K C := by
  have h := c.xL
  obtain ⟨nm', q, N, bs, sn, sub, ab, col, dd, k0, k1, k2, k3, k5, e⟩ := h
  refine ⟨⟨nm', q, N, bs, _, sn, sub, ab, col, dd, k0, k1, k2, k3, k5, e, rfl⟩, c.sa, ?_, (cls_of c.xL).2.2, c.kC⟩
  rw [c.sub]
  rfl
theorem ErrC.exc (c : ErrC K mg nm C Cn) (hn : PySem.W.specialIn K (.builtin "object.__class__") "__get__" = some (some (.builtin "getset_descriptor.__get__")))
    (ht : PySem.W.takesIn K (.builtin "object.__class__") = some true) : ExcC K C := by
  refine ⟨c.ga, c.gg, ?_, (cls_of c.xL).2.1, c.hc, hn, ht, ?_⟩
  · rw [c.sub]
    rfl
  · rw [mro_of c.xL]
    rfl
theorem ErrC.kit (c : ErrC K mg nm C Cn) {D : Addr} (h1 : (PySem.W.clsIn K D).isSome = true) (h2 : PySem.W.typeIn K (.ref D) = some (.type "type")) :
    PySem.W.kitOne K (.ref C) (.ref D) = some (decide (D = C ∨ D = Cn)) := by
  unfold PySem.W.kitOne
  by_cases e : C = D
  · subst e
    rw [if_pos (by simp)]
    simp
  · rw [if_neg (by simpa using e)]
    show (if ((PySem.W.clsIn K D).isSome && PySem.W.typeIn K (.ref D) == some (.type "type")) = true then PySem.W.subIn K (.ref C) (.ref D) else none) = _
    rw [if_pos (by rw [h1, h2]; rfl), c.sub]
    congr 1
    simp only [List.contains_cons, PySem.HandSPX.veTail]
    have e2 : (Value.ref D == Value.ref C) = decide (D = C) := by
      by_cases z : D = C
      · simp [z]
      · simp [z]
    have e3 : (Value.ref D == Value.ref Cn) = decide (D = Cn) := by
      by_cases z : D = Cn
      · simp [z]
      · simp [z]
    rw [e2, e3]
    by_cases z : D = C <;> by_cases y : D = Cn <;> simp [z, y]
theorem ErrC.kitVE (c : ErrC K mg nm C Cn) : PySem.W.kitOne K (.ref C) (.type "ValueError") = some true := by
  unfold PySem.W.kitOne
  rw [if_neg (by simp)]
  show (if PySem.W.kitMeta "ValueError" = true then PySem.W.subIn K (.ref C) (.type "ValueError") else none) = _
  rw [if_pos (by decide +kernel), c.sub]
  rfl
end

/-! ### the errors' own __init__ -/
def spI1 (C : Addr) (f : Str) : Sp := fun vs H Q _ => ∃ (a : Addr) (v : V), vs = [.ref a, v] ∧ H a = some (exo a C none) ∧
  ∀ d H', But a H H' → H d = none → H' a = some (exo a C (some d)) → H' d = some (exd d [(f, v)]) → Q .non H'
def spI2 (C : Addr) (f g : Str) : Sp := fun vs H Q _ => ∃ (a : Addr) (v u : V), vs = [.ref a, v, u] ∧ H a = some (exo a C none) ∧
  ∀ d H', But a H H' → H d = none → H' a = some (exo a C (some d)) → H' d = some (exd d [(g, u), (f, v)]) → Q .non H'
theorem spI1_len {C : Addr} {f : Str} {vs : List V} {H : Hp} {Q : VK} {E : XK} (h : spI1 C f vs H Q E) : vs.length = 2 := by
  obtain ⟨a, v, rfl, _⟩ := h
  rfl
theorem spI2_len {C : Addr} {f g : Str} {vs : List V} {H : Hp} {Q : VK} {E : XK} (h : spI2 C f g vs H Q E) : vs.length = 3 := by
  obtain ⟨a, v, u, rfl, _⟩ := h
  rfl
theorem err_laid {H : Hp} {a dx C : Addr} {fs : List (Str × V)} (n : H dx = none) (ne : dx ≠ a) :
    But a H (upd (upd H dx (exd dx fs)) a (exo a C (some dx))) ∧ upd (upd H dx (exd dx fs)) a (exo a C (some dx)) dx = some (exd dx fs) := by
  refine ⟨fun b o nb e => ?_, ?_⟩
  · rw [upd_ne nb, upd_ne (ne_of_none e n)]
    exact e
  · rw [upd_ne ne, upd_same]
theorem init1 {K : PySem.W.Frag} {C : Addr} {f : Str} (o : OexC K C) (nf : PySem.W.findIn K (.ref C) f = some none) {vs : List V} {H : Hp} {Q : VK} {E : XK} {N : List Str}
    (h : spI1 C f vs H Q E) : tOst K f (tVar 0) (tVar 1) { nx := fun _ H' => Q .non H', rt := Q } (L2.start N vs) H := by
  obtain ⟨a, v, rfl, ha, k⟩ := h
  refine ⟨_, rfl, _, rfl, a, C, rfl, o, nf, .inl ⟨ha, fun dx nd ne => ?_⟩⟩
  obtain ⟨b, e⟩ := err_laid (C := C) (fs := [(f, v)]) nd ne
  exact k dx _ b nd upd_same e
theorem init2 {K : PySem.W.Frag} {C : Addr} {f g : Str} (o : OexC K C) (nf : PySem.W.findIn K (.ref C) f = some none) (ng : PySem.W.findIn K (.ref C) g = some none) {vs : List V} {H : Hp} {Q : VK} {E : XK} {N : List Str}
    (h : spI2 C f g vs H Q E) : tSeq (tOst K f (tVar 0) (tVar 1)) (tOst K g (tVar 0) (tVar 2)) { nx := fun _ H' => Q .non H', rt := Q } (L2.start N vs) H := by
  obtain ⟨a, v, u, rfl, ha, k⟩ := h
  refine ⟨_, rfl, _, rfl, a, C, rfl, o, nf, .inl ⟨ha, fun dx nd ne => ?_⟩⟩
  refine ⟨_, rfl, _, rfl, a, C, rfl, o, ng, .inr ⟨dx, [(f, v)], upd_same, by rw [upd_ne ne, upd_same], (by show 1 ≤ 900; decide), ?_⟩⟩
  refine k dx _ (fun b x nb e => ?_) nd ?_ upd_same
  · rw [upd_ne (ne_of_none e nd), upd_ne nb, upd_ne (ne_of_none e nd)]
    exact e
  · rw [upd_ne (Ne.symm ne), upd_same]
section
variable {P : Program} {w : World} {K : PySem.W.Frag} {mg : Str → Option Value} {base : Heap} {ca ia fa : Nat → Addr} {fd fi : Nat → FuncData}
theorem sci_BadText : FnScope ["self", "value"] ["self", "value"] (defScope (inClass (topS 2) 0)) := ⟨rfl, rfl, rfl, by decide +kernel, rfl, by decide +kernel, by decide +kernel⟩
theorem in_BadText (T : Txt w K mg ca ia fa fd fi) : FnOk P w K mg base CX0 1 (ia 2) (fi 2) ["self", "value"] (spI1 (ca 2) "value") :=
  T.FI_BadText.ok sci_BadText (fun _ _ _ _ h => spI1_len h) (fun cdv A outer s H vs Q E hr h => ⟨_, pss_one (ps_ost (pv 0) (pv 1)), init1 T.c_BadText.oex T.no_BadText_value h⟩)
theorem sci_BadRun : FnScope ["self", "value"] ["self", "value"] (defScope (inClass (topS 3) 0)) := ⟨rfl, rfl, rfl, by decide +kernel, rfl, by decide +kernel, by decide +kernel⟩
theorem in_BadRun (T : Txt w K mg ca ia fa fd fi) : FnOk P w K mg base CX0 1 (ia 3) (fi 3) ["self", "value"] (spI1 (ca 3) "value") :=
  T.FI_BadRun.ok sci_BadRun (fun _ _ _ _ h => spI1_len h) (fun cdv A outer s H vs Q E hr h => ⟨_, pss_one (ps_ost (pv 0) (pv 1)), init1 T.c_BadRun.oex T.no_BadRun_value h⟩)
theorem Txt.exm (T : Txt w K mg ca ia fa fd fi) {nm : Str} {C : Addr} (c : ErrC K mg nm C (ca 1)) : PySem.W.exmOne K (.ref C) (.ref (ca 1)) = some true := by
  obtain ⟨d1, d2, d3⟩ := cls_of T.cN.xL
  refine PySem.W.exm_ref ?_ d2 d3 ?_
  · obtain ⟨_, _, _, _, _, _, _, _, _, _, _, _, _, _, e⟩ := T.cN.xL
    show PySem.W.mroIn K (ca 1) _ = _
    unfold PySem.W.mroIn PySem.W.clsIn
    rw [e]
    rfl
  · rw [c.sub]
    congr 1
    simp
end
/-- a new error as an argument, the rest behind it -/
theorem mk1 {C : Addr} {f : Str} {te : TE} {σ : L2.St} {H : Hp} {v : V} {Q : VK} (h : ∀ Q' : VK, Q' v H → te σ H Q')
    (k : ∀ a H', Same H H' → ErrAt H' a C [(f, v)] → H a = none → Q (.ref a) H') : tMkV C (spI1 C f) [] (tCons te tNil) σ H Q := by
  refine h _ ⟨(by decide : 1 ≤ 1000), fun a na => ⟨a, v, rfl, upd_same, fun d H' b _ ea ed => ⟨rfl, k a H' ?_ ⟨d, .inl ea, .inl ed⟩ na⟩⟩⟩
  intro c o e2
  exact b c o (ne_of_none e2 na) (same_new na _ _ e2)
theorem mk2 {C : Addr} {f g : Str} {te ue : TE} {σ : L2.St} {H : Hp} {v u : V} {Q : VK} (h : ∀ Q' : VK, Q' v H → te σ H Q') (h2 : ∀ Q' : VK, Q' u H → ue σ H Q')
    (k : ∀ a H', Same H H' → ErrAt H' a C [(g, u), (f, v)] → H a = none → Q (.ref a) H') : tMkV C (spI2 C f g) [] (tCons te (tCons ue tNil)) σ H Q := by
  refine h _ (h2 _ ⟨(by decide : 2 ≤ 1000), fun a na => ⟨a, v, u, rfl, upd_same, fun d H' b _ ea ed => ⟨rfl, k a H' ?_ ⟨d, .inl ea, .inl ed⟩ na⟩⟩⟩)
  intro c o e2
  exact b c o (ne_of_none e2 na) (same_new na _ _ e2)
theorem lst0 {t : TA} {σ : L2.St} {H : Hp} {Q : VK} (h : t σ H fun xs H1 => xs.length ≤ sizeLine ∧ ∀ p, H1 p = none → Q (.ref p) (upd H1 p (.lst xs))) : tLst t σ H Q := h
theorem tup0 {t : TA} {σ : L2.St} {H : Hp} {Q : VK} (h : t σ H fun xs H1 => xs.length ≤ sizeLine ∧ ∀ p, H1 p = none → Q (.ref p) (upd H1 p (.tup xs))) : tTup t σ H Q := h
theorem cons0 {ta : TE} {tr : TA} {σ : L2.St} {H : Hp} {Q : List V → Hp → Prop} (h : ta σ H fun x H1 => tr σ H1 fun xs H2 => Q (x :: xs) H2) : tCons ta tr σ H Q := h
theorem var {i : Nat} {σ : L2.St} {H : Hp} {v : V} (e : σ[i]? = some (some v)) : ∀ Q' : VK, Q' v H → tVar i σ H Q' := fun _ q => ⟨v, e, q⟩
end Toy
set_option Elab.async false
set_option linter.all false
set_option maxRecDepth 100000
set_option maxHeartbeats 4000000
namespace Toy
open PySem L2 Q RZ D7
theorem lowS (c : Nat) : (!decide ((⟨#[c]⟩ : Str).cps.toList < (Str.ofString "a").cps.toList)) = decide (97 ≤ c) ∧ (!decide ((Str.ofString "z").cps.toList < (⟨#[c]⟩ : Str).cps.toList)) = decide (c ≤ 122) := by
  have ea : (Str.ofString "a").cps.toList = [97] := by decide +kernel
  have ez : (Str.ofString "z").cps.toList = [122] := by decide +kernel
  rw [ea, ez]
  constructor
  · rw [Bool.eq_iff_iff]
    simp [List.cons_lt_cons_iff]
  · rw [Bool.eq_iff_iff]
    simp [List.cons_lt_cons_iff]
theorem at_map {α β : Type} {f : α → β} {l : List α} {i : Nat} {v : β} (h : (l.map f)[i]? = some v) : ∃ x, l[i]? = some x ∧ v = f x := by
  rw [List.getElem?_map] at h
  obtain ⟨x, h1, h2⟩ := Option.map_eq_some_iff.mp h
  exact ⟨x, h1, h2.symm⟩
theorem roomU1 {k : Nat} {A : Around} (h : Room k A) : A.units + 1 < cLine := by
  have q := h.units
  omega
theorem iteB {c : Bool} {A B : Prop} (h : c = true) (a : A) : if c = true then A else B := by
  rw [if_pos h]
  exact a
theorem flat_strs : ∀ zs : List Str, (zs.map V.str).all flatV = true
  | [] => rfl
  | z :: zs => by rw [List.map_cons, List.all_cons, flat_strs zs]; rfl
theorem in_strs {a : Str} : ∀ {zs : List Str}, inV (V.str a) (zs.map V.str) = true ↔ a ∈ zs
  | [] => by simp [inV]
  | z :: zs => by
    have ih := in_strs (a := a) (zs := zs)
    unfold inV at ih ⊢
    rw [List.map_cons, List.any_cons, Bool.or_eq_true, ih, List.mem_cons]
    refine or_congr_left ?_
    show (z == a) = true ↔ a = z
    rw [beq_iff_eq]
    exact eq_comm
/-! ### data of every kind: is it a whole number, a length, a name -/
def intB : PyData → Bool
  | .int _ => true
  | _ => false
def boolB : PyData → Bool
  | .bool _ => true
  | _ => false
def strB : PyData → Bool
  | .str _ => true
  | _ => false
def tupB : PyData → Bool
  | .tuple _ => true
  | _ => false
section
variable {K : PySem.W.Frag} {H : Hp} {x : V} {d : PyData}
theorem _root_.Q.Dd.kits (h : Dd K H x d) : ∃ t, TyX K H x t ∧ PySem.W.kitOne K t (.type "int") = some (intB d || boolB d) ∧ PySem.W.kitOne K t (.type "bool") = some (boolB d) ∧ PySem.W.kitOne K t (.type "str") = some (strB d) ∧ PySem.W.kitOne K t (.type "tuple") = some (tupB d) := by
  cases h with
  | non => exact ⟨_, .base .non, rfl, rfl, rfl, rfl⟩
  | bl b => exact ⟨_, .base (.bl b), rfl, rfl, rfl, rfl⟩
  | int i => exact ⟨_, .base (.int i), rfl, rfl, rfl, rfl⟩
  | str z => exact ⟨_, .base (.str z), rfl, rfl, rfl, rfl⟩
  | lst h _ =>
    rcases h with (h | ⟨o, h⟩) | ⟨o, its, n, e, c, _⟩
    · exact ⟨_, .base (.lst h), rfl, rfl, rfl, rfl⟩
    · exact ⟨_, .base (.frz h), rfl, rfl, rfl, rfl⟩
    · exact ⟨_, .kList e c, rfl, rfl, rfl, rfl⟩
  | tup h _ =>
    rcases h with (h | ⟨o, h⟩) | ⟨o, its, n, e, c, _⟩
    · exact ⟨_, .base (.tup h), rfl, rfl, rfl, rfl⟩
    · exact ⟨_, .fTuple h, rfl, rfl, rfl, rfl⟩
    · exact ⟨_, .kTuple e c, rfl, rfl, rfl, rfl⟩
  | dic h _ _ => exact ⟨_, .base (.dK h), rfl, rfl, rfl, rfl⟩
/-- isinstance(x, c) of data -/
theorem isD {c : String} {b : Bool} {t : Value} {Q : VK} (ty : TyX K H x t) (e : PySem.W.kitOne K t (.type c) = some b) (q : Q (.bl b) H) : rIsi K [x, .ty c] H Q :=
  ⟨x, .ty c, t, .type c, b, rfl, .ty c, ty, e, q⟩
end
theorem ifB {c : Bool} {A B : Prop} (h1 : c = true → A) (h2 : c = false → B) : if c = true then A else B := by
  cases c
  · rw [if_neg Bool.false_ne_true]
    exact h2 rfl
  · rw [if_pos rfl]
    exact h1 rfl
/-- a whole number from l on -/
def fromB : PyData → Int → Bool
  | .int i, l => decide (l ≤ i)
  | _, _ => false
theorem fromB_no {d : PyData} {l : Int} (h : intB d = false) : fromB d l = false := by
  cases d <;> first | rfl | cases h
theorem intB_of {K : PySem.W.Frag} {H : Hp} {x : V} {d : PyData} (h : Dd K H x d) (e : intB d = true) : ∃ i, x = .int i ∧ d = .int i := by
  cases h <;> first | exact ⟨_, rfl, rfl⟩ | cases e
theorem strB_of {K : PySem.W.Frag} {H : Hp} {x : V} {d : PyData} (h : Dd K H x d) (e : strB d = true) : ∃ z, x = .str z ∧ d = .str z := by
  cases h <;> first | exact ⟨_, rfl, rfl⟩ | cases e
theorem tupB_of {K : PySem.W.Frag} {H : Hp} {x : V} {d : PyData} (h : Dd K H x d) (e : tupB d = true) : ∃ a xs ds, x = .ref a ∧ d = .tuple ds ∧ SqT K H a xs ∧ DdAll K H xs ds := by
  cases h with
  | tup h a => exact ⟨_, _, _, rfl, rfl, h, a⟩
  | _ => cases e
def spIntA (K : PySem.W.Frag) : Sp := fun vs H Q _ => ∃ (v : V) (d : PyData), vs = [v] ∧ Dd K H v d ∧ Q (.bl (intB d)) H
def spFromA (K : PySem.W.Frag) : Sp := fun vs H Q _ => ∃ (v : V) (d : PyData) (l : Int), vs = [v, .int l] ∧ Dd K H v d ∧ Q (.bl (fromB d l)) H
def spLengthA (K : PySem.W.Frag) : Sp := fun vs H Q _ => ∃ (v : V) (d : PyData), vs = [v] ∧ Dd K H v d ∧ Q (.bl (fromB d 1)) H
/-- a name, as data -/
def NameD (d : PyData) : Prop := ∃ z, d = .str z ∧ NameOk z
abbrev TxOk (d : PyData) : Prop := ∀ z, d = .str z → z.length ≤ 1000000
def spNameA (K : PySem.W.Frag) : Sp := fun vs H Q _ => ∃ (v : V) (d : PyData), vs = [v] ∧ Dd K H v d ∧ TxOk d ∧ ∀ b : Bool, (b = true ↔ NameD d) → ∀ H', Same H H' → Q (.bl b) H'
section
variable {P : Program} {w : World} {K : PySem.W.Frag} {mg : Str → Option Value} {base : Heap} {ca ia fa : Nat → Addr} {fd fi : Nat → FuncData}
theorem ok_integerA (T : Txt w K mg ca ia fa fd fi) : FnOk P w K mg base CX0 1 (fa 6) (fd 6) ["value"] (spIntA K) := by
  refine T.F_is_integer.ok sc_is_integer (fun vs H Q E h => ?_) (fun cdv A outer s H vs Q E hr h => ?_)
  · obtain ⟨v, d, rfl, _⟩ := h
    rfl
  · obtain ⟨v, d, rfl, hd, k⟩ := h
    refine ⟨_, (pss_one (ps_ret (pe_and (pe_callB call_isi (by rfl) T.n_isinstance (by decide +kernel) (pa_cons (pv 0) (pa_cons (pe_bltn (v := .ty "int") (by rfl) T.n_int (by decide +kernel) rfl) pa_nil))) (pe_one (pe_not (pe_callB call_isi (by rfl) T.n_isinstance (by decide +kernel) (pa_cons (pv 0) (pa_cons (pe_bltn (v := .ty "bool") (by rfl) T.n_bool (by decide +kernel) rfl) pa_nil)))))))), ?_⟩
    obtain ⟨t, ty, e1, e2, _⟩ := hd.kits
    refine ⟨_, rfl, _, _, _, _, _, rfl, .ty _, ty, e1, _, rfl, ifB (fun c => ?_) fun c => ?_⟩
    · refine ⟨_, rfl, _, _, _, _, _, rfl, .ty _, ty, e2, _, rfl, ?_⟩
      have e : (!boolB d) = intB d := by
        cases d <;> first | rfl | (cases c; done)
      rw [e]
      exact k
    · have e : intB d = false := by
        cases d <;> first | rfl | (cases c; done)
      rw [e] at k
      first | exact k | (rw [c]; exact k)
theorem ok_fromA (T : Txt w K mg ca ia fa fd fi) : FnOk P w K mg base CX0 2 (fa 7) (fd 7) ["value", "least"] (spFromA K) := by
  have G_is_integer := ok_integerA (P := P) (w := w) (base := base) T
  refine T.F_is_integer_from.ok sc_is_integer_from (fun vs H Q E h => ?_) (fun cdv A outer s H vs Q E hr h => ?_)
  · obtain ⟨v, d, l, rfl, _⟩ := h
    rfl
  · obtain ⟨v, d, l, rfl, hd, k⟩ := h
    refine ⟨_, (pss_one (ps_ret (pe_and (pe_call G_is_integer (hr.mono (by decide)) rfl T.g_is_integer T.k_is_integer T.b_is_integer .nil pass0 (pa_cons (pv 0) pa_nil)) (pe_one (pe_cmpR op_ge (pv 0) (pv 1) (nomark _)))))), ?_⟩
    refine ⟨_, rfl, v, d, rfl, hd, _, rfl, ifB (fun c => ?_) fun c => ?_⟩
    · obtain ⟨i, rfl, rfl⟩ := intB_of hd c
      exact ⟨_, rfl, _, rfl, _, _, rfl, rfl, k⟩
    · rw [fromB_no c] at k
      first | exact k | (rw [c]; exact k)
end
theorem slA {K : PySem.W.Frag} {H : Hp} {a : Addr} {xs : List V} {lo hi : Option Int} {Q : VK} (h : SqT K H a xs)
    (q : ∀ t H', Same H H' → SqT K H' t (cutV xs lo hi) → Q (.ref t) H') : rSlA K (.ref a) lo hi H Q := by
  refine ⟨a, xs, rfl, h, fun z => q a H (Same.refl H) ?_, fun z p np => q p _ (same_new np) (SqT.of upd_same)⟩
  unfold cutV
  rw [z.1, z.2, List.drop_zero, Nat.sub_zero, List.take_length]
  exact h
/-- is_rising of texts, or of tuples of one shape -/
theorem low_iff (c : Nat) : c ∈ (Str.ofString "abcdefghijklmnopqrstuvwxyz").cps.toList ↔ 97 ≤ c ∧ c ≤ 122 := by
  have e : (Str.ofString "abcdefghijklmnopqrstuvwxyz").cps.toList = (List.range 26).map (· + 97) := by decide +kernel
  rw [e, List.mem_map]
  constructor
  · rintro ⟨k, hk, rfl⟩
    have := List.mem_range.mp hk
    omega
  · rintro ⟨h1, h2⟩
    exact ⟨c - 97, List.mem_range.mpr (by omega), by omega⟩
theorem dd_at {K : PySem.W.Frag} {H : Hp} : ∀ {xs : List V} {ds : List PyData} {i : Nat} {v : V}, DdAll K H xs ds → xs[i]? = some v → ∃ d, ds[i]? = some d ∧ Dd K H v d
  | _, _, 0, _, .cons h _, e => ⟨_, rfl, by simp at e; subst e; exact h⟩
  | _, _, i + 1, v, .cons _ t, e => by
    obtain ⟨d, m, h⟩ := dd_at (i := i) (v := v) t (by simpa using e)
    exact ⟨d, by simpa using m, h⟩
theorem dd_len {K : PySem.W.Frag} {H : Hp} : ∀ {xs : List V} {ds : List PyData}, DdAll K H xs ds → xs.length = ds.length
  | _, _, .nil => rfl
  | _, _, .cons _ t => by simp [dd_len t]
theorem Same.upd_at {H H' : Hp} {p : Addr} {o : HO} (s : Same H H') (n : H p = none) : Same H (upd H' p o) := fun b u e => by
  rw [upd_ne (ne_of_none e n)]
  exact s b u e
/-- whether an item holds what is asked, so far and with one more -/
theorem all_more {α : Type} {R : α → Prop} {ds : List α} {i : Nat} {d : α} {b : Bool} {bs : List Bool} (hd : ds[i]? = some d) (hb : b = true ↔ R d) (iff : bs.all id = true ↔ ∀ e ∈ ds.take i, R e) :
    (bs ++ [b]).all id = true ↔ ∀ e ∈ ds.take (i + 1), R e := by
  rw [List.take_add_one, hd, List.all_append, Bool.and_eq_true, iff]
  constructor
  · rintro ⟨q1, q2⟩ e he
    rcases List.mem_append.mp he with q | q
    · exact q1 e q
    · have z : e = d := by simpa using q
      rw [z]
      exact hb.1 (by simpa using q2)
  · intro q
    refine ⟨fun e he => q e (List.mem_append_left _ he), ?_⟩
    have e := hb.2 (q d (List.mem_append_right _ (by simp)))
    simp [e]
section
variable {P : Program} {w : World} {K : PySem.W.Frag} {mg : Str → Option Value} {base : Heap} {ca ia fa : Nat → Addr} {fd fi : Nat → FuncData}
theorem ok_nameA (T : Txt w K mg ca ia fa fd fi) : FnOk P w K mg base CX0 1 (fa 8) (fd 8) ["value"] (spNameA K) := by
  refine T.F_is_name.ok sc_is_name (fun vs H Q E h => ?_) (fun cdv A outer s H vs Q E hr h => ?_)
  · obtain ⟨v, d, rfl, _⟩ := h
    rfl
  · obtain ⟨v, d, rfl, hd, hz, k⟩ := h
    obtain ⟨tk8, hv_LONGEST_NAME⟩ := T.v_LONGEST_NAME
    refine ⟨_, (pss_cons (ps_if (PW.pt (pw_or (pt_not (pt_val (pe_callB call_isi (by rfl) T.n_isinstance (by decide +kernel) (pa_cons (pv 0) (pa_cons (pe_bltn (v := .ty "str") (by rfl) T.n_str (by decide +kernel) rfl) pa_nil))))) (pw_or1 (pt_not (pt_chain op_le op_le pe_int (pe_callB call_len (by rfl) T.n_len (by decide +kernel) (pa_cons (pv 0) pa_nil)) (pe_glob rfl hv_LONGEST_NAME (v := .int 8) ⟨_, rfl⟩)))))) (pss_one (ps_ret pe_bl)) pss_nil)
      (pss_one (ps_ret (pe_callB (cr_all rfl) (by rfl) T.n_all (by decide +kernel) (pa_cons (pe_lc (own := [("letter", 1)]) (g := (gName 1)) (tt := tYes) rfl sc_is_name.nd (pi_str (pv 0)) (blkOk_by (own := [("letter", 1)]) (N := N_is_name) (sc := defScope s_is_name) (by decide +kernel)) (fun _ _ _ _ _ => (pg_name (i := 1) sc_is_name.nd rfl (Or.inl rfl))) (fun _ _ _ _ _ => pts_nil) (fun _ _ _ _ _ => by exact (pe_chain op_le_str op_le_str pe_str (pv 1) pe_str))) pa_nil))))), ?_⟩
    obtain ⟨t, ty, _, _, e3, _⟩ := hd.kits
    refine ⟨_, rfl, _, _, _, _, _, rfl, .ty _, ty, e3, _, rfl, ?_⟩
    refine ifB (fun c => ?_) fun c => ?_
    · exact k false ⟨fun q => (by cases q), fun ⟨z, e, _⟩ => by rw [e] at c; cases c⟩ H (Same.refl H)
    have c2 : strB d = true := by
      cases q : strB d
      · rw [q] at c
        cases c
      · rfl
    obtain ⟨z, rfl, rfl⟩ := strB_of hd c2
    have hz := hz z rfl
    have lenV : LenV K (.str z) H z.length := ⟨by rw [sizeLine_eq]; omega, rfl⟩
    have stop : ∀ {D : Ends} {σ : L2.St}, D.rt = Q → ¬ NameOk z → tRet (tC (.bl false)) D σ H := fun {D σ} e n => by
      show D.rt (.bl false) H
      rw [e]
      exact k false ⟨fun q => (by cases q), fun ⟨y, q, q2⟩ => absurd q2 (by cases q; exact n)⟩ H (fun _ _ e => e)
    refine ⟨_, rfl, _, _, rfl, lenV, _, _, rfl, rfl, _, rfl, ite2 (fun c1 => ?_) (fun c1 => ?_)⟩
    · have l1 : (1 : Int) ≤ (z.length : Nat) := of_decide_eq_true c1
      refine ⟨_, _, rfl, rfl, _, rfl, ite2 (fun c2 => ?_) (fun c2 => ?_)⟩
      · have l2 : ¬ ((z.length : Nat) : Int) ≤ 8 := fun q => by
          rw [decide_eq_true q] at c2
          cases c2
        exact stop rfl fun q => l2 (by have := q.2.1; omega)
      · have l2 : ((z.length : Nat) : Int) ≤ 8 := Classical.byContradiction fun q => c2 (by rw [decide_eq_false q]; rfl)
        refine nxt ?_
        refine ⟨_, rfl, z, rfl, fun D hD => ?_⟩
        refine lc_it walk_str (fun i H' => ∃ bs : List Bool, bs.length = i ∧ H' D = some (.lst (bs.map V.bl)) ∧ Same H H' ∧ (bs.all id = true ↔ ∀ c ∈ z.cps.toList.take i, 97 ≤ c ∧ c ≤ 122))
          ⟨[], rfl, upd_same, same_new hD, by simp⟩ (fun _ _ _ _ => trivial) ?_ ?_
        · rintro i x H1 H2 hi ⟨bs, lb, hb, s1, iff1⟩ ⟨rfl, c, hc, rfl⟩
          refine ⟨rfl, ?_⟩
          dsimp only [tYes]
          rw [if_pos rfl]
          have hi2 : i < z.length := hi
          have fin : ∀ b : Bool, (b = true ↔ 97 ≤ c ∧ c ≤ 122) → ∃ acc, H2 D = some (.lst acc) ∧ acc.length < sizeLine ∧ ∃ bs : List Bool, bs.length = i + 1 ∧ upd H2 D (.lst (acc ++ [.bl b])) D = some (.lst (bs.map V.bl)) ∧ Same H (upd H2 D (.lst (acc ++ [.bl b]))) ∧
              (bs.all id = true ↔ ∀ c ∈ z.cps.toList.take (i + 1), 97 ≤ c ∧ c ≤ 122) := fun b hb2 => by
            refine ⟨_, hb, ?_, bs ++ [b], by simp [lb], ?_, Same.upd_at s1 hD, ?_⟩
            · rw [List.length_map, sizeLine_eq]
              omega
            · rw [upd_same, List.map_append]
              rfl
            · exact all_more (by rw [Array.getElem?_toList]; exact hc) hb2 iff1
          obtain ⟨low1, low2⟩ := lowS c
          refine ⟨_, rfl, _, _, rfl, rfl, _, rfl, ite2 (fun a1 => ?_) (fun a1 => ?_)⟩
          · rw [low1] at a1
            refine ⟨_, _, rfl, rfl, ?_⟩
            rw [low2]
            exact fin _ ⟨fun q => ⟨of_decide_eq_true a1, of_decide_eq_true q⟩, fun q => decide_eq_true q.2⟩
          · rw [low1] at a1
            exact fin _ ⟨fun q => (by cases q), fun q => absurd (decide_eq_true q.1) a1⟩
        · rintro H1 ⟨bs, lb, hb, s1, iff1⟩
          rw [show z.cps.toList.take z.cps.size = z.cps.toList from List.take_of_length_le (Nat.le_of_eq (Array.length_toList ..))] at iff1
          exact ⟨D, bs, rfl, SqL.of hb, k _ ⟨fun q => ⟨z, rfl, by omega, by omega, iff1.1 q⟩, fun ⟨y, e, q⟩ => by cases e; exact iff1.2 q.2.2⟩ H1 s1⟩
    · have l1 : ¬ (1 : Int) ≤ (z.length : Nat) := fun q => c1 (decide_eq_true q)
      refine ⟨_, rfl, ite2 (fun _ => ?_) (fun c2 => absurd rfl c2)⟩
      exact stop rfl fun q => l1 (by have := q.1; omega)
theorem ok_l_nameA (T : Txt w K mg ca ia fa fd fi) : FnOk P w K mg base CX0 1 (fa 36) (fd 36) ["_law_value"] (spNameA K) := by
  refine T.F_l_is_name.ok sc_l_is_name (fun vs H Q E h => ?_) (fun cdv A outer s H vs Q E hr h => ?_)
  · obtain ⟨v, d, rfl, _⟩ := h
    rfl
  · obtain ⟨v, d, rfl, hd, hz, k⟩ := h
    refine ⟨_, (pss_cons (ps_if (PW.pt (pw_or (pt_not (pt_val (pe_callB call_isA (by rfl) T.n_isinstance (by decide +kernel) (pa_cons (pv 0) (pa_cons (pe_bltn (v := .ty "str") (by rfl) T.n_str (by decide +kernel) rfl) pa_nil))))) (pw_or1 (pt_not (pt_chain op_le op_le pe_int (pe_callB call_len (by rfl) T.n_len (by decide +kernel) (pa_cons (pv 0) pa_nil)) pe_int))))) (pss_one (ps_ret pe_bl)) pss_nil)
      (pss_one (ps_ret (pe_callB (cr_all rfl) (by rfl) T.n_all (by decide +kernel) (pa_cons (pe_lc (own := [("_law_sign", 1)]) (g := (gName 1)) (tt := tYes) rfl sc_l_is_name.nd (pi_str (pv 0)) (blkOk_by (own := [("_law_sign", 1)]) (N := N_l_is_name) (sc := defScope s_l_is_name) (by decide +kernel)) (fun _ _ _ _ _ => (pg_name (i := 1) sc_l_is_name.nd rfl (Or.inl rfl))) (fun _ _ _ _ _ => pts_nil) (fun _ _ _ _ _ => by exact (pe_cmpR op_inS (pv 1) pe_str rfl))) pa_nil))))), ?_⟩
    obtain ⟨t, ty, _, _, e3, _⟩ := hd.kits
    refine ⟨_, rfl, .inl ⟨_, _, _, _, _, rfl, .ty _, ty, e3, _, rfl, ?_⟩⟩
    refine ifB (fun c => ?_) fun c => ?_
    · exact k false ⟨fun q => (by cases q), fun ⟨z, e, _⟩ => by rw [e] at c; cases c⟩ H (Same.refl H)
    have c2 : strB d = true := by
      cases q : strB d
      · rw [q] at c
        cases c
      · rfl
    obtain ⟨z, rfl, rfl⟩ := strB_of hd c2
    have hz := hz z rfl
    have lenV : LenV K (.str z) H z.length := ⟨by rw [sizeLine_eq]; omega, rfl⟩
    have stop : ∀ {D : Ends} {σ : L2.St}, D.rt = Q → ¬ NameOk z → tRet (tC (.bl false)) D σ H := fun {D σ} e n => by
      show D.rt (.bl false) H
      rw [e]
      exact k false ⟨fun q => (by cases q), fun ⟨y, q, q2⟩ => absurd q2 (by cases q; exact n)⟩ H (fun _ _ e => e)
    refine ⟨_, rfl, _, _, rfl, lenV, _, _, rfl, rfl, _, rfl, ite2 (fun c1 => ?_) (fun c1 => ?_)⟩
    · have l1 : (1 : Int) ≤ (z.length : Nat) := of_decide_eq_true c1
      refine ⟨_, _, rfl, rfl, _, rfl, ite2 (fun c2 => ?_) (fun c2 => ?_)⟩
      · have l2 : ¬ ((z.length : Nat) : Int) ≤ 8 := fun q => by
          rw [decide_eq_true q] at c2
          cases c2
        exact stop rfl fun q => l2 (by have := q.2.1; omega)
      · have l2 : ((z.length : Nat) : Int) ≤ 8 := Classical.byContradiction fun q => c2 (by rw [decide_eq_false q]; rfl)
        refine nxt ?_
        refine ⟨_, rfl, z, rfl, fun D hD => ?_⟩
        refine lc_it walk_str (fun i H' => ∃ bs : List Bool, bs.length = i ∧ H' D = some (.lst (bs.map V.bl)) ∧ Same H H' ∧ (bs.all id = true ↔ ∀ c ∈ z.cps.toList.take i, 97 ≤ c ∧ c ≤ 122))
          ⟨[], rfl, upd_same, same_new hD, by simp⟩ (fun _ _ _ _ => trivial) ?_ ?_
        · rintro i x H1 H2 hi ⟨bs, lb, hb, s1, iff1⟩ ⟨rfl, c, hc, rfl⟩
          refine ⟨rfl, ?_⟩
          dsimp only [tYes]
          rw [if_pos rfl]
          have hi2 : i < z.length := hi
          refine ⟨_, rfl, _, _, rfl, rfl, _, hb, ?_, bs ++ [decide (c ∈ (Str.ofString "abcdefghijklmnopqrstuvwxyz").cps.toList)], by simp [lb], ?_, Same.upd_at s1 hD, ?_⟩
          · rw [List.length_map, sizeLine_eq]
            omega
          · rw [upd_same, List.map_append]
            rfl
          · exact all_more (by rw [Array.getElem?_toList]; exact hc) (by rw [decide_eq_true_iff]; exact low_iff c) iff1
        · rintro H1 ⟨bs, lb, hb, s1, iff1⟩
          rw [show z.cps.toList.take z.cps.size = z.cps.toList from List.take_of_length_le (Nat.le_of_eq (Array.length_toList ..))] at iff1
          exact ⟨D, bs, rfl, SqL.of hb, k _ ⟨fun q => ⟨z, rfl, by omega, by omega, iff1.1 q⟩, fun ⟨y, e, q⟩ => by cases e; exact iff1.2 q.2.2⟩ H1 s1⟩
    · have l1 : ¬ (1 : Int) ≤ (z.length : Nat) := fun q => c1 (decide_eq_true q)
      refine ⟨_, rfl, ite2 (fun _ => ?_) (fun c2 => absurd rfl c2)⟩
      exact stop rfl fun q => l1 (by have := q.1; omega)
end
end Toy
set_option Elab.async false
set_option linter.all false
set_option maxRecDepth 100000
set_option maxHeartbeats 8000000
namespace Toy
open PySem L2 Q RZ D7 TL
/-! ### the text of a net -/
def tRowS : TE := fun σ H Q => tJs [tC (V.str (Str.ofString "link ")), tFmt (tVar 2), tC (V.str (Str.ofString " ")), tFmt (tVar 3), tC (V.str (Str.ofString " ")), tFmt (tVar 4), tC (V.str (Str.ofString " ")), tFmt (tVar 5)] Str.empty σ H fun out H1 => Q (V.str out) H1
abbrev tx (s : String) : Str := Str.ofString s
def num (n : Nat) : Str := Str.ofString (toString (n : Int))
/-- a row, its words separated by a space -/
def wrd (ws : List Str) : Str := Txt.join (tx " ") ws
def linkW (a b : Str) (x y : Nat) : List Str := [tx "link", a, b, num x, num y]
def netW (zs : List Str) : List Str := tx "routers" :: zs
/-- without this sign -/
def Free (s : Nat) (z : Str) : Prop := s ∉ tl z
theorem free_name {s : Nat} (h : s < 97) {z : Str} (n : Low z) : Free s z := fun m => by
  have := (n s m).1
  omega
theorem free_num {s : Nat} (h : s < 48) (n : Nat) : Free s (num n) := by
  unfold Free num
  rw [tl_num]
  exact numL_free (.inl h)
theorem free_link {s : Nat} (h : s < 97) : Free s (tx "link") := by
  have e : tl (tx "link") = [108, 105, 110, 107] := by decide +kernel
  unfold Free
  rw [e]
  simp
  omega
theorem free_routers {s : Nat} (h : s < 97) : Free s (tx "routers") := by
  have e : tl (tx "routers") = [114, 111, 117, 116, 101, 114, 115] := by decide +kernel
  unfold Free
  rw [e]
  simp
  omega
theorem sp_tl : tl (tx " ") = [32] := by decide +kernel
theorem lf_tl : tl (tx "\n") = [10] := by decide +kernel
theorem split_wrd {ws : List Str} (ne : ws ≠ []) (h : ∀ z ∈ ws, Free 32 z) : Txt.split (wrd ws) (tx " ") = ws := split_join sp_tl (by decide +kernel) ne h
theorem split_rows {rs : List Str} (ne : rs ≠ []) (h : ∀ z ∈ rs, Free 10 z) : Txt.split (Txt.join (tx "\n") rs) (tx "\n") = rs := split_join lf_tl (by decide +kernel) ne h
theorem joinL_mem {S : List Nat} {c : Nat} : ∀ {ps : List (List Nat)}, c ∈ joinL S ps → c ∈ S ∨ ∃ p ∈ ps, c ∈ p
  | [], h => (nomatch h)
  | [p], h => .inr ⟨p, List.mem_cons_self, h⟩
  | p :: q :: r, h => by
    have h : c ∈ p ++ (S ++ joinL S (q :: r)) := h
    rcases List.mem_append.mp h with h | h
    · exact .inr ⟨p, List.mem_cons_self, h⟩
    · rcases List.mem_append.mp h with h | h
      · exact .inl h
      · exact (joinL_mem h).imp id fun ⟨p', m, h⟩ => ⟨p', List.mem_cons_of_mem _ m, h⟩
theorem free_wrd {ws : List Str} (h : ∀ z ∈ ws, Free 10 z) : Free 10 (wrd ws) := fun m => by
  unfold wrd at m
  rw [join_eq, tl_join, sp_tl] at m
  rcases joinL_mem m with m | ⟨p, hp, m⟩
  · simp at m
  · obtain ⟨z, hz, rfl⟩ := List.mem_map.mp hp
    exact h z hz m
/-- the words of a link are told apart -/
theorem link_parts {a b : Str} (ha : NameOk a) (hb : NameOk b) (x y : Nat) {s : Nat} (h : s < 48) : ∀ z ∈ linkW a b x y, Free s z := fun z hz => by
  unfold linkW at hz
  simp only [List.mem_cons, List.not_mem_nil, or_false] at hz
  rcases hz with rfl | rfl | rfl | rfl | rfl
  · exact free_link (by omega)
  · exact free_name (by omega) ha.2.2
  · exact free_name (by omega) hb.2.2
  · exact free_num h _
  · exact free_num h _
theorem net_parts {zs : List Str} (nok : ∀ z ∈ zs, NameOk z) {s : Nat} (h : s < 48) : ∀ z ∈ netW zs, Free s z := fun z hz => by
  rcases List.mem_cons.mp hz with rfl | hz
  · exact free_routers (by omega)
  · exact free_name (by omega) (nok z hz).2.2
/-- the first sign of a number from 1 on is no nought -/
theorem numL_head {n : Nat} : 1 ≤ n → ∃ c l, numL n = c :: l ∧ c ≠ 48 := by
  induction n using Nat.strongRecOn with
  | _ n ih =>
    intro h
    by_cases l : n < 10
    · exact ⟨48 + n, [], numL_lt l, by omega⟩
    · obtain ⟨c, r, e, ne⟩ := ih (n / 10) (by omega) (by omega)
      exact ⟨c, r ++ [48 + n % 10], by rw [numL_step (by omega), e]; rfl, ne⟩
theorem num_tl (n : Nat) : tl (num n) = numL n := tl_num n
theorem num_len {n : Nat} (h : n < 1000000000) : 1 ≤ (num n).length ∧ (num n).length ≤ 9 := by
  rw [len_tl, num_tl]
  exact ⟨List.length_pos_iff.mpr (numL_ne n), numL_len (k := 9) (by decide) h⟩
theorem num_int {n : Nat} (h : n < 1000000000) : intText? (num n) = some (n : Int) := int_num (by have := numL_len (k := 9) (by decide) h; omega)
theorem num_log {n : Nat} (h : n < 1000000000) : (n : Int).natAbs.log2 < 1920 := by
  rw [Int.natAbs_natCast]
  by_cases z : n = 0
  · subst z
    decide
  · exact (Nat.log2_lt z).mpr (Nat.lt_trans h (by decide +kernel))
/-! the two ways to write a link -/
theorem wrd_link (a b : Str) (x y : Nat) : wrd (linkW a b x y) = tx "link " ++ a ++ tx " " ++ b ++ tx " " ++ num x ++ tx " " ++ num y := by
  refine ext_tl ?_
  unfold wrd linkW
  rw [join_eq, tl_join, sp_tl]
  simp only [tl_append, List.map_cons, List.map_nil, joinL, sp_tl]
  have e1 : tl (tx "link ") = tl (tx "link") ++ [32] := by decide +kernel
  rw [e1]
  simp only [List.append_assoc, List.cons_append, List.nil_append]
theorem wrd_net {zs : List Str} (ne : zs ≠ []) : wrd (netW zs) = tx "routers " ++ wrd zs := by
  match zs, ne with
  | z :: zs, _ =>
    refine ext_tl ?_
    unfold wrd netW
    rw [join_eq, join_eq, tl_append, tl_join, tl_join, sp_tl]
    have e1 : tl (tx "routers ") = tl (tx "routers") ++ [32] := by decide +kernel
    rw [e1]
    simp only [List.map_cons, joinL, List.append_assoc, List.cons_append, List.nil_append]
/-! lengths -/
theorem joinL_len (S : List Nat) : ∀ ps : List (List Nat), (joinL S ps).length ≤ (ps.map List.length).sum + ps.length * S.length
  | [] => Nat.zero_le _
  | [p] => by
    show p.length ≤ _
    simp
  | p :: q :: r => by
    have ih := joinL_len S (q :: r)
    show (p ++ (S ++ joinL S (q :: r))).length ≤ _
    rw [List.length_append, List.length_append, List.map_cons, List.sum_cons, List.length_cons, Nat.succ_mul]
    omega
theorem wrd_len {ws : List Str} {m : Nat} (h : ∀ z ∈ ws, z.length ≤ m) : (wrd ws).length ≤ ws.length * (m + 1) := by
  unfold wrd
  rw [len_tl, join_eq, tl_join, sp_tl]
  refine Nat.le_trans (joinL_len _ _) ?_
  have : ∀ l : List Str, (∀ z ∈ l, z.length ≤ m) → ((l.map tl).map List.length).sum ≤ l.length * m := fun l => by
    induction l with
    | nil => intro _; exact Nat.zero_le _
    | cons z l ih =>
      intro h
      have := ih fun y hy => h y (List.mem_cons_of_mem _ hy)
      have hz := h z List.mem_cons_self
      rw [len_tl] at hz
      rw [List.map_cons, List.map_cons, List.sum_cons, List.length_cons, Nat.succ_mul]
      omega
  have := this ws h
  rw [List.length_map, List.length_singleton, Nat.mul_add]
  omega
theorem sum_le {ws : List Str} {m : Nat} : (∀ z ∈ ws, z.length ≤ m) → (ws.map (·.length)).sum ≤ ws.length * m := by
  induction ws with
  | nil => intro _; exact Nat.zero_le _
  | cons z l ih =>
    intro h
    have := ih fun y hy => h y (List.mem_cons_of_mem _ hy)
    have hz := h z List.mem_cons_self
    rw [List.map_cons, List.sum_cons, List.length_cons, Nat.succ_mul]
    omega
theorem link_len {a b : Str} (ha : NameOk a) (hb : NameOk b) {x y : Nat} (hx : x < 1000000000) (hy : y < 1000000000) : ∀ z ∈ linkW a b x y, z.length ≤ 9 := fun z hz => by
  unfold linkW at hz
  simp only [List.mem_cons, List.not_mem_nil, or_false] at hz
  rcases hz with rfl | rfl | rfl | rfl | rfl
  · decide +kernel
  · have := ha.2.1; omega
  · have := hb.2.1; omega
  · exact (num_len hx).2
  · exact (num_len hy).2
theorem net_len {zs : List Str} (nok : ∀ z ∈ zs, NameOk z) : ∀ z ∈ netW zs, z.length ≤ 9 := fun z hz => by
  rcases List.mem_cons.mp hz with rfl | hz
  · decide +kernel
  · have := (nok z hz).2.1; omega
/-- the row of a link by its parts -/
def rowW (k : List Key) : Str := match k with
  | [.inr a, .inr b, .inl x, .inl y] => wrd (linkW a b x.toNat y.toNat)
  | _ => Str.empty
def rowsW (zs : List Str) (ls : List (Addr × List Key)) : List Str := wrd (netW zs) :: ls.map fun q => rowW q.2
def pageW (zs : List Str) (ls : List (Addr × List Key)) : Str := Txt.join (tx "\n") (rowsW zs ls)
/-- a link with lengths of nine figures at the most -/
def Lk9 (zs : List Str) (k : List Key) : Prop := ∃ (a b : Str) (x y : Nat), k = [.inr a, .inr b, .inl (x : Int), .inl (y : Int)] ∧ NameOk a ∧ NameOk b ∧ 1 ≤ x ∧ 1 ≤ y ∧ x < 1000000000 ∧ y < 1000000000
theorem row_eq {a b : Str} {x y : Nat} : rowW [.inr a, .inr b, .inl (x : Int), .inl (y : Int)] = wrd (linkW a b x y) := by
  show wrd (linkW a b (x : Int).toNat (y : Int).toNat) = _
  rw [Int.toNat_natCast, Int.toNat_natCast]
theorem rows_free {zs : List Str} {ls : List (Addr × List Key)} (nok : ∀ z ∈ zs, NameOk z) (h : ∀ q ∈ ls, Lk9 zs q.2) : ∀ r ∈ rowsW zs ls, Free 10 r := fun r hr => by
  rcases List.mem_cons.mp hr with rfl | hr
  · exact free_wrd (net_parts nok (by decide))
  · obtain ⟨q, hq, rfl⟩ := List.mem_map.mp hr
    obtain ⟨a, b, x, y, e, ha, hb, _⟩ := h q hq
    rw [e, row_eq]
    exact free_wrd (link_parts ha hb x y (by decide))
theorem rows_long {zs : List Str} {ls : List (Addr × List Key)} (z8 : zs.length ≤ 8) (nok : ∀ z ∈ zs, NameOk z) (h : ∀ q ∈ ls, Lk9 zs q.2) : ∀ r ∈ rowsW zs ls, r.length ≤ 90 := fun r hr => by
  rcases List.mem_cons.mp hr with rfl | hr
  · have := wrd_len (net_len nok)
    unfold netW at this ⊢
    rw [List.length_cons] at this
    omega
  · obtain ⟨q, hq, rfl⟩ := List.mem_map.mp hr
    obtain ⟨a, b, x, y, e, ha, hb, _, _, hx, hy⟩ := h q hq
    rw [e, row_eq]
    have := wrd_len (link_len ha hb hx hy)
    have e5 : (linkW a b x y).length = 5 := rfl
    omega
theorem page_len {zs : List Str} {ls : List (Addr × List Key)} (z8 : zs.length ≤ 8) (nok : ∀ z ∈ zs, NameOk z) (h : ∀ q ∈ ls, Lk9 zs q.2) (few : ls.length ≤ 16) : (pageW zs ls).length ≤ 17 * 91 := by
  unfold pageW
  rw [len_tl, join_eq, tl_join, lf_tl]
  refine Nat.le_trans (joinL_len _ _) ?_
  have s := sum_le (rows_long z8 nok h)
  have e : (((rowsW zs ls).map tl).map List.length) = (rowsW zs ls).map (·.length) := by
    rw [List.map_map]
    exact List.map_congr_left fun z _ => (len_tl z).symm
  rw [e, List.length_map]
  have l : (rowsW zs ls).length ≤ 17 := by
    unfold rowsW
    rw [List.length_cons, List.length_map]
    omega
  have := Nat.mul_le_mul_right 90 l
  simp only [List.length_singleton, Nat.mul_one]
  omega
end Toy
set_option Elab.async false
set_option linter.all false
set_option maxRecDepth 100000
set_option maxHeartbeats 8000000
namespace Toy
open PySem L2 Q RZ D7 TL NumText
/-! ### what a text of any kind says of a net -/
def wordsOf (r : Str) : List Str := Txt.split r (tx " ")
def rowsOf (t : Str) : List Str := Txt.split t (tx "\n")
theorem spl_le (S : List Nat) (ne : S ≠ []) : ∀ (n : Nat) (l acc : List Nat), l.length ≤ n → (spl S 0 acc l).length ≤ l.length + 1 ∧ spl S 0 acc l ≠ [] ∧ ∀ p ∈ spl S 0 acc l, p.length ≤ acc.length + l.length
  | _, [], acc, _ => by
    rw [spl_nil]
    exact ⟨Nat.le_refl _, by simp, fun p hp => by rw [List.mem_singleton.mp hp]; simp⟩
  | 0, c :: r, acc, h => by
    rw [List.length_cons] at h
    omega
  | n + 1, c :: r, acc, h => by
    rw [List.length_cons] at h
    cases e : pre S (c :: r) with
    | true =>
      rw [spl_hit e, spl_pass]
      obtain ⟨h1, h2, h3⟩ := spl_le S ne n (r.drop (S.length - 1)) [] (by rw [List.length_drop]; omega)
      rw [List.length_drop] at h1
      refine ⟨by rw [List.length_cons, List.length_cons]; omega, by simp, fun p hp => ?_⟩
      rcases List.mem_cons.mp hp with rfl | hp
      · omega
      · have := h3 p hp
        rw [List.length_drop, List.length_nil] at this
        rw [List.length_cons]
        omega
    | false =>
      rw [spl_miss e]
      obtain ⟨h1, h2, h3⟩ := spl_le S ne n r (acc ++ [c]) (by omega)
      refine ⟨by rw [List.length_cons]; omega, h2, fun p hp => ?_⟩
      have := h3 p hp
      rw [List.length_append, List.length_singleton] at this
      rw [List.length_cons]
      omega
theorem split_le {r s : Str} {c : Nat} (es : tl s = [c]) (hc : s.cps.all (· < 256) = true) : (Txt.split r s).length ≤ r.length + 1 ∧ Txt.split r s ≠ [] ∧ ∀ p ∈ Txt.split r s, p.length ≤ r.length := by
  have e := split_spl r s (by rw [es]; simp) (kind_ok hc)
  obtain ⟨h1, h2, h3⟩ := spl_le (tl s) (by rw [es]; simp) (tl r).length (tl r) [] (Nat.le_refl _)
  rw [← e] at h1 h2 h3
  rw [List.length_map] at h1
  refine ⟨by rw [len_tl]; exact h1, fun z => h2 (by rw [z]; rfl), fun p hp => ?_⟩
  have := h3 _ (List.mem_map.mpr ⟨p, hp, rfl⟩)
  rw [len_tl, len_tl]
  simpa using this
theorem words_le (r : Str) : (wordsOf r).length ≤ r.length + 1 ∧ wordsOf r ≠ [] ∧ ∀ p ∈ wordsOf r, p.length ≤ r.length := split_le sp_tl (by decide +kernel)
theorem rows_le (t : Str) : (rowsOf t).length ≤ t.length + 1 ∧ rowsOf t ≠ [] ∧ ∀ p ∈ rowsOf t, p.length ≤ t.length := split_le lf_tl (by decide +kernel)
/-- the word of a number -/
def DigOk (w : Str) : Prop := ∀ c ∈ tl w, 48 ≤ c ∧ c ≤ 57
def NumOk (w : Str) : Prop := 1 ≤ w.length ∧ w.length ≤ 9 ∧ DigOk w ∧ (w = tx "0" ∨ ∀ c, (tl w).head? = some c → c ≠ 48)
def valW (w : Str) : Nat := digitsVal (tl w)
theorem val_int {w : Str} (h : NumOk w) : intText? w = some (valW w : Int) := by
  obtain ⟨h1, h2, h3, _⟩ := h
  refine intText_digits (x := w) h3 (fun z => ?_) (by omega)
  rw [len_tl] at h1
  have z : tl w = [] := z
  rw [z] at h1
  exact absurd h1 (by decide)
theorem digits_lt : ∀ (l : List Nat) (a k : Nat), AllDigits l → a < 10 ^ k → l.foldl (fun acc c => acc * 10 + (c - 48)) a < 10 ^ (k + l.length)
  | [], a, k, _, h => h
  | c :: r, a, k, hd, h => by
    have hc := hd.head
    rw [List.foldl_cons, List.length_cons, show k + (r.length + 1) = (k + 1) + r.length by omega]
    refine digits_lt r _ (k + 1) hd.tail ?_
    rw [Nat.pow_succ]
    omega
theorem val_lt {w : Str} (h : NumOk w) : valW w < 1000000000 := by
  obtain ⟨h1, h2, h3, _⟩ := h
  have := digits_lt (tl w) 0 0 h3 (by decide)
  rw [Nat.zero_add, ← len_tl] at this
  refine Nat.lt_of_lt_of_le this ?_
  calc 10 ^ w.length ≤ 10 ^ 9 := Nat.pow_le_pow_right (by decide) h2
    _ = 1000000000 := by decide
end Toy
set_option Elab.async false
set_option linter.all false
set_option maxRecDepth 100000
set_option maxHeartbeats 8000000
namespace Toy
open PySem L2 Q RZ D7 TL
theorem iteB2 {c : Bool} {A B : Prop} (h : c = false) (b : B) : if c = true then A else B := by
  rw [h]
  exact b
theorem ifE {c : Bool} {A B : Prop} (h1 : c = true → A) (h2 : c = false → B) : if c = true then A else B := by
  cases c with
  | true => exact h1 rfl
  | false => exact h2 rfl
theorem ixT {K : PySem.W.Frag} {H : Hp} {a : Addr} {xs : List V} (h : SqT K H a xs) (i : Nat) {v : V} {Q : VK} (e : xs[i]? = some v) (q : Q v H) : rIx K (.ref a) (.int (i : Int)) H Q :=
  .inr (.inl ⟨a, xs, (i : Int), v, rfl, rfl, h, atI_nat e, q⟩)
theorem ixL {K : PySem.W.Frag} {H : Hp} {a : Addr} {xs : List V} (h : SqL K H a xs) (i : Nat) {v : V} {Q : VK} (e : xs[i]? = some v) (q : Q v H) : rIx K (.ref a) (.int (i : Int)) H Q :=
  .inl ⟨a, xs, (i : Int), v, rfl, rfl, h, atI_nat e, q⟩
theorem digS (c : Nat) : (!decide ((⟨#[c]⟩ : Str).cps.toList < (Str.ofString "0").cps.toList)) = decide (48 ≤ c) ∧ (!decide ((Str.ofString "9").cps.toList < (⟨#[c]⟩ : Str).cps.toList)) = decide (c ≤ 57) := by
  have ea : (Str.ofString "0").cps.toList = [48] := by decide +kernel
  have ez : (Str.ofString "9").cps.toList = [57] := by decide +kernel
  rw [ea, ez]
  constructor
  · rw [Bool.eq_iff_iff]
    simp [List.cons_lt_cons_iff]
  · rw [Bool.eq_iff_iff]
    simp [List.cons_lt_cons_iff]
theorem tx0 : tl (tx "0") = [48] := by decide +kernel
/-- number_of(word) -/
def spNumA : Sp := fun vs H Q _ => ∃ w : Str, vs = [.str w] ∧ w.length ≤ 100000 ∧ (NumOk w → ∀ H', Same H H' → Q (.int (valW w : Int)) H') ∧ (¬ NumOk w → ∀ H', Same H H' → Q .non H')
section
variable {P : Program} {w : World} {K : PySem.W.Frag} {mg : Str → Option Value} {base : Heap} {ca ia fa : Nat → Addr} {fd fi : Nat → FuncData}
theorem ok_numA (T : Txt w K mg ca ia fa fd fi) : FnOk P w K mg base CX0 1 (fa 17) (fd 17) ["word"] spNumA := by
  refine T.F_number_of.ok sc_number_of (fun vs H Q E h => ?_) (fun cdv A outer s H vs Q E hr h => ?_)
  · obtain ⟨z, rfl, _⟩ := h
    rfl
  · obtain ⟨z, rfl, zl, kY, kN⟩ := h
    obtain ⟨tk9, hv_MOST_DIGITS⟩ := T.v_MOST_DIGITS
    refine ⟨_, (pss_cons (ps_if (PW.pt (pw_or (pt_not (pt_chain op_le op_le pe_int (pe_callB call_len (by rfl) T.n_len (by decide +kernel) (pa_cons (pv 0) pa_nil)) (pe_glob rfl hv_MOST_DIGITS (v := .int 9) ⟨_, rfl⟩))) (pw_or1 (pt_not (pt_val (pe_callB (cr_all rfl) (by rfl) T.n_all (by decide +kernel) (pa_cons (pe_lc (own := [("digit", 1)]) (g := (gName 1)) (tt := tYes) rfl sc_number_of.nd (pi_str (pv 0)) (blkOk_by (own := [("digit", 1)]) (N := N_number_of) (sc := defScope s_number_of) (by decide +kernel)) (fun _ _ _ _ _ => (pg_name (i := 1) sc_number_of.nd rfl (Or.inl rfl))) (fun _ _ _ _ _ => pts_nil) (fun _ _ _ _ _ => by exact (pe_chain op_le_str op_le_str pe_str (pv 1) pe_str))) pa_nil))))))) (pss_one (ps_ret pe_non)) pss_nil)
      (pss_one (ps_ret (pe_ifExp (PW.pt (pw_or (pt_cmpR op_eq (pv 0) pe_str (nomark _)) (pw_or1 (pt_cmpR op_ne (pe_ix ix_seq (pv 0) pe_int (fun _ _ => rfl)) pe_str (nomark _))))) (pe_callTy call_int_str (by rfl) T.n_int (by decide +kernel) (pa_cons (pv 0) pa_nil)) pe_non)))), ?_⟩
    have lenV : LenV K (.str z) H z.length := ⟨by rw [sizeLine_eq]; omega, rfl⟩
    refine ⟨_, rfl, _, _, rfl, lenV, _, _, rfl, rfl, _, rfl, ifE (fun c1 => ?_) fun c1 => ?_⟩
    rotate_left
    · have l1 : ¬ (1 : Int) ≤ (z.length : Nat) := of_decide_eq_false c1
      exact ⟨_, rfl, iteB rfl (kN (fun q => l1 (by have := q.1; omega)) H (Same.refl H))⟩
    have l1 : (1 : Int) ≤ (z.length : Nat) := of_decide_eq_true c1
    refine ⟨_, _, rfl, rfl, _, rfl, ifE (fun c2 => ?_) fun c2 => ?_⟩
    · have l2 : ¬ ((z.length : Nat) : Int) ≤ 9 := fun q => by
        rw [decide_eq_true q] at c2
        cases c2
      exact kN (fun q => l2 (by have := q.2.1; omega)) H (Same.refl H)
    have l2 : ((z.length : Nat) : Int) ≤ 9 := of_decide_eq_true (by simpa using c2)
    refine ⟨_, rfl, z, rfl, fun D hD => ?_⟩
    refine lc_it walk_str (fun i H' => ∃ bs : List Bool, bs.length = i ∧ H' D = some (.lst (bs.map V.bl)) ∧ Same H H' ∧ (bs.all id = true ↔ ∀ c ∈ (tl z).take i, 48 ≤ c ∧ c ≤ 57))
      ⟨[], rfl, upd_same, same_new hD, by simp⟩ (fun _ _ _ _ => trivial) ?_ ?_
    · rintro i x H1 H2 hi ⟨bs, lb, hb, s1, iff1⟩ ⟨rfl, c, hc, rfl⟩
      refine ⟨rfl, ?_⟩
      dsimp only [tYes]
      rw [if_pos rfl]
      have hi2 : i < z.length := hi
      have fin : ∀ b : Bool, (b = true ↔ 48 ≤ c ∧ c ≤ 57) → ∃ acc, H2 D = some (.lst acc) ∧ acc.length < sizeLine ∧ ∃ bs : List Bool, bs.length = i + 1 ∧ upd H2 D (.lst (acc ++ [.bl b])) D = some (.lst (bs.map V.bl)) ∧ Same H (upd H2 D (.lst (acc ++ [.bl b]))) ∧
          (bs.all id = true ↔ ∀ c ∈ (tl z).take (i + 1), 48 ≤ c ∧ c ≤ 57) := fun b hb2 => by
        refine ⟨_, hb, ?_, bs ++ [b], by simp [lb], ?_, Same.upd_at s1 hD, ?_⟩
        · rw [List.length_map, sizeLine_eq]
          omega
        · rw [upd_same, List.map_append]
          rfl
        · have hc2 : (tl z)[i]? = some c := by rw [Array.getElem?_toList]; exact hc
          rw [List.take_add_one, hc2, List.all_append, Bool.and_eq_true, iff1]
          constructor
          · rintro ⟨q1, q2⟩ d hd
            rcases List.mem_append.mp hd with q | q
            · exact q1 d q
            · have e : d = c := by simpa using q
              rw [e]
              exact hb2.1 (by simpa using q2)
          · intro q
            refine ⟨fun d hd => q d (List.mem_append_left _ hd), ?_⟩
            have e := hb2.2 (q c (List.mem_append_right _ (by simp)))
            simp [e]
      obtain ⟨low1, low2⟩ := digS c
      refine ⟨_, rfl, _, _, rfl, rfl, _, rfl, ifE (fun a1 => ?_) (fun a1 => ?_)⟩
      · rw [low1] at a1
        refine ⟨_, _, rfl, rfl, ?_⟩
        rw [low2]
        exact fin _ ⟨fun q => ⟨of_decide_eq_true a1, of_decide_eq_true q⟩, fun q => decide_eq_true q.2⟩
      · rw [low1] at a1
        exact fin _ ⟨fun q => (nomatch q), fun q => absurd q.1 (of_decide_eq_false a1)⟩
    · rintro H1 ⟨bs, lb, hb, s1, iff1⟩
      have e : (tl z).take z.cps.size = tl z := List.take_of_length_le (Nat.le_of_eq (Array.length_toList ..))
      rw [e] at iff1
      refine ⟨D, bs, rfl, SqL.of hb, ?_⟩
      refine ⟨_, rfl, ifE (fun c3 => ?_) fun c3 => ?_⟩
      · have nd : ¬ DigOk z := fun q => by
          rw [iff1.mpr q] at c3
          cases c3
        exact kN (fun q => nd q.2.2.1) H1 s1
      have dg : DigOk z := iff1.mp (by simpa using c3)
      refine nxt ?_
      have z1 : 1 ≤ z.length := by omega
      have z9 : z.length ≤ 9 := by omega
      obtain ⟨c0, l0, t0⟩ : ∃ c0 l0, tl z = c0 :: l0 := by
        cases e : tl z with
        | nil => rw [len_tl, e] at z1; exact absurd z1 (by decide)
        | cons c l => exact ⟨c, l, rfl⟩
      have go : NumOk z → (tCB (fun xs H Q => ∃ a n, xs = [V.str a] ∧ intText? a = some n ∧ a.length ≤ 640 ∧ Q (V.int n) H) (tCons (tVar 0) tNil)) (L2.start N_number_of [V.str z]) H1 Q := fun ok =>
        ⟨_, rfl, z, _, rfl, val_int ok, by omega, kY ok H1 s1⟩
      refine ⟨_, rfl, rfl, _, rfl, ifE (fun c4 => ?_) fun c4 => ?_⟩
      · have e0 := of_decide_eq_true c4
        injection e0 with e0
        exact go ⟨z1, z9, dg, .inl e0⟩
      have n0 : z ≠ tx "0" := fun q => of_decide_eq_false c4 (by rw [q])
      refine ⟨_, rfl, .inr (.inr ⟨z, 0, c0, rfl, rfl, by rw [sizeLine_eq]; omega, atI_nat (xs := z.cps.toList) (j := 0) (by rw [show z.cps.toList = c0 :: l0 from t0]; rfl), rfl, _, rfl, ifE (fun c5 => ?_) fun c5 => ?_⟩)⟩
      · refine go ⟨z1, z9, dg, .inr fun c hc => ?_⟩
        rw [t0] at hc
        injection hc with hc
        rintro rfl
        subst hc
        simp at c5
        exact c5 (by decide +kernel)
      · refine kN (fun ok => ?_) H1 s1
        rcases ok.2.2.2 with q | q
        · exact n0 q
        · have h := q c0 (by rw [t0]; rfl)
          have e5 := of_decide_eq_true (by simpa using c5 : decide (V.str (⟨#[c0]⟩ : Str) = V.str (Str.ofString "0")) = true)
          injection e5 with e5
          have t1 : tl (⟨#[c0]⟩ : Str) = tl (tx "0") := congrArg tl e5
          rw [tx0] at t1
          injection t1 with t1
          exact h t1
end
end Toy
set_option Elab.async false
set_option linter.all false
set_option maxRecDepth 100000
set_option maxHeartbeats 600000
namespace Toy
open PySem L2 Q RZ D7 TL
/-! ### events, of any data -/
abbrev formsL : List (Str × Str) := [("set", "rrll"), ("out", "rr"), ("learn", "r"), ("send", "rr"), ("hop", "pr"), ("drop", "p")]
/-- a part of this kind -/
def KindD (k : Str) (d : PyData) : Prop := if k = tx "r" then NameD d else fromB d (if k = tx "l" then 1 else 0) = true
def EventD (d : PyData) : Prop := ∃ (w f : Str) (ds : List PyData), d = .tuple (.str w :: ds) ∧ formsL.lookup w = some f ∧ ds.length = f.length ∧
  (∀ (i : Nat) (e : PyData) (c : Nat), ds[i]? = some e → f.cps[i]? = some c → KindD ⟨#[c]⟩ e) ∧ (w = tx "set" ∨ w = tx "out" → ∃ a b r, ds = .str a :: .str b :: r ∧ tLt a b)
def Txs (d : PyData) : Prop := TxOk d ∧ ∀ ds, d = .tuple ds → ∀ e ∈ ds, TxOk e
def spPartA (K : PySem.W.Frag) : Sp := fun vs H Q _ => ∃ (v : V) (d : PyData) (k : Str), vs = [v, .str k] ∧ Dd K H v d ∧ TxOk d ∧ ∀ b : Bool, (b = true ↔ KindD k d) → ∀ H', Same H H' → Q (.bl b) H'
def spEventA (K : PySem.W.Frag) : Sp := fun vs H Q _ => ∃ (v : V) (d : PyData), vs = [v] ∧ Dd K H v d ∧ Txs d ∧ ∀ b : Bool, (b = true ↔ EventD d) → ∀ H', Same H H' → Q (.bl b) H'
section
variable {P : Program} {w : World} {K : PySem.W.Frag} {mg : Str → Option Value} {base : Heap} {ca ia fa : Nat → Addr} {fd fi : Nat → FuncData}
theorem ok_partA (T : Txt w K mg ca ia fa fd fi) : FnOk P w K mg base CX0 3 (fa 14) (fd 14) ["value", "kind"] (spPartA K) := by
  have G_is_name := ok_nameA (P := P) (w := w) (base := base) T
  have G_is_integer_from := ok_fromA (P := P) (w := w) (base := base) T
  refine T.F_is_part.ok sc_is_part (fun vs H Q E h => ?_) (fun cdv A outer s H vs Q E hr h => ?_)
  · obtain ⟨v, d, k, rfl, _⟩ := h
    rfl
  · obtain ⟨v, d, k, rfl, hd, txd, q⟩ := h
    refine ⟨_, (pss_cons (ps_if (pt_cmpR op_eq (pv 1) pe_str (nomark _)) (pss_one (ps_ret (pe_call G_is_name (hr.mono (by decide)) rfl T.g_is_name T.k_is_name T.b_is_name .nil pass0 (pa_cons (pv 0) pa_nil)))) pss_nil)
      (pss_one (ps_ret (pe_call G_is_integer_from (hr.mono (by decide)) rfl T.g_is_integer_from T.k_is_integer_from T.b_is_integer_from .nil pass0 (pa_cons (pv 0) (pa_cons (pe_ifExp (pt_cmpR op_eq (pv 1) pe_str (nomark _)) pe_int pe_int) pa_nil)))))), ?_⟩
    refine ⟨_, rfl, rfl, _, rfl, ifE (fun c => ?_) fun c => ?_⟩
    · have e := of_decide_eq_true c
      injection e with e
      refine ⟨_, rfl, v, d, rfl, hd, txd, fun b hb H' s' => q b ?_ H' s'⟩
      unfold KindD
      rw [e, if_pos (by rfl)]
      exact hb
    have nr : k ≠ tx "r" := fun e => of_decide_eq_false c (by rw [e])
    refine nxt ⟨_, rfl, _, rfl, rfl, _, rfl, ifE (fun c2 => ?_) fun c2 => ?_⟩
    · have e := of_decide_eq_true c2
      injection e with e
      refine ⟨v, d, 1, rfl, hd, q _ ?_ H (Same.refl H)⟩
      unfold KindD
      rw [if_neg nr, if_pos (by rw [e])]
    · have nl : k ≠ tx "l" := fun e => of_decide_eq_false c2 (by rw [e])
      refine ⟨v, d, 0, rfl, hd, q _ ?_ H (Same.refl H)⟩
      unfold KindD
      rw [if_neg nr, if_neg nl]
theorem forms_le : ∀ q ∈ formsL, 1 ≤ q.2.length ∧ q.2.length ≤ 4 := by decide +kernel
theorem look_mem : ∀ {l : List (Str × Str)} {w f : Str}, l.lookup w = some f → (w, f) ∈ l
  | (k, v) :: l, w, f, h => by
    rw [List.lookup_cons] at h
    split at h
    · rename_i e
      injection h with h
      have e := beq_iff_eq.mp e
      rw [e, h]
      exact List.mem_cons_self
    · exact List.mem_cons_of_mem _ (look_mem h)
theorem look_none : ∀ {w : Str}, formsL.lookup w = none → w ≠ tx "set" ∧ w ≠ tx "out" := fun {w} h => by
  constructor
  · rintro rfl
    exact absurd h (by decide +kernel)
  · rintro rfl
    exact absurd h (by decide +kernel)
theorem two_of {α : Type} : ∀ {l : List α} {a b : α}, l[0]? = some a → l[1]? = some b → l = a :: b :: l.drop 2
  | [], _, _, h, _ => by cases h
  | [_], _, _, _, h => by cases h
  | x :: y :: l, a, b, h, g => by
    injection h with h
    injection g with g
    rw [h, g]
    rfl
theorem ok_eventA (T : Txt w K mg ca ia fa fd fi) : FnOk P w K mg base CX0 4 (fa 13) (fd 13) ["value"] (spEventA K) := by
  have G_is_part := ok_partA (P := P) (w := w) (base := base) T
  obtain ⟨d_FORMS, hv_FORMS, h_FORMS⟩ := T.v_FORMS
  obtain ⟨d_OF_A_LINK, hv_OF_A_LINK, h_OF_A_LINK⟩ := T.v_OF_A_LINK
  refine T.F_is_event.ok sc_is_event (fun vs H Q E h => ?_) (fun cdv A outer s H vs Q E hr h => ?_)
  · obtain ⟨v, d, rfl, _⟩ := h
    rfl
  · obtain ⟨v, d, rfl, hd, txd, k⟩ := h
    refine ⟨_, (pss_cons (ps_if (PW.pt (pw_or (pt_not (pt_val (pe_callB call_isi (by rfl) T.n_isinstance (by decide +kernel) (pa_cons (pv 0) (pa_cons (pe_bltn (v := .ty "tuple") (by rfl) T.n_tuple (by decide +kernel) rfl) pa_nil))))) (pw_or (pt_not (pt_truth (pv 0) (fun _ => rfl))) (pw_or1 (pt_not (pt_val (pe_callB call_isi (by rfl) T.n_isinstance (by decide +kernel) (pa_cons (pe_ix ix_seq (pv 0) pe_int (fun _ _ => rfl)) (pa_cons (pe_bltn (v := .ty "str") (by rfl) T.n_str (by decide +kernel) rfl) pa_nil))))))))) (pss_one (ps_ret pe_bl)) pss_nil)
      (pss_cons (ps_set (i := 1) sc_is_event.nd rfl (Or.inl rfl) (pe_getT (pe_glob rfl hv_FORMS (v := .ref d_FORMS) rfl) h_FORMS (pe_ix ix_seq (pv 0) pe_int (fun _ _ => rfl)) ⟨by rfl, by rfl, by rfl, by rfl⟩))
      (pss_cons (ps_if (PW.pt (pw_or (pt_cmpR op_isN (pv 1) pe_non (nomark _)) (pw_or1 (pt_cmpR op_ne (pe_callB call_len (by rfl) T.n_len (by decide +kernel) (pa_cons (pv 0) pa_nil)) (pe_op op_add (pe_callB call_len (by rfl) T.n_len (by decide +kernel) (pa_cons (pv 1) pa_nil)) pe_int) (nomark _))))) (pss_one (ps_ret pe_bl)) pss_nil)
      (pss_cons (ps_if (pt_not (pt_val (pe_callB (cr_all rfl) (by rfl) T.n_all (by decide +kernel) (pa_cons (pe_lc (own := [("part", 2), ("kind", 3)]) (g := (gTup K 2 (gCons (gName 2) (gCons (gName 3) gNil)))) (tt := tYes) rfl sc_is_event.nd (pi_zipS (by rfl) T.n_zip (pa_cons (pe_slice sl_tupA (pv 0) (po_some pe_int) po_none) (pa_cons (pv 1) pa_nil))) (blkOk_by (own := [("part", 2), ("kind", 3)]) (N := N_is_event) (sc := defScope s_is_event) (by decide +kernel)) (fun _ _ _ _ _ => (pg_tup rfl (pgs_cons (pg_name (i := 2) sc_is_event.nd rfl (Or.inl rfl)) (pgs_cons (pg_name (i := 3) sc_is_event.nd rfl (Or.inl rfl)) pgs_nil)))) (fun _ _ _ _ _ => pts_nil) (fun _ _ _ _ _ => by exact (pe_call G_is_part (hr.mono (by decide)) rfl T.g_is_part T.k_is_part T.b_is_part .nil pass0 (pa_cons (pv 2) (pa_cons (pv 3) pa_nil))))) pa_nil)))) (pss_one (ps_ret pe_bl)) pss_nil)
      (pss_one (ps_ret (pe_or (pe_cmpR op_notIn_seq (pe_ix ix_seq (pv 0) pe_int (fun _ _ => rfl)) (pe_glob rfl hv_OF_A_LINK (v := .ref d_OF_A_LINK) rfl) rfl) (pe_one (pe_cmpR op_lt_str (pe_ix ix_seq (pv 0) pe_int (fun _ _ => rfl)) (pe_ix ix_seq (pv 0) pe_int (fun _ _ => rfl)) (nomark _)))))))))), ?_⟩
    obtain ⟨t, ty, _, _, _, e4⟩ := hd.kits
    have no : ∀ {H'}, Same H H' → ¬ EventD d → Q (.bl false) H' := fun {H'} s' n => k false ⟨fun q => (nomatch q), fun q => absurd q n⟩ H' s'
    refine ⟨_, rfl, _, _, _, _, _, rfl, .ty _, ty, e4, _, rfl, ifE (fun c => ?_) fun c => ?_⟩
    · exact no (Same.refl H) fun ⟨w, f, ds, e, _⟩ => by rw [e] at c; cases c
    obtain ⟨a, xs, ds, rfl, rfl, hx, ha⟩ := tupB_of hd (by simpa using c)
    have lx := dd_len ha
    refine ⟨_, rfl, !xs.isEmpty, .inr (.inl ⟨_, hx, rfl⟩), ?_⟩
    match xs, ds, ha, lx with
    | [], [], _, _ => exact iteB rfl (no (Same.refl H) fun ⟨w, f, ds, e, _⟩ => by cases e)
    | x0 :: xr, e0 :: dr, .cons h0 hrr, lx =>
    refine iteB2 rfl ?_
    obtain ⟨t0, ty0, _, _, es0, _⟩ := h0.kits
    refine ⟨_, rfl, ixT hx 0 rfl ⟨x0, .ty "str", _, _, strB e0, rfl, .ty _, ty0, es0, _, rfl, ifE (fun c0 => ?_) fun c0 => ?_⟩⟩
    · exact no (Same.refl H) fun ⟨w, f, ds, e, _⟩ => by
        injection e with e
        injection e with e _
        rw [e] at c0
        cases c0
    obtain ⟨wd, rfl, rfl⟩ := strB_of h0 (by simpa using c0)
    refine nxt ?_
    refine ⟨_, rfl, ixT hx 0 rfl ⟨wd, rfl, ?_⟩⟩
    have lr : xr.length = dr.length := by simpa using lx
    cases ef : formsL.lookup wd with
    | none =>
      have ev : valT formsL wd = .non := by unfold valT; rw [ef]
      rw [ev]
      refine ⟨_, rfl, rfl, _, rfl, iteB rfl (no (Same.refl H) fun ⟨w, f, ds, e, e2, _⟩ => ?_)⟩
      injection e with e
      injection e with e _
      injection e with e
      rw [← e, ef] at e2
      cases e2
    | some f =>
      have ev : valT formsL wd = .str f := by unfold valT; rw [ef]
      rw [ev]
      obtain ⟨f1, f4⟩ := forms_le _ (look_mem ef)
      have only : EventD (.tuple (.str wd :: dr)) ↔ dr.length = f.length ∧ (∀ (i : Nat) (e : PyData) (c : Nat), dr[i]? = some e → f.cps[i]? = some c → KindD ⟨#[c]⟩ e) ∧ (wd = tx "set" ∨ wd = tx "out" → ∃ a b r, dr = .str a :: .str b :: r ∧ tLt a b) := by
        constructor
        · rintro ⟨w, f', ds, e, e2, h⟩
          injection e with e
          injection e with e3 e4
          injection e3 with e3
          rw [← e3, ef] at e2
          injection e2 with e2
          subst e2 e3 e4
          exact h
        · exact fun h => ⟨wd, f, dr, rfl, ef, h⟩
      refine ⟨_, rfl, rfl, _, rfl, iteB2 rfl ⟨_, rfl, _, _, rfl, .inr ⟨_, hx, rfl⟩, _, rfl, _, _, rfl, ⟨by rw [sizeLine_eq]; exact Nat.le_trans f4 (by decide), rfl⟩, _, _, rfl, rfl, rfl, _, rfl, ifE (fun c1 => ?_) fun c1 => ?_⟩⟩
      · refine no (Same.refl H) fun q => ?_
        have q := (only.mp q).1
        rw [List.length_cons, lr, q] at c1
        simp at c1
      have le : dr.length = f.length := by
        have h : ((xr.length + 1 : Nat) : Int) = (f.length : Int) + 1 := by simpa using c1
        omega
      refine nxt ?_
      have f4 : f.length ≤ 4 := f4
      have f1 : 1 ≤ f.length := f1
      refine ⟨_, rfl, _, rfl, a, _, rfl, hx, fun z => absurd z.1 ?_, fun _ p np => ?_⟩
      · show HT.sIx (xr.length + 1) 0 (some 1) ≠ 0
        unfold HT.sIx
        simp
      have ecut : cutV (V.str wd :: xr) (some 1) none = xr := by
        rw [show (some (1 : Int)) = some ((1 : Nat) : Int) from rfl, cut_drop]
        rfl
      rw [ecut]
      have sp := same_new (o := .tup xr) np
      have hp : SqT K (upd H p (.tup xr)) p xr := SqT.of upd_same
      have hrr1 : DdAll K (upd H p (.tup xr)) xr dr := DdAll.same sp hrr
      generalize upd H p (.tup xr) = H1 at sp hp hrr1 ⊢
      have fs : f.cps.size = f.length := rfl
      refine ⟨_, rfl, .inl ⟨p, xr, f, rfl, .inr ⟨hp, fun D nD => ?_⟩⟩⟩
      have prL : (dr.zip (tl f)).length = f.length := by
        rw [List.length_zip, ← len_tl]
        omega
      refine lc_it (walk_zipP (n := f.length) (fun i hi => ⟨xr[i]'(by omega), .str ⟨#[f.cps[i]'hi]⟩, List.getElem?_eq_getElem _, by show f.cps[i]?.map _ = _; rw [Array.getElem?_eq_getElem hi]; rfl⟩) (.inl (List.getElem?_eq_none (by omega))))
        (fun i H' => ∃ bs : List Bool, bs.length = i ∧ H' D = some (.lst (bs.map V.bl)) ∧ Same H1 H' ∧ (bs.all id = true ↔ ∀ q ∈ (dr.zip (tl f)).take i, KindD ⟨#[q.2]⟩ q.1)) ⟨[], rfl, upd_same, same_new nD, by simp⟩ (fun i H' _ ⟨_, _, _, q, _⟩ => ⟨SqT.same q hp, trivial⟩) ?_ ?_
      · rintro i x Ha Hb hi ⟨bs, lb, hb, sm, iff1⟩ ⟨T1, y1, y2, rfl, nT, rfl, e1, e2⟩
        obtain ⟨c, hc, e2⟩ := Option.map_eq_some_iff.mp e2
        obtain ⟨e, he, hye⟩ := dd_at hrr1 e1
        subst e2
        have sT := same_new (o := .tup [y1, .str ⟨#[c]⟩]) nT
        refine ⟨T1, _, rfl, SqT.of upd_same, rfl, _, _, rfl, _, _, rfl, rfl, ?_⟩
        dsimp only [tYes]
        rw [if_pos rfl]
        refine ⟨rfl, _, rfl, _, rfl, y1, e, ⟨#[c]⟩, rfl, hye.same (sm.trans sT), fun z ez => txd.2 _ rfl e (List.mem_cons_of_mem _ (List.mem_of_getElem? he)) z ez, fun b hb2 H' s' => ?_⟩
        have s2 := (sm.trans sT).trans s'
        have hb3 := s' _ _ (sT _ _ hb)
        refine ⟨_, hb3, by rw [List.length_map, sizeLine_eq]; omega, bs ++ [b], by simp [lb], by rw [upd_same, List.map_append]; rfl, Same.upd_at s2 nD, all_more (d := (e, c)) ?_ hb2 iff1⟩
        rw [List.getElem?_zip_eq_some]
        exact ⟨he, by rw [Array.getElem?_toList]; exact hc⟩
      · rintro H3 ⟨bs, lb, hb, s3, iff1⟩
        rw [List.take_of_length_le (by omega)] at iff1
        have iff2 : (bs.all id = true) ↔ ∀ (i : Nat) (e : PyData) (c : Nat), dr[i]? = some e → f.cps[i]? = some c → KindD ⟨#[c]⟩ e := by
          rw [iff1]
          constructor
          · intro q i e c h1 h2
            exact q (e, c) (List.mem_of_getElem? (i := i) (by rw [List.getElem?_zip_eq_some]; exact ⟨h1, by rw [Array.getElem?_toList]; exact h2⟩))
          · intro q u hu
            obtain ⟨i, hi⟩ := List.getElem?_of_mem hu
            rw [List.getElem?_zip_eq_some] at hi
            exact q i u.1 u.2 hi.1 (by rw [← Array.getElem?_toList]; exact hi.2)
        have s03 := sp.trans s3
        refine ⟨D, bs, rfl, SqL.of hb, _, rfl, ifE (fun c3 => ?_) fun c3 => ?_⟩
        · exact no s03 fun q => by
            rw [iff2.mpr (only.mp q).2.1] at c3
            cases c3
        have kinds := iff2.mp (by simpa using c3)
        refine nxt ?_
        have hx3 := SqT.same s03 hx
        have hrr3 : DdAll K H3 xr dr := DdAll.same s03 hrr
        refine ⟨_, rfl, ixT hx3 0 rfl ⟨d_OF_A_LINK, _, rfl, .inr (h_OF_A_LINK H3), rfl, rfl, _, rfl, ifE (fun c4 => ?_) fun c4 => ?_⟩⟩
        · refine k true ⟨fun _ => only.mpr ⟨le, kinds, fun q => ?_⟩, fun _ => rfl⟩ _ s03
          have m : wd ∈ ([tx "set", tx "out"] : List Str) := by rcases q with q | q <;> simp [q]
          have e := in_strs.mpr m
          have c4 : (!inV (V.str wd) (([tx "set", tx "out"] : List Str).map V.str)) = true := c4
          rw [e] at c4
          cases c4
        have m : wd ∈ ([tx "set", tx "out"] : List Str) := in_strs.mp (by simpa using (show (!inV (V.str wd) (([tx "set", tx "out"] : List Str).map V.str)) = false from c4))
        have q : wd = tx "set" ∨ wd = tx "out" := by simpa using m
        have two : f = tx "rrll" ∨ f = tx "rr" := by
          rcases q with rfl | rfl
          · exact .inl (Option.some.inj (ef.symm.trans (by decide +kernel)))
          · exact .inr (Option.some.inj (ef.symm.trans (by decide +kernel)))
        have rr : 2 ≤ f.length ∧ f.cps[0]? = some 114 ∧ f.cps[1]? = some 114 := by rcases two with rfl | rfl <;> decide +kernel
        have kr : ∀ {e : PyData}, KindD ⟨#[114]⟩ e → NameD e := fun {e} h => by
          unfold KindD at h
          rw [if_pos (by decide +kernel)] at h
          exact h
        have l2 := rr.1
        obtain ⟨e1, g1⟩ : ∃ e, dr[0]? = some e := ⟨dr[0]'(by omega), List.getElem?_eq_getElem _⟩
        obtain ⟨e2, g2⟩ : ∃ e, dr[1]? = some e := ⟨dr[1]'(by omega), List.getElem?_eq_getElem _⟩
        obtain ⟨x1, y1⟩ : ∃ e, xr[0]? = some e := ⟨xr[0]'(by omega), List.getElem?_eq_getElem _⟩
        obtain ⟨x2, y2⟩ : ∃ e, xr[1]? = some e := ⟨xr[1]'(by omega), List.getElem?_eq_getElem _⟩
        obtain ⟨za, ea, na⟩ := kr (kinds 0 e1 114 g1 rr.2.1)
        obtain ⟨zb, eb, nb⟩ := kr (kinds 1 e2 114 g2 rr.2.2)
        obtain ⟨u1, w1, v1⟩ := dd_at hrr3 y1
        obtain ⟨u2, w2, v2⟩ := dd_at hrr3 y2
        rw [g1] at w1
        rw [g2] at w2
        injection w1 with w1
        injection w2 with w2
        rw [← w1, ea] at v1
        rw [← w2, eb] at v2
        have z1 : x1 = .str za := by cases v1; rfl
        have z2 : x2 = .str zb := by cases v2; rfl
        rw [ea] at g1
        rw [eb] at g2
        rw [z1] at y1
        rw [z2] at y2
        refine ⟨_, rfl, ixT hx3 1 y1 ⟨_, rfl, ixT hx3 2 y2 ⟨za, zb, rfl, rfl, k _ ?_ _ s03⟩⟩⟩
        rw [only, decide_eq_true_iff]
        constructor
        · exact fun ab => ⟨le, kinds, fun _ => ⟨za, zb, dr.drop 2, two_of g1 g2, ab⟩⟩
        · intro h
          obtain ⟨a', b', r', e', ab⟩ := h.2.2 q
          rw [e'] at g1 g2
          injection g1 with g1
          injection g2 with g2
          injection g1 with g1
          injection g2 with g2
          rw [← g1, ← g2]
          exact ab
end
end Toy
set_option Elab.async false
set_option linter.all false
set_option maxRecDepth 100000
set_option maxHeartbeats 600000
namespace Toy
open PySem L2 Q RZ D7 TL StX
/-! ### the event that a row tells -/
open Classical in
noncomputable def partD (c : Nat) (z : Str) : PyData := if c = 114 then .str z else if NumOk z then .int (valW z : Int) else .none
noncomputable def madeD (w : Str) (rest : List Str) (f : Str) : PyData := .tuple (.str w :: (rest.zip (tl f)).map fun q => partD q.2 q.1)
open Classical in
noncomputable def evD (r : Str) : Option PyData := match wordsOf r with
  | [] => none
  | w :: rest => match formsL.lookup w with
    | none => none
    | some f => if rest.length = f.length ∧ EventD (madeD w rest f) then some (madeD w rest f) else none
theorem evD_form {r w : Str} {rest : List Str} (e : wordsOf r = w :: rest) (h : formsL.lookup w = none) : evD r = none := by
  unfold evD
  rw [e]
  simp only [h]
theorem evD_at {r w f : Str} {rest : List Str} (e : wordsOf r = w :: rest) (h : formsL.lookup w = some f) : (rest.length = f.length ∧ EventD (madeD w rest f) → evD r = some (madeD w rest f)) ∧ (¬ (rest.length = f.length ∧ EventD (madeD w rest f)) → evD r = none) := by
  unfold evD
  rw [e]
  simp only [h]
  exact ⟨fun q => if_pos q, fun q => if_neg q⟩
theorem dd_snoc {K : PySem.W.Frag} {H : Hp} : ∀ {xs : List V} {ds : List PyData} {x : V} {d : PyData}, DdAll K H xs ds → Dd K H x d → DdAll K H (xs ++ [x]) (ds ++ [d])
  | _, _, _, _, .nil, h => .cons h .nil
  | _, _, _, _, .cons a b, h => .cons a (dd_snoc b h)
/-- what number_of answers -/
def NumAns (w : Str) (v : V) : Prop := (NumOk w ∧ v = .int (valW w : Int)) ∨ (¬ NumOk w ∧ v = .non)
theorem numA_both {w : Str} {H : Hp} {Q : VK} {E : XK} (l : w.length ≤ 9000) (k : ∀ v H', NumAns w v → Same H H' → Q v H') : spNumA [.str w] H Q E :=
  ⟨w, rfl, by omega, fun o H' s => k _ H' (.inl ⟨o, rfl⟩) s, fun o H' s => k _ H' (.inr ⟨o, rfl⟩) s⟩
def spEventOf (K : PySem.W.Frag) : Sp := fun vs H Q _ => ∃ r : Str, vs = [.str r] ∧ r.length ≤ 9000 ∧ (∀ d, evD r = some d → ∀ t H', Same H H' → Dd K H' (.ref t) d → Q (.ref t) H') ∧ (evD r = none → ∀ H', Same H H' → Q .non H')
section
variable {P : Program} {w : World} {K : PySem.W.Frag} {mg : Str → Option Value} {base : Heap} {ca ia fa : Nat → Addr} {fd fi : Nat → FuncData}
theorem ok_eventOf (T : Txt w K mg ca ia fa fd fi) : FnOk P w K mg base CX0 5 (fa 16) (fd 16) ["row"] (spEventOf K) := by
  have G_number_of := ok_numA (P := P) (w := w) (base := base) T
  have G_is_event := ok_eventA (P := P) (w := w) (base := base) T
  obtain ⟨d_FORMS, hv_FORMS, h_FORMS⟩ := T.v_FORMS
  refine T.F_event_of.ok sc_event_of (fun vs H Q E h => ?_) (fun cdv A outer s H vs Q E hr h => ?_)
  · obtain ⟨r, rfl, _⟩ := h
    rfl
  · obtain ⟨r, rfl, len, kY, kN⟩ := h
    refine ⟨_, (pss_cons (ps_asg (pe_split (pv 0) pe_str) (pg_hd rfl (pg_name (i := 1) sc_event_of.nd rfl (Or.inl rfl)) (pg_name (i := 2) sc_event_of.nd rfl (Or.inl rfl))))
      (pss_cons (ps_set (i := 3) sc_event_of.nd rfl (Or.inl rfl) (pe_getT (pe_glob rfl hv_FORMS (v := .ref d_FORMS) rfl) h_FORMS (pv 1) ⟨by rfl, by rfl, by rfl, by rfl⟩))
      (pss_cons (ps_if (PW.pt (pw_or (pt_cmpR op_isN (pv 3) pe_non (nomark _)) (pw_or1 (pt_cmpR op_ne (pe_callB call_len (by rfl) T.n_len (by decide +kernel) (pa_cons (pv 2) pa_nil)) (pe_callB call_len (by rfl) T.n_len (by decide +kernel) (pa_cons (pv 3) pa_nil)) (nomark _))))) (pss_one (ps_ret pe_non)) pss_nil)
      (pss_cons (ps_setLc (i := 4) (own := [("part", 5), ("kind", 6)]) (g := (gTup K 2 (gCons (gName 5) (gCons (gName 6) gNil)))) (tt := tYes) rfl sc_event_of.nd rfl rfl (sw_true rfl rfl rfl (by decide +kernel)) (pi_zipS (by rfl) T.n_zip (pa_cons (pv 2) (pa_cons (pv 3) pa_nil))) (blkOk_by (own := [("part", 5), ("kind", 6)]) (N := N_event_of) (sc := defScope s_event_of) (by decide +kernel)) (fun _ _ _ _ _ => (pg_tup rfl (pgs_cons (pg_name (i := 5) sc_event_of.nd rfl (Or.inl rfl)) (pgs_cons (pg_name (i := 6) sc_event_of.nd rfl (Or.inl rfl)) pgs_nil)))) (fun _ _ _ _ _ => pts_nil) (fun _ _ _ _ _ => by exact (pe_ifExp (pt_cmpR op_eq (pv 6) pe_str (nomark _)) (pv 5) (pe_call G_number_of (hr.mono (by decide)) rfl T.g_number_of T.k_number_of T.b_number_of .nil pass0 (pa_cons (pv 5) pa_nil)))))
      (pss_cons (ps_set (i := 7) sc_event_of.nd rfl (Or.inl rfl) (pe_tup (pa_cons (pv 1) (pa_star (pv 4) pa_nil))))
      (pss_one (ps_ret (pe_ifExp (pt_val (pe_call G_is_event (hr.mono (by decide)) rfl T.g_is_event T.k_is_event T.b_is_event .nil pass0 (pa_cons (pv 7) pa_nil))) (pv 7) pe_non)))))))), ?_⟩
    obtain ⟨wl, wn, wp⟩ := words_le r
    obtain ⟨w0, zs, ew⟩ : ∃ w0 zs, wordsOf r = w0 :: zs := by
      cases e : wordsOf r with
      | nil => exact absurd e wn
      | cons a b => exact ⟨a, b, rfl⟩
    refine ⟨_, rfl, ⟨_, rfl⟩, _, _, rfl, rfl, by decide +kernel, by rw [sizeLine_eq]; omega, fun R nR => ?_⟩
    have sR := same_new (o := .lst ((w0 :: zs).map V.str)) nR
    have hR : upd H R (.lst ((w0 :: zs).map V.str)) R = some (.lst ((w0 :: zs).map V.str)) := upd_same
    have eW : Txt.split r (Str.ofString " ") = w0 :: zs := ew
    rw [eW]
    rw [ew, List.length_cons] at wl
    rw [ew] at wp
    generalize upd H R (.lst ((w0 :: zs).map V.str)) = H1 at sR hR ⊢
    refine ⟨R, .str w0, zs.map V.str, rfl, SqL.of hR, by rw [List.length_map]; omega, fun p np => ?_⟩
    have sp := same_new (o := .lst (zs.map V.str)) np
    have hp : upd H1 p (.lst (zs.map V.str)) p = some (.lst (zs.map V.str)) := upd_same
    have s02 := sR.trans sp
    generalize upd H1 p (.lst (zs.map V.str)) = H2 at sp hp s02 ⊢
    refine ⟨_, rfl, w0, rfl, ?_⟩
    cases ef : formsL.lookup w0 with
    | none =>
      have ev : valT formsL w0 = .non := by unfold valT; rw [ef]
      rw [ev]
      exact ⟨_, rfl, rfl, _, rfl, iteB rfl (kN (evD_form ew ef) _ s02)⟩
    | some f =>
      have ev : valT formsL w0 = .str f := by unfold valT; rw [ef]
      rw [ev]
      obtain ⟨f1, f4⟩ := forms_le _ (look_mem ef)
      have f4 : f.length ≤ 4 := f4
      obtain ⟨oY, oN⟩ := evD_at ew ef
      refine ⟨_, rfl, rfl, _, rfl, iteB2 rfl ⟨_, rfl, _, _, rfl, .inl ⟨_, SqL.of hp, rfl⟩, _, rfl, _, _, rfl, ⟨by rw [sizeLine_eq]; exact Nat.le_trans f4 (by decide), rfl⟩, rfl, _, rfl, ?_⟩⟩
      rw [List.length_map]
      refine ifE (fun c1 => ?_) fun c1 => ?_
      · refine kN (oN fun q => ?_) _ s02
        rw [q.1] at c1
        simp at c1
      have le : zs.length = f.length := by
        have h : ((zs.length : Nat) : Int) = (f.length : Int) := by simpa using c1
        omega
      refine nxt ?_
      refine ⟨_, rfl, _, rfl, .inl ⟨p, zs.map V.str, f, rfl, .inl ⟨SqL.of hp, fun D nD => ?_⟩⟩⟩
      have prL : (zs.zip (tl f)).length = f.length := by
        rw [List.length_zip, ← len_tl]
        omega
      refine lc_it (walk_zipP (n := f.length) (fun i hi => ⟨.str (zs[i]'(by omega)), .str ⟨#[f.cps[i]'hi]⟩, by rw [List.getElem?_map, List.getElem?_eq_getElem (by omega)]; rfl, by show f.cps[i]?.map _ = _; rw [Array.getElem?_eq_getElem hi]; rfl⟩) (.inl (List.getElem?_eq_none (by rw [List.length_map]; omega))))
        (fun i H' => ∃ vs : List V, vs.length = i ∧ H' D = some (.lst vs) ∧ Same H2 H' ∧ ∀ H3, DdAll K H3 vs (((zs.zip (tl f)).take i).map fun q => partD q.2 q.1)) ⟨[], rfl, upd_same, same_new nD, fun _ => .nil⟩ (fun i H' _ ⟨_, _, _, q, _⟩ => ⟨SqL.of (q _ _ hp), trivial⟩) ?_ ?_
      · rintro i x Ha Hb hi ⟨vs, lv, hb, sm, dd⟩ ⟨T1, y1, y2, rfl, nT, rfl, e1, e2⟩
        obtain ⟨c, hc, e2⟩ := Option.map_eq_some_iff.mp e2
        obtain ⟨z, hz, e1⟩ := at_map e1
        subst e1
        subst e2
        have lz := wp z (List.mem_cons_of_mem _ (List.mem_of_getElem? hz))
        have sT := same_new (o := .tup [.str z, .str ⟨#[c]⟩]) nT
        have hq : (zs.zip (tl f))[i]? = some (z, c) := by
          rw [List.getElem?_zip_eq_some]
          exact ⟨hz, by rw [Array.getElem?_toList]; exact hc⟩
        refine ⟨T1, _, rfl, SqT.of upd_same, rfl, _, _, rfl, _, _, rfl, rfl, ?_⟩
        dsimp only [tYes]
        rw [if_pos rfl]
        have fin : ∀ (v : V) (Hc : Hp), Same (upd Ha T1 (.tup [.str z, .str ⟨#[c]⟩])) Hc → (∀ H3, Dd K H3 v (partD c z)) → ∃ acc, Hc D = some (.lst acc) ∧ acc.length < sizeLine ∧ ∃ vs : List V, vs.length = i + 1 ∧ upd Hc D (.lst (acc ++ [v])) D = some (.lst vs) ∧ Same H2 (upd Hc D (.lst (acc ++ [v]))) ∧
            ∀ H3, DdAll K H3 vs (((zs.zip (tl f)).take (i + 1)).map fun q => partD q.2 q.1) := fun v Hc s' hv => by
          refine ⟨_, s' _ _ (sT _ _ hb), by rw [sizeLine_eq]; omega, vs ++ [v], by simp [lv], upd_same, Same.upd_at ((sm.trans sT).trans s') nD, fun H3 => ?_⟩
          rw [List.take_add_one, hq, List.map_append]
          exact dd_snoc (dd H3) (hv H3)
        refine ⟨rfl, _, rfl, rfl, _, rfl, ifE (fun c2 => ?_) fun c2 => ?_⟩
        · have e := of_decide_eq_true c2
          injection e with e
          have e2 : tl (⟨#[c]⟩ : Str) = tl (Str.ofString "r") := congrArg tl e
          rw [show tl (Str.ofString "r") = [114] by decide +kernel] at e2
          injection e2 with e2
          have e2 : c = 114 := e2
          refine ⟨_, rfl, fin _ _ (Same.refl _) fun H3 => ?_⟩
          unfold partD
          rw [if_pos e2]
          exact .str z
        · have n2 : c ≠ 114 := fun e => of_decide_eq_false c2 (by rw [e]; decide +kernel)
          refine ⟨_, rfl, ?_⟩
          dsimp only [tNil, List.cons_append, List.nil_append]
          refine numA_both (w := z) (by omega) fun v Hc av s' => fin _ _ s' fun H3 => ?_
          unfold partD
          rw [if_neg n2]
          rcases av with ⟨o, rfl⟩ | ⟨o, rfl⟩
          · rw [if_pos o]
            exact .int _
          · rw [if_neg o]
            exact .non
      · rintro H3 ⟨vs, lv, hb, s3, dd⟩
        rw [List.take_of_length_le (by omega)] at dd
        have s03 := s02.trans s3
        refine ⟨_, rfl, _, rfl, D, vs, rfl, .inr (SqL.of hb), ?_⟩
        refine ⟨by rw [List.append_nil, List.length_cons, sizeLine_eq]; omega, fun t nt => ?_⟩
        rw [List.append_nil]
        have st := same_new (o := .tup (.str w0 :: vs)) nt
        have hd : Dd K (upd H3 t (.tup (.str w0 :: vs))) (.ref t) (madeD w0 zs f) := .tup (SqT.of upd_same) (.cons (.str _) (dd _))
        have s04 := s03.trans st
        generalize upd H3 t (.tup (.str w0 :: vs)) = H4 at st hd s04 ⊢
        refine ⟨_, rfl, .ref t, madeD w0 zs f, rfl, hd, ⟨fun z e => (by unfold madeD at e; cases e), fun ds e x hx z ez => ?_⟩, fun b hb H5 s5 => ⟨_, rfl, ifE (fun c => ?_) fun c => ?_⟩⟩
        · unfold madeD at e
          injection e with e
          rw [← e] at hx
          rcases List.mem_cons.mp hx with rfl | hx
          · injection ez with ez
            have := wp w0 (by simp)
            rw [← ez]
            omega
          · obtain ⟨q, hq, rfl⟩ := List.mem_map.mp hx
            have m := (List.of_mem_zip hq).1
            have := wp q.1 (List.mem_cons_of_mem _ m)
            unfold partD at ez
            split at ez
            · injection ez with ez
              rw [← ez]
              omega
            · split at ez <;> cases ez
        · exact ⟨_, rfl, kY _ (oY ⟨le, hb.mp c⟩) t H5 (s04.trans s5) (hd.same s5)⟩
        · exact kN (oN fun q => by rw [hb.mpr q.2] at c; cases c) H5 (s04.trans s5)
end
end Toy
set_option Elab.async false
set_option linter.all false
set_option maxRecDepth 100000
set_option maxHeartbeats 600000
namespace Toy
open PySem L2 Q RZ D7 TL StX
/-! ### the row that an event is shown as -/
theorem call_str_any {X : Cx} : CallR X (.type "str") (fun xs H Q => (∃ i, xs = [.int i] ∧ i.natAbs.log2 < 1920 ∧ Q (.str (toString i)) H) ∨ ∃ a, xs = [.str a] ∧ Q (.str a) H) := by
  intro pins s σ H xs us Q I r h
  rcases h with h | h
  · exact call_str_int pins s σ H xs us Q I r h
  · exact SkE.call_str_str pins s σ H xs us Q I r h
def partT : PyData → Str
  | .str z => z
  | .int i => Str.ofString (toString i)
  | _ => Str.empty
def rowT (ds : List PyData) : Str := Txt.join (tx " ") (ds.map partT)
/-- a part that can be shown -/
def PartOk (e : PyData) : Prop := (∃ z, e = .str z) ∨ ∃ i, e = .int i ∧ i.natAbs.log2 < 1920
def spRowOf (K : PySem.W.Frag) : Sp := fun vs H Q _ => ∃ (v : V) (ds : List PyData), vs = [v] ∧ Dd K H v (.tuple ds) ∧ (∀ e ∈ ds, PartOk e ∧ (partT e).length ≤ 9000) ∧ ds.length ≤ 100 ∧ ∀ H', Same H H' → Q (.str (rowT ds)) H'
section
variable {P : Program} {w : World} {K : PySem.W.Frag} {mg : Str → Option Value} {base : Heap} {ca ia fa : Nat → Addr} {fd fi : Nat → FuncData}
theorem ok_rowOf (T : Txt w K mg ca ia fa fd fi) : FnOk P w K mg base CX0 1 (fa 15) (fd 15) ["event"] (spRowOf K) := by
  refine T.F_row_of.ok sc_row_of (fun vs H Q E h => ?_) (fun cdv A outer s H vs Q E hr h => ?_)
  · obtain ⟨v, ds, rfl, _⟩ := h
    rfl
  · obtain ⟨v, ds, rfl, hd, ok, few, k⟩ := h
    refine ⟨_, (pss_one (ps_ret (pe_join pe_str (pe_lc (own := [("part", 1)]) (g := (gName 1)) (tt := tYes) rfl sc_row_of.nd (pi_tup (pv 0)) (blkOk_by (own := [("part", 1)]) (N := N_row_of) (sc := defScope s_row_of) (by decide +kernel)) (fun _ _ _ _ _ => (pg_name (i := 1) sc_row_of.nd rfl (Or.inl rfl))) (fun _ _ _ _ _ => pts_nil) (fun _ _ _ _ _ => by exact (pe_callTy call_str_any (by rfl) T.n_str (by decide +kernel) (pa_cons (pv 1) pa_nil))))))), ?_⟩
    cases hd with
    | tup hx ha =>
    rename_i a xs
    have lx := dd_len ha
    refine ⟨⟨_, rfl⟩, _, rfl, a, rfl, ⟨_, hx⟩, fun D nD => ?_⟩
    refine lc_it (walk_tup (xs := xs)) (fun i H' => H' D = some (.lst (((ds.take i).map partT).map V.str)) ∧ Same H H') ⟨upd_same, same_new nD⟩ (fun i H' _ q => SqT.same q.2 hx) ?_ ?_
    · rintro i x Ha Hb hi ⟨hb, sm⟩ ⟨rfl, hxi⟩
      obtain ⟨e, he, hxe⟩ := dd_at ha hxi
      obtain ⟨pk, pl⟩ := ok e (List.mem_of_getElem? he)
      have fin : ∃ acc, Hb D = some (.lst acc) ∧ acc.length < sizeLine ∧ upd Hb D (.lst (acc ++ [.str (partT e)])) D = some (.lst (((ds.take (i + 1)).map partT).map V.str)) ∧ Same H (upd Hb D (.lst (acc ++ [.str (partT e)]))) := by
        refine ⟨_, hb, by rw [List.length_map, List.length_map, List.length_take, sizeLine_eq]; omega, ?_, Same.upd_at sm nD⟩
        rw [upd_same, List.take_add_one, he, List.map_append, List.map_append]
        rfl
      refine ⟨rfl, ?_⟩
      dsimp only [tYes]
      rw [if_pos rfl]
      rcases pk with ⟨z, rfl⟩ | ⟨n, rfl, ln⟩
      · cases hxe
        exact ⟨_, rfl, .inr ⟨z, rfl, fin⟩⟩
      · cases hxe
        exact ⟨_, rfl, .inl ⟨n, rfl, ln, fin⟩⟩
    · rintro H1 ⟨hb, s1⟩
      rw [lx, List.take_length] at hb
      refine ⟨_, D, _, rfl, rfl, .inl (SqL.of hb), ?_, k _ s1⟩
      have all : ∀ l : List PyData, (∀ e ∈ l, (partT e).length ≤ 9000) → ((l.map partT).map (·.length)).sum ≤ l.length * 9000 := fun l hl => by
        induction l with
        | nil => exact Nat.le_refl _
        | cons e l ih =>
          have h1 := ih fun u hu => hl u (List.mem_cons_of_mem _ hu)
          have h2 := hl e List.mem_cons_self
          rw [List.map_cons, List.map_cons, List.sum_cons, List.length_cons]
          omega
      have := all ds fun e he => (ok e he).2
      have e1 : (Str.ofString " ").length = 1 := by decide +kernel
      rw [e1, List.length_map]
      have := Nat.mul_le_mul_right 9000 few
      omega
end
end Toy
set_option Elab.async false
set_option linter.all false
set_option maxRecDepth 100000
set_option maxHeartbeats 600000
namespace Toy
open PySem L2 Q RZ D7 TL StX
/-! ### rows_of, events_of, read_run of any data -/
theorem oexc {C : Addr} {f : Str} {v : V} {H : Hp} {Q : XK} (q : ∀ d H', Same H H' → H' d = some (.xd [(f, v)]) → Q (.ref C) (some d) H') :
    ([v] : List V).length ≤ 1000 ∧ ∀ a, H a = none → spI1 C f (.ref a :: ([v] ++ [])) (upd H a (exo a C none))
      (fun u H2 => u = .non ∧ ∃ (d : Addr) (fs : List (Str × V)), H2 a = some (exo a C (some d)) ∧ H2 d = some (exd d fs) ∧ H d = none ∧ Q (.ref C) (some d) (upd (del H2 a) d (.xd fs))) (fun _ _ _ => False) := by
  refine ⟨(by show 1 ≤ 1000; decide), fun a na => ⟨a, v, rfl, upd_same, fun d H2 b nd ea ed => ?_⟩⟩
  have nd0 : H d = none := by
    cases z : H d with
    | none => rfl
    | some o =>
      rw [same_new na _ _ z] at nd
      cases nd
  refine ⟨rfl, d, _, ea, ed, nd0, q d _ (fun c o e => ?_) upd_same⟩
  rw [upd_ne (ne_of_none e nd0), del_ne (ne_of_none e na)]
  exact b c o (ne_of_none e na) (same_new na _ _ e)
def spRowsOfA (K : PySem.W.Frag) (B : Addr) : Sp := fun vs H Q E => ∃ (v : V) (d : PyData), vs = [v] ∧ Dd K H v d ∧ (∀ t, d = .str t → t.length ≤ 9000 ∧ ∀ R H', Same H H' → H' R = some (.lst ((rowsOf t).map V.str)) → Q (.ref R) H') ∧ (strB d = false → ∀ x H', Same H H' → H' x = some (.xd [("value", .non)]) → E (.ref B) (some x) H')
section
variable {P : Program} {w : World} {K : PySem.W.Frag} {mg : Str → Option Value} {base : Heap} {ca ia fa : Nat → Addr} {fd fi : Nat → FuncData}
theorem ok_rowsOfA (T : Txt w K mg ca ia fa fd fi) : FnOk P w K mg base (L2.CX P w) 3 (fa 21) (fd 21) ["text"] (spRowsOfA K (ca 2)) := by
  refine T.F_rows_of.okX sc_rows_of (fun vs H Q E h => ?_) (fun cdv A outer s H vs Q E hr h => ?_)
  · obtain ⟨v, d, rfl, _⟩ := h
    rfl
  · obtain ⟨v, d, rfl, hd, kY, kN⟩ := h
    refine ⟨_, (pss_cons (ps_if (pt_not (pt_val (pe_callB call_isi (by rfl) T.n_isinstance (by decide +kernel) (pa_cons (pv 0) (pa_cons (pe_bltn (v := .ty "str") (by rfl) T.n_str (by decide +kernel) rfl) pa_nil))))) (pss_one (ps_raise rfl (takes_of rfl rfl rfl rfl) (pmk_oex T.c_BadText.oex T.iC_BadText T.tI_BadText (in_BadText T) (hr.mono (by decide)) T.bi_BadText .nil pass0 rfl T.c_BadText.g (pa_cons pe_non pa_nil)))) pss_nil)
      (pss_one (ps_ret (pe_split (pv 0) pe_str)))), ?_⟩
    obtain ⟨t, ty, _, _, es, _⟩ := hd.kits
    refine ⟨_, rfl, v, .ty "str", _, _, strB d, rfl, .ty _, ty, es, _, rfl, ifE (fun c => ?_) fun c => ?_⟩
    · exact oexc fun x H' s e => kN (by simpa using c) x H' s e
    obtain ⟨z, rfl, rfl⟩ := strB_of hd (by simpa using c)
    obtain ⟨lz, kY⟩ := kY z rfl
    refine nxt ?_
    obtain ⟨wl, wn, wp⟩ := rows_le z
    refine ⟨_, rfl, ⟨_, rfl⟩, _, _, rfl, rfl, by decide +kernel, by rw [sizeLine_eq]; omega, fun R nR => ?_⟩
    exact kY R _ (same_new nR) upd_same
end
end Toy
set_option Elab.async false
set_option linter.all false
set_option maxRecDepth 100000
set_option maxHeartbeats 600000
namespace Toy
open PySem L2 Q RZ D7 TL StX
/-! ### the events of rows -/
section
variable {α β : Type} (f : α → Option β)
/-- what the first ones give, up to the first that gives nothing -/
def pfx : List α → List β
  | [] => []
  | r :: rs => match f r with
    | some k => k :: pfx rs
    | none => []
theorem pfx_le : ∀ rs : List α, (pfx f rs).length ≤ rs.length
  | [] => Nat.le_refl _
  | r :: rs => by
    unfold pfx
    split
    · have := pfx_le rs
      rw [List.length_cons, List.length_cons]
      omega
    · exact Nat.zero_le _
theorem pfx_at : ∀ {rs : List α} {i : Nat} {r : α} {k : β}, rs[i]? = some r → i < (pfx f rs).length → f r = some k → (pfx f rs)[i]? = some k
  | r0 :: rs, 0, r, k, h, _, e => by
    have h : r0 = r := by simpa using h
    unfold pfx
    rw [h, e]
    rfl
  | r0 :: rs, i + 1, r, k, h, l, e => by
    unfold pfx at l ⊢
    split at l
    · exact pfx_at (rs := rs) (i := i) (by simpa using h) (by simpa using l) e
    · simp at l
theorem pfx_go : ∀ {rs : List α} {i : Nat} {r : α}, rs[i]? = some r → i ≤ (pfx f rs).length → (f r = none → (pfx f rs).length = i) ∧ (∀ k, f r = some k → i < (pfx f rs).length)
  | r0 :: rs, 0, r, h, _ => by
    have h : r0 = r := by simpa using h
    subst h
    constructor
    · intro e
      unfold pfx
      rw [e]
      rfl
    · intro k e
      unfold pfx
      rw [e]
      exact Nat.succ_pos _
  | r0 :: rs, i + 1, r, h, l => by
    unfold pfx at l ⊢
    split at l
    · obtain ⟨h1, h2⟩ := pfx_go (rs := rs) (i := i) (r := r) (by simpa using h) (by simpa using l)
      rw [List.length_cons]
      exact ⟨fun e => by rw [h1 e], fun k e => Nat.succ_lt_succ (h2 k e)⟩
    · simp at l
end
/-- flat items need no heap -/
def FlatD : PyData → Prop
  | .none | .int _ | .str _ => True
  | _ => False
theorem flat_any {K : PySem.W.Frag} {H G : Hp} : ∀ {xs : List V} {ds : List PyData}, (∀ e ∈ ds, FlatD e) → DdAll K H xs ds → DdAll K G xs ds
  | _, _, _, .nil => .nil
  | _, _, fl, .cons h t => by
    refine .cons ?_ (flat_any (fun e m => fl e (List.mem_cons_of_mem _ m)) t)
    have f := fl _ List.mem_cons_self
    cases h <;> first | exact .non | exact .int _ | exact .str _ | exact f.elim
theorem sqT_put {K : PySem.W.Frag} {H : Hp} {a D : Addr} {xs ys ys' : List V} (h : SqT K H a xs) (hD : H D = some (.lst ys)) : SqT K (upd H D (.lst ys')) a xs := by
  rcases h with (h | ⟨o, h⟩) | h
  · refine .inl (.inl ?_)
    rw [upd_ne (fun z => by rw [z, hD] at h; cases h)]
    exact h
  · refine .inl (.inr ⟨o, ?_⟩)
    rw [upd_ne (fun z => by rw [z, hD] at h; cases h)]
    exact h
  · exact .inr h
def RowD (d : PyData) : Prop := ∃ ds, d = .tuple ds ∧ ∀ e ∈ ds, FlatD e
theorem row_put {K : PySem.W.Frag} {H : Hp} {v : V} {d : PyData} {D : Addr} {ys ys' : List V} (fl : RowD d) (h : Dd K H v d) (hD : H D = some (.lst ys)) : Dd K (upd H D (.lst ys')) v d := by
  obtain ⟨ds, rfl, fl⟩ := fl
  cases h with
  | tup hx ha => exact .tup (sqT_put hx hD) (flat_any fl ha)
theorem rows_put {K : PySem.W.Frag} {H : Hp} {D : Addr} {ys ys' : List V} (hD : H D = some (.lst ys)) : ∀ {vs : List V} {ds : List PyData}, (∀ d ∈ ds, RowD d) → DdAll K H vs ds → DdAll K (upd H D (.lst ys')) vs ds
  | _, _, _, .nil => .nil
  | _, _, fl, .cons h t => .cons (row_put (fl _ List.mem_cons_self) h hD) (rows_put hD (fun d m => fl d (List.mem_cons_of_mem _ m)) t)
theorem evD_row {r : Str} {d : PyData} (h : evD r = some d) : RowD d ∧ EventD d := by
  unfold evD at h
  split at h
  · cases h
  · split at h
    · cases h
    · rename_i w rest f _ _
      split at h
      · rename_i c
        injection h with h
        rw [← h]
        refine ⟨⟨_, rfl, fun e m => ?_⟩, c.2⟩
        rcases List.mem_cons.mp m with rfl | m
        · exact trivial
        · obtain ⟨q, _, rfl⟩ := List.mem_map.mp m
          unfold partD
          split
          · exact trivial
          · split <;> exact trivial
      · cases h
theorem pfx_all {α β : Type} {f : α → Option β} : ∀ {rs : List α}, ∀ k ∈ pfx f rs, ∃ r, f r = some k
  | [], k, h => (nomatch h)
  | r :: rs, k, h => by
    unfold pfx at h
    split at h
    · rename_i k0 e0
      rcases List.mem_cons.mp h with rfl | h
      · exact ⟨r, e0⟩
      · exact pfx_all k h
    · cases h
end Toy
set_option Elab.async false
set_option linter.all false
set_option maxRecDepth 100000
set_option maxHeartbeats 600000
namespace Toy
open PySem L2 Q RZ D7 TL StX
/-! ### events_of, read_run -/
def spEventsOf (K : PySem.W.Frag) (B : Addr) : Sp := fun vs H Q E => ∃ (R : Addr) (rs : List Str), vs = [.ref R, .int 0] ∧ H R = some (.lst (rs.map V.str)) ∧ rs.length ≤ 9001 ∧ (∀ r ∈ rs, r.length ≤ 9000) ∧
  ((pfx evD rs).length ≠ rs.length → ∀ x H', Same H H' → H' x = some (.xd [("value", .int ((pfx evD rs).length : Nat))]) → E (.ref B) (some x) H') ∧
  ((pfx evD rs).length = rs.length → ∀ t H', Same H H' → Dd K H' (.ref t) (.tuple (pfx evD rs)) → Q (.ref t) H')
section
variable {P : Program} {w : World} {K : PySem.W.Frag} {mg : Str → Option Value} {base : Heap} {ca ia fa : Nat → Addr} {fd fi : Nat → FuncData}
theorem ok_eventsOf (T : Txt w K mg ca ia fa fd fi) : FnOk P w K mg base (L2.CX P w) 6 (fa 22) (fd 22) ["rows", "first"] (spEventsOf K (ca 2)) := by
  have G_event_of := ok_eventOf (P := P) (w := w) (base := base) T
  refine T.F_events_of.okX sc_events_of (fun vs H Q E h => ?_) (fun cdv A outer s H vs Q E hr h => ?_)
  · obtain ⟨R, rs, rfl, _⟩ := h
    rfl
  · obtain ⟨R, rs, rfl, hR, few, lrs, kN, kY⟩ := h
    refine ⟨_, (pss_cons (ps_set (i := 2) sc_events_of.nd rfl (Or.inl rfl) (pe_lst pa_nil))
      (pss_cons (ps_for (passes_of rfl) rfl (pi_enumS (by rfl) T.n_enumerate (pa_cons (pv 0) pa_nil) (pk_cons (pv 1) pk_nil)) (pg_tup rfl (pgs_cons (pg_name (i := 3) sc_events_of.nd rfl (Or.inl rfl)) (pgs_cons (pg_name (i := 4) sc_events_of.nd rfl (Or.inl rfl)) pgs_nil))) (pss_cons (ps_set (i := 5) sc_events_of.nd rfl (Or.inl rfl) (pe_call G_event_of (hr.mono (by decide)) rfl T.g_event_of T.k_event_of T.b_event_of .nil pass0 (pa_cons (pv 4) pa_nil)))
      (pss_cons (ps_if (pt_cmpR op_isN (pv 5) pe_non (nomark _)) (pss_one (ps_raise rfl (takes_of rfl rfl rfl rfl) (pmk_oex T.c_BadText.oex T.iC_BadText T.tI_BadText (in_BadText T) (hr.mono (by decide)) T.bi_BadText .nil pass0 rfl T.c_BadText.g (pa_cons (pv 3) pa_nil)))) pss_nil)
      (pss_one (ps_expr (pe_bm PySem.F.plainAttrs_list PySem.F.slot_list_append PySem.F.type_list_append mt_append (pv 2) (pa_cons (pv 5) pa_nil)))))))
      (pss_one (ps_ret (pe_callTy call_tuple_of (by rfl) T.n_tuple (by decide +kernel) (pa_cons (pv 2) pa_nil)))))), ?_⟩
    refine ⟨by show 0 ≤ sizeLine; decide, fun F nF => ?_⟩
    have sF := same_new (o := .lst []) nF
    have hF : upd H F (.lst []) F = some (.lst []) := upd_same
    have RF : R ≠ F := fun z => by rw [z, nF] at hR; cases hR
    have hR1 := sF _ _ hR
    generalize upd H F (.lst []) = H1 at sF hF hR1 ⊢
    refine ⟨_, rfl, _, rfl, R, _, 0, rfl, rfl, by decide, SqL.of hR1, ?_⟩
    have back : ∀ {G : Hp}, But F H1 G → Same H G := fun {G} b c o e => b _ _ (fun z => by rw [z, nF] at e; cases e) (sF _ _ e)
    have allRow : ∀ d ∈ pfx evD rs, RowD d := fun d hd => let ⟨_, e⟩ := pfx_all d hd; (evD_row e).1
    refine for_it (walk_enumS (xs := rs.map V.str)) (fun i σ H' => ∃ (vs : List V) (x3 x4 x5 : Option L2.V), σ = [some (.ref R), some (.int 0), some (.ref F), x3, x4, x5] ∧ H' F = some (.lst vs) ∧ vs.length = i ∧ DdAll K H' vs ((pfx evD rs).take i) ∧ i ≤ (pfx evD rs).length ∧ But F H1 H')
      ⟨[], _, _, _, rfl, hF, rfl, .nil, Nat.zero_le _, But.refl _ _⟩ (fun i σ H' _ ⟨_, _, _, _, _, _, _, _, _, b⟩ => SqL.of (b _ _ RF hR1)) ?_ ?_
    · rintro i x σ H4 H5 hi ⟨vs, x3, x4, x5, rfl, la, ll, dd, il, bu⟩ ⟨T1, y1, y2, rfl, nT, rfl, e1, e2⟩
      injection e1 with e1
      obtain ⟨z, hz, rfl⟩ := at_map e2
      have sT := same_new (o := .tup [y1, .str z]) nT
      refine ⟨T1, _, rfl, SqT.of upd_same, rfl, _, _, rfl, _, _, rfl, rfl, ?_⟩
      have li := (List.getElem?_eq_some_iff.mp hz).1
      obtain ⟨goN, goY⟩ := pfx_go evD hz il
      refine ⟨_, rfl, z, rfl, lrs z (List.mem_of_getElem? hz), fun d ed t H6 s6 ht => ?_, fun en H6 s6 => ?_⟩
      rotate_left
      · refine ⟨_, rfl, rfl, _, rfl, iteB rfl ⟨_, rfl, oexc fun x H' s e => ?_⟩⟩
        have g := goN en
        refine kN (by omega) x H' (((back bu).trans (sT.trans s6)).trans s) ?_
        rw [e, ← e1, g, Nat.zero_add]
      have s46 := sT.trans s6
      refine ⟨_, rfl, rfl, _, rfl, iteB2 rfl ?_⟩
      refine nxt ?_
      have hF6 := s46 _ _ la
      refine ⟨_, rfl, .inl ⟨rfl, _, SqL.of hF6⟩, _, rfl, F, _, _, rfl, rfl, hF6, by rw [sizeLine_eq]; omega, nxt ?_⟩
      refine ⟨vs ++ [.ref t], _, _, _, rfl, upd_same, by simp [ll], ?_, goY d ed, fun c o n e => by rw [upd_ne n]; exact s46 _ _ (bu c o n e)⟩
      rw [List.take_add_one, pfx_at evD hz (goY d ed) ed]
      exact dd_snoc (rows_put hF6 (fun d m => allRow d (List.mem_of_mem_take m)) (DdAll.same s46 dd)) (row_put (evD_row ed).1 ht hF6)
    · rintro σ H4 ⟨vs, x3, x4, x5, rfl, la, ll, dd, il, bu⟩
      rw [List.length_map] at dd il
      have le := pfx_le evD rs
      have ee : (pfx evD rs).length = rs.length := by omega
      rw [← ee, List.take_length] at dd
      refine ⟨_, rfl, F, _, rfl, .inl ⟨SqL.of la, fun t nt => ?_⟩⟩
      have st := same_new (o := .tup vs) nt
      exact kY ee t _ ((back bu).trans st) (.tup (SqT.of upd_same) (DdAll.same st dd))
end
end Toy
set_option Elab.async false
set_option linter.all false
set_option maxRecDepth 100000
set_option maxHeartbeats 600000
namespace Toy
open PySem L2 Q RZ D7 TL StX
/-! ### read_run of any data -/
/-- the rows of a run's text -/
def runR (t : Str) : List Str := if t = tx "" then [] else rowsOf t
def spReadRun (K : PySem.W.Frag) (B : Addr) : Sp := fun vs H Q E => ∃ (v : V) (d : PyData), vs = [v] ∧ Dd K H v d ∧ (∀ t, d = .str t → t.length ≤ 9000) ∧
  (strB d = false → ∀ x H', Same H H' → H' x = some (.xd [("value", .non)]) → E (.ref B) (some x) H') ∧
  (∀ t, d = .str t → ((pfx evD (runR t)).length ≠ (runR t).length → ∀ x H', Same H H' → H' x = some (.xd [("value", .int ((pfx evD (runR t)).length : Nat))]) → E (.ref B) (some x) H') ∧
    ((pfx evD (runR t)).length = (runR t).length → ∀ a H', Same H H' → Dd K H' (.ref a) (.tuple (pfx evD (runR t))) → Q (.ref a) H'))
section
variable {P : Program} {w : World} {K : PySem.W.Frag} {mg : Str → Option Value} {base : Heap} {ca ia fa : Nat → Addr} {fd fi : Nat → FuncData}
theorem ok_readRun (T : Txt w K mg ca ia fa fd fi) : FnOk P w K mg base (L2.CX P w) 7 (fa 20) (fd 20) ["text"] (spReadRun K (ca 2)) := by
  have G_rows_of := ok_rowsOfA (P := P) (w := w) (base := base) T
  have G_events_of := ok_eventsOf (P := P) (w := w) (base := base) T
  refine T.F_read_run.okX sc_read_run (fun vs H Q E h => ?_) (fun cdv A outer s H vs Q E hr h => ?_)
  · obtain ⟨v, d, rfl, _⟩ := h
    rfl
  · obtain ⟨v, d, rfl, hd, len, kN, kO⟩ := h
    refine ⟨_, (pss_cons (ps_set (i := 1) sc_read_run.nd rfl (Or.inl rfl) (pe_call G_rows_of (hr.mono (by decide)) rfl T.g_rows_of T.k_rows_of T.b_rows_of .nil (passes_call (takes_of rfl rfl rfl rfl) fun _ _ _ _ h => h) (pa_cons (pv 0) pa_nil)))
      (pss_one (ps_ret (pe_ifExp (pt_cmpR op_eq (pv 0) pe_str (nomark _)) (pe_tup pa_nil) (pe_call G_events_of (hr.mono (by decide)) rfl T.g_events_of T.k_events_of T.b_events_of .nil (passes_call (takes_of rfl rfl rfl rfl) fun _ _ _ _ h => h) (pa_cons (pv 1) (pa_cons pe_int pa_nil))))))), ?_⟩
    refine ⟨_, rfl, v, d, rfl, hd, fun t e => ⟨len t e, fun R H1 s1 hR => ?_⟩, fun e x H1 s1 hx => kN e x H1 s1 hx⟩
    subst e
    obtain ⟨kB, kY⟩ := kO t rfl
    have ev : v = .str t := by cases hd; rfl
    subst ev
    refine ⟨_, rfl, rfl, _, rfl, ifE (fun c => ?_) fun c => ?_⟩
    · have e := of_decide_eq_true c
      injection e with e
      have er : runR t = [] := by unfold runR; rw [if_pos e]
      rw [er] at kY
      refine ⟨by show 0 ≤ sizeLine; decide, fun a na => kY rfl a _ (s1.trans (same_new na)) ?_⟩
      exact .tup (SqT.of upd_same) .nil
    · have ne : t ≠ tx "" := fun e => of_decide_eq_false c (by rw [e])
      have er : runR t = rowsOf t := by unfold runR; rw [if_neg ne]
      rw [er] at kY kB
      obtain ⟨wl, wn, wp⟩ := rows_le t
      have lt := len t rfl
      exact ⟨_, rfl, R, rowsOf t, rfl, hR, by omega, fun r hr => by have := wp r hr; omega, fun n x H2 s2 hx => kB n x H2 (s1.trans s2) hx, fun n a H2 s2 hd => kY n a H2 (s1.trans s2) hd⟩
end
end Toy
set_option Elab.async false
set_option linter.all false
set_option maxRecDepth 100000
set_option maxHeartbeats 600000
namespace Toy
open PySem L2 Q RZ D7 TL StX
/-! ### show_run of any data -/
theorem walk_enumT {K : PySem.W.Frag} {a : Addr} {xs : List V} : Walk (ItT K a xs) xs.length (fun H => SqT K H a xs) (YPair (fun i => some (.int (i : Nat))) (fun i => xs[i]?)) := by
  refine ⟨fun i _ hi q => ⟨q, hi⟩, fun _ q => ⟨q, by omega⟩, fun i H v H' _ q y => ?_⟩
  obtain ⟨T, x, h1, h2, h3, h4⟩ := y
  exact ⟨T, _, x, h1, h2, h3, rfl, h4⟩
/-- the row of an event -/
def rowD : PyData → Str
  | .tuple es => rowT es
  | _ => Str.empty
def runT (ds : List PyData) : Str := Txt.join (tx "\n") (ds.map rowD)
open Classical in
/-- where the first one stands that is no event, or how many there are -/
noncomputable def goodE (ds : List PyData) : Nat := (pfx (fun d => if EventD d then some d else none) ds).length
/-- numbers of eighteen figures at the most, short texts -/
def SmallE (d : PyData) : Prop := Txs d ∧ ∀ es, d = .tuple es → ∀ x ∈ es, ∀ i, x = .int i → i.natAbs < 10 ^ 18
theorem event_parts {d : PyData} (h : EventD d) (s : SmallE d) : ∃ es, d = .tuple es ∧ es.length ≤ 5 ∧ ∀ e ∈ es, PartOk e ∧ (partT e).length ≤ 30 := by
  obtain ⟨w, f, ds, rfl, ef, le, kinds, _⟩ := h
  obtain ⟨_, f4⟩ := forms_le _ (look_mem ef)
  have f4 : f.length ≤ 4 := f4
  have w8 : ∀ q ∈ formsL, q.1.length ≤ 8 := by decide +kernel
  refine ⟨_, rfl, by rw [List.length_cons]; omega, fun e m => ?_⟩
  rcases List.mem_cons.mp m with rfl | m
  · exact ⟨.inl ⟨w, rfl⟩, Nat.le_trans (w8 _ (look_mem ef)) (by decide)⟩
  · obtain ⟨i, hi⟩ := List.getElem?_of_mem m
    have li := (List.getElem?_eq_some_iff.mp hi).1
    have k := kinds i e (f.cps[i]'(by show i < f.length; omega)) hi (Array.getElem?_eq_getElem _)
    unfold KindD at k
    split at k
    · obtain ⟨z, rfl, nz⟩ := k
      refine ⟨.inl ⟨z, rfl⟩, ?_⟩
      show z.length ≤ 30
      have := nz.2.1
      omega
    · cases e with
      | int n =>
        have b := s.2 _ rfl _ (List.mem_cons_of_mem _ m) n rfl
        refine ⟨.inr ⟨n, rfl, ?_⟩, ?_⟩
        · by_cases z : n.natAbs = 0
          · rw [z]
            decide
          · exact (Nat.log2_lt z).mpr (Nat.lt_trans b (by decide +kernel))
        · have n0 : 0 ≤ n := by
            have k : decide (_ ≤ n) = true := k
            have k := of_decide_eq_true k
            split at k <;> omega
          obtain ⟨mm, rfl⟩ := Int.eq_ofNat_of_zero_le n0
          have b2 : mm < 10 ^ 18 := by rw [Int.natAbs_natCast] at b; exact b
          show (Str.ofString (toString (mm : Int))).length ≤ 30
          have e : (toString (mm : Int) : String) = mm.repr := rfl
          rw [e, PySem.ofString_length]
          exact Nat.le_trans ((Nat.length_repr_le_iff (k := 18) (by decide)).mpr b2) (by decide)
      | _ => cases k
open Classical in
noncomputable def evF (d : PyData) : Option PyData := if EventD d then some d else none
theorem evF_yes {d : PyData} (h : EventD d) : evF d = some d := if_pos h
theorem evF_no {d : PyData} (h : ¬ EventD d) : evF d = none := if_neg h
theorem evF_ev {d e : PyData} (h : evF d = some e) : EventD d := by
  unfold evF at h
  split at h
  · assumption
  · cases h
theorem pfx_full {ds : List PyData} : (pfx evF ds).length = ds.length → ∀ d ∈ ds, EventD d := by
  induction ds with
  | nil => exact fun _ d h => (nomatch h)
  | cons x ds ih =>
    intro h d m
    unfold pfx at h
    split at h
    · rename_i k e
      rcases List.mem_cons.mp m with rfl | m
      · exact evF_ev e
      · exact ih (by simpa using h) d m
    · simp at h
def spShowRun (K : PySem.W.Frag) (B : Addr) : Sp := fun vs H Q E => ∃ (v : V) (d : PyData), vs = [v] ∧ Dd K H v d ∧
  (tupB d = false → ∀ x H', Same H H' → H' x = some (.xd [("value", .int (-1))]) → E (.ref B) (some x) H') ∧
  (∀ ds, d = .tuple ds → (∀ e ∈ ds, SmallE e) ∧ ds.length ≤ 100 ∧ ((pfx evF ds).length ≠ ds.length → ∀ x H', Same H H' → H' x = some (.xd [("value", .int ((pfx evF ds).length : Nat))]) → E (.ref B) (some x) H') ∧
    ((pfx evF ds).length = ds.length → ∀ H', Same H H' → Q (.str (runT ds)) H'))
section
variable {P : Program} {w : World} {K : PySem.W.Frag} {mg : Str → Option Value} {base : Heap} {ca ia fa : Nat → Addr} {fd fi : Nat → FuncData}
theorem ok_showRun (T : Txt w K mg ca ia fa fd fi) : FnOk P w K mg base (L2.CX P w) 5 (fa 19) (fd 19) ["run"] (spShowRun K (ca 3)) := by
  have G_is_event := ok_eventA (P := P) (w := w) (base := base) T
  have G_row_of := ok_rowOf (P := P) (w := w) (base := base) T
  refine T.F_show_run.okX sc_show_run (fun vs H Q E h => ?_) (fun cdv A outer s H vs Q E hr h => ?_)
  · obtain ⟨v, d, rfl, _⟩ := h
    rfl
  · obtain ⟨v, d, rfl, hd, kN, kT⟩ := h
    refine ⟨_, (pss_cons (ps_if (pt_not (pt_val (pe_callB call_isi (by rfl) T.n_isinstance (by decide +kernel) (pa_cons (pv 0) (pa_cons (pe_bltn (v := .ty "tuple") (by rfl) T.n_tuple (by decide +kernel) rfl) pa_nil))))) (pss_one (ps_raise rfl (takes_of rfl rfl rfl rfl) (pmk_oex T.c_BadRun.oex T.iC_BadRun T.tI_BadRun (in_BadRun T) (hr.mono (by decide)) T.bi_BadRun .nil pass0 rfl T.c_BadRun.g (pa_cons (pe_un un_neg pe_int) pa_nil)))) pss_nil)
      (pss_cons (ps_for (passes_of rfl) rfl (pi_enumT (by rfl) T.n_enumerate (pa_cons (pv 0) pa_nil)) (pg_tup rfl (pgs_cons (pg_name (i := 1) sc_show_run.nd rfl (Or.inl rfl)) (pgs_cons (pg_name (i := 2) sc_show_run.nd rfl (Or.inl rfl)) pgs_nil))) (pss_one (ps_if (pt_not (pt_val (pe_call G_is_event (hr.mono (by decide)) rfl T.g_is_event T.k_is_event T.b_is_event .nil pass0 (pa_cons (pv 2) pa_nil)))) (pss_one (ps_raise rfl (takes_of rfl rfl rfl rfl) (pmk_oex T.c_BadRun.oex T.iC_BadRun T.tI_BadRun (in_BadRun T) (hr.mono (by decide)) T.bi_BadRun .nil pass0 rfl T.c_BadRun.g (pa_cons (pv 1) pa_nil)))) pss_nil)))
      (pss_one (ps_ret (pe_join pe_str (pe_lc (own := [("event", 2)]) (g := (gName 2)) (tt := tYes) rfl sc_show_run.nd (pi_tup (pv 0)) (blkOk_by (own := [("event", 2)]) (N := N_show_run) (sc := defScope s_show_run) (by decide +kernel)) (fun _ _ _ _ _ => (pg_name (i := 2) sc_show_run.nd rfl (Or.inl rfl))) (fun _ _ _ _ _ => pts_nil) (fun _ _ _ _ _ => by exact (pe_call G_row_of (hr.mono (by decide)) rfl T.g_row_of T.k_row_of T.b_row_of .nil pass0 (pa_cons (pv 2) pa_nil))))))))), ?_⟩
    obtain ⟨t, ty, _, _, _, e4⟩ := hd.kits
    refine ⟨_, rfl, _, _, _, _, _, rfl, .ty _, ty, e4, _, rfl, ifE (fun c => ?_) fun c => ?_⟩
    · exact ⟨_, rfl, oexc fun x H' s' e => kN (by simpa using c) x H' s' e⟩
    obtain ⟨a, xs, ds, rfl, rfl, hx, ha⟩ := tupB_of hd (by simpa using c)
    have lx := dd_len ha
    obtain ⟨sm, few, kB, kY⟩ := kT ds rfl
    refine nxt ?_
    refine ⟨_, rfl, a, xs, rfl, hx, ?_⟩
    refine for_it (walk_enumT (xs := xs)) (fun i σ H' => ∃ (x1 x2 : Option L2.V), σ = [some (.ref a), x1, x2] ∧ i ≤ (pfx evF ds).length ∧ Same H H')
      ⟨_, _, rfl, Nat.zero_le _, Same.refl _⟩ (fun i σ H' _ ⟨_, _, _, _, b⟩ => SqT.same b hx) ?_ ?_
    · rintro i x σ H4 H5 hi ⟨x1, x2, rfl, il, sm4⟩ ⟨T1, y1, y2, rfl, nT, rfl, e1, e2⟩
      injection e1 with e1
      obtain ⟨e, he, hye⟩ := dd_at ha e2
      have sT := same_new (o := .tup [y1, y2]) nT
      have li := (List.getElem?_eq_some_iff.mp he).1
      refine ⟨T1, _, rfl, SqT.of upd_same, rfl, _, _, rfl, _, _, rfl, rfl, ?_⟩
      obtain ⟨goN, goY⟩ := pfx_go evF he il
      refine ⟨_, rfl, y2, e, rfl, hye.same (sm4.trans sT), (sm e (List.mem_of_getElem? he)).1, fun b hb H6 s6 => ⟨_, rfl, ifE (fun c => ?_) fun c => ?_⟩⟩
      · have ne : ¬ EventD e := fun q => by rw [hb.mpr q] at c; cases c
        have g := goN (evF_no ne)
        refine ⟨_, rfl, oexc fun x H' s' ex => kB (by omega) x H' (((sm4.trans sT).trans s6).trans s') ?_⟩
        rw [ex, ← e1, g]
      · have ev := hb.mp (by simpa using c)
        exact nxt ⟨_, _, rfl, goY e (evF_yes ev), (sm4.trans sT).trans s6⟩
    · rintro σ H4 ⟨x1, x2, rfl, il, sm4⟩
      rw [lx] at il
      have le := pfx_le evF ds
      have ee : (pfx evF ds).length = ds.length := by omega
      have all := pfx_full ee
      have hx4 := SqT.same sm4 hx
      have ha4 : DdAll K H4 xs ds := DdAll.same sm4 ha
      refine ⟨⟨_, rfl⟩, _, rfl, a, rfl, ⟨_, hx4⟩, fun D nD => ?_⟩
      refine lc_it (walk_tup (xs := xs)) (fun i H' => H' D = some (.lst (((ds.take i).map rowD).map V.str)) ∧ Same H4 H') ⟨upd_same, same_new nD⟩ (fun i H' _ q => SqT.same q.2 hx4) ?_ ?_
      · rintro i x Ha Hb hi ⟨hb, s5⟩ ⟨rfl, hxi⟩
        obtain ⟨e, he, hxe⟩ := dd_at ha4 hxi
        have m := List.mem_of_getElem? he
        obtain ⟨es, rfl, e5, parts⟩ := event_parts (all e m) (sm e m)
        refine ⟨rfl, ?_⟩
        dsimp only [tYes]
        rw [if_pos rfl]
        refine ⟨_, rfl, x, es, rfl, hxe.same s5, fun u hu => ⟨(parts u hu).1, by have := (parts u hu).2; omega⟩, by omega, fun H6 s6 => ?_⟩
        refine ⟨_, s6 _ _ hb, by rw [List.length_map, List.length_map, List.length_take, sizeLine_eq]; omega, ?_, Same.upd_at (s5.trans s6) nD⟩
        rw [upd_same, List.take_add_one, he, List.map_append, List.map_append]
        rfl
      · rintro H5 ⟨hb, s5⟩
        rw [lx, List.take_length] at hb
        refine ⟨_, D, _, rfl, rfl, .inl (SqL.of hb), ?_, kY ee _ (sm4.trans s5)⟩
        have lr : ∀ z ∈ ds.map rowD, z.length ≤ 200 := fun z hz => by
          obtain ⟨e, m, rfl⟩ := List.mem_map.mp hz
          obtain ⟨es, rfl, e5, parts⟩ := event_parts (all e m) (sm e m)
          have h := wrd_len (ws := es.map partT) (m := 30) fun y hy => by
            obtain ⟨u, hu, rfl⟩ := List.mem_map.mp hy
            exact (parts u hu).2
          rw [List.length_map] at h
          show (Txt.join (tx " ") (es.map partT)).length ≤ 200
          refine Nat.le_trans h ?_
          have := Nat.mul_le_mul_right 31 e5
          omega
        have sl := sum_le lr
        rw [List.length_map] at sl
        have e1 : (Str.ofString "\n").length = 1 := by decide +kernel
        rw [e1, List.length_map]
        have := Nat.mul_le_mul_right 200 few
        omega
end
end Toy
set_option Elab.async false
set_option linter.all false
set_option maxRecDepth 100000
set_option maxHeartbeats 600000
namespace Toy
open PySem L2 Q RZ D7 TL StX
/-! ### the law's is_number and event_page -/
theorem dig_iff (c : Nat) : c ∈ (Str.ofString "0123456789").cps.toList ↔ 48 ≤ c ∧ c ≤ 57 := by
  have e : (Str.ofString "0123456789").cps.toList = (List.range 10).map (· + 48) := by decide +kernel
  rw [e, List.mem_map]
  constructor
  · rintro ⟨k, hk, rfl⟩
    have := List.mem_range.mp hk
    omega
  · rintro ⟨h1, h2⟩
    exact ⟨c - 48, List.mem_range.mpr (by omega), by omega⟩
def spLNum : Sp := fun vs H Q _ => ∃ z : Str, vs = [.str z] ∧ z.length ≤ 9000 ∧ ∀ b : Bool, (b = true ↔ NumOk z) → ∀ H', Same H H' → Q (.bl b) H'
section
variable {P : Program} {w : World} {K : PySem.W.Frag} {mg : Str → Option Value} {base : Heap} {ca ia fa : Nat → Addr} {fd fi : Nat → FuncData}
theorem ok_lNum (T : Txt w K mg ca ia fa fd fi) : FnOk P w K mg base CX0 1 (fa 37) (fd 37) ["_law_word"] spLNum := by
  refine T.F_l_is_number.ok sc_l_is_number (fun vs H Q E h => ?_) (fun cdv A outer s H vs Q E hr h => ?_)
  · obtain ⟨z, rfl, _⟩ := h
    rfl
  · obtain ⟨z, rfl, zl, k⟩ := h
    refine ⟨_, (pss_cons (ps_if (PW.pt (pw_or (pt_not (pt_chain op_le op_le pe_int (pe_callB call_len (by rfl) T.n_len (by decide +kernel) (pa_cons (pv 0) pa_nil)) pe_int)) (pw_or1 (pt_not (pt_val (pe_callB (cr_all rfl) (by rfl) T.n_all (by decide +kernel) (pa_cons (pe_lc (own := [("_law_sign", 1)]) (g := (gName 1)) (tt := tYes) rfl sc_l_is_number.nd (pi_str (pv 0)) (blkOk_by (own := [("_law_sign", 1)]) (N := N_l_is_number) (sc := defScope s_l_is_number) (by decide +kernel)) (fun _ _ _ _ _ => (pg_name (i := 1) sc_l_is_number.nd rfl (Or.inl rfl))) (fun _ _ _ _ _ => pts_nil) (fun _ _ _ _ _ => by exact (pe_cmpR op_inS (pv 1) pe_str rfl))) pa_nil))))))) (pss_one (ps_ret pe_bl)) pss_nil)
      (pss_one (ps_ret (pe_or (pe_cmpR op_eq (pv 0) pe_str (nomark _)) (pe_one (pe_cmpR op_ne (pe_ix ix_seq (pv 0) pe_int (fun _ _ => rfl)) pe_str (nomark _))))))), ?_⟩
    have lenV : LenV K (.str z) H z.length := ⟨by rw [sizeLine_eq]; omega, rfl⟩
    have kN : ∀ {H'}, Same H H' → ¬ NumOk z → Q (.bl false) H' := fun {H'} s n => k false ⟨fun q => (nomatch q), fun q => absurd q n⟩ H' s
    refine ⟨_, rfl, _, _, rfl, lenV, _, _, rfl, rfl, _, rfl, ifE (fun c1 => ?_) fun c1 => ?_⟩
    rotate_left
    · have l1 : ¬ (1 : Int) ≤ (z.length : Nat) := of_decide_eq_false c1
      exact ⟨_, rfl, iteB rfl (kN (Same.refl H) (fun q => l1 (by have := q.1; omega)))⟩
    have l1 : (1 : Int) ≤ (z.length : Nat) := of_decide_eq_true c1
    refine ⟨_, _, rfl, rfl, _, rfl, ifE (fun c2 => ?_) fun c2 => ?_⟩
    · have l2 : ¬ ((z.length : Nat) : Int) ≤ 9 := fun q => by
        rw [decide_eq_true q] at c2
        cases c2
      exact kN (Same.refl H) (fun q => l2 (by have := q.2.1; omega))
    have l2 : ((z.length : Nat) : Int) ≤ 9 := of_decide_eq_true (by simpa using c2)
    refine ⟨_, rfl, z, rfl, fun D hD => ?_⟩
    refine lc_it walk_str (fun i H' => ∃ bs : List Bool, bs.length = i ∧ H' D = some (.lst (bs.map V.bl)) ∧ Same H H' ∧ (bs.all id = true ↔ ∀ c ∈ z.cps.toList.take i, 48 ≤ c ∧ c ≤ 57))
      ⟨[], rfl, upd_same, same_new hD, by simp⟩ (fun _ _ _ _ => trivial) ?_ ?_
    · rintro i x H1 H2 hi ⟨bs, lb, hb, s1, iff1⟩ ⟨rfl, c, hc, rfl⟩
      refine ⟨rfl, ?_⟩
      dsimp only [tYes]
      rw [if_pos rfl]
      have hi2 : i < z.length := hi
      refine ⟨_, rfl, _, _, rfl, rfl, _, hb, ?_, bs ++ [decide (c ∈ (Str.ofString "0123456789").cps.toList)], by simp [lb], ?_, Same.upd_at s1 hD, ?_⟩
      · rw [List.length_map, sizeLine_eq]
        omega
      · rw [upd_same, List.map_append]
        rfl
      · exact all_more (by rw [Array.getElem?_toList]; exact hc) (by rw [decide_eq_true_iff]; exact dig_iff c) iff1
    · rintro H1 ⟨bs, lb, hb, s1, iff1⟩
      rw [show z.cps.toList.take z.cps.size = z.cps.toList from List.take_of_length_le (Nat.le_of_eq (Array.length_toList ..))] at iff1
      refine ⟨D, bs, rfl, SqL.of hb, ?_⟩
      refine ⟨_, rfl, ifE (fun c3 => ?_) fun c3 => ?_⟩
      · have nd : ¬ DigOk z := fun q => by
          rw [iff1.mpr q] at c3
          cases c3
        exact kN s1 (fun q => nd q.2.2.1)
      have dg : DigOk z := iff1.mp (by simpa using c3)
      refine nxt ?_
      have z1 : 1 ≤ z.length := by omega
      have z9 : z.length ≤ 9 := by omega
      obtain ⟨c0, l0, t0⟩ : ∃ c0 l0, tl z = c0 :: l0 := by
        cases e : tl z with
        | nil => rw [len_tl, e] at z1; exact absurd z1 (by decide)
        | cons c l => exact ⟨c, l, rfl⟩
      refine ⟨_, rfl, rfl, _, rfl, ifE (fun c4 => ?_) fun c4 => ?_⟩
      · have e0 := of_decide_eq_true c4
        injection e0 with e0
        exact k true ⟨fun _ => ⟨z1, z9, dg, .inl e0⟩, fun _ => rfl⟩ H1 s1
      have n0 : z ≠ tx "0" := fun q => of_decide_eq_false c4 (by rw [q])
      refine ⟨_, rfl, .inr (.inr ⟨z, 0, c0, rfl, rfl, by rw [sizeLine_eq]; omega, atI_nat (xs := z.cps.toList) (j := 0) (by rw [show z.cps.toList = c0 :: l0 from t0]; rfl), rfl, k _ ?_ H1 s1⟩)⟩
      rw [Bool.not_eq_true', decide_eq_false_iff_not]
      constructor
      · refine fun c5 => ⟨z1, z9, dg, .inr fun c hc => ?_⟩
        rw [t0] at hc
        injection hc with hc
        rintro rfl
        subst hc
        exact c5 (by decide +kernel)
      · intro ok e5
        rcases ok.2.2.2 with q | q
        · exact n0 q
        · have h := q c0 (by rw [t0]; rfl)
          injection e5 with e5
          have t1 : tl (⟨#[c0]⟩ : Str) = tl (tx "0") := congrArg tl e5
          rw [tx0] at t1
          injection t1 with t1
          exact h t1
theorem ok_lPage (T : Txt w K mg ca ia fa fd fi) : FnOk P w K mg base CX0 1 (fa 38) (fd 38) ["_law_event"] (spRowOf K) := by
  refine T.F_l_event_page.ok sc_l_event_page (fun vs H Q E h => ?_) (fun cdv A outer s H vs Q E hr h => ?_)
  · obtain ⟨v, ds, rfl, _⟩ := h
    rfl
  · obtain ⟨v, ds, rfl, hd, ok, few, k⟩ := h
    refine ⟨_, (pss_one (ps_ret (pe_join pe_str (pe_lc (own := [("_law_part", 1)]) (g := (gName 1)) (tt := tYes) rfl sc_l_event_page.nd (pi_tup (pv 0)) (blkOk_by (own := [("_law_part", 1)]) (N := N_l_event_page) (sc := defScope s_l_event_page) (by decide +kernel)) (fun _ _ _ _ _ => (pg_name (i := 1) sc_l_event_page.nd rfl (Or.inl rfl))) (fun _ _ _ _ _ => pts_nil) (fun _ _ _ _ _ => by exact (pe_callTy call_str_any (by rfl) T.n_str (by decide +kernel) (pa_cons (pv 1) pa_nil))))))), ?_⟩
    cases hd with
    | tup hx ha =>
    rename_i a xs
    have lx := dd_len ha
    refine ⟨⟨_, rfl⟩, _, rfl, a, rfl, ⟨_, hx⟩, fun D nD => ?_⟩
    refine lc_it (walk_tup (xs := xs)) (fun i H' => H' D = some (.lst (((ds.take i).map partT).map V.str)) ∧ Same H H') ⟨upd_same, same_new nD⟩ (fun i H' _ q => SqT.same q.2 hx) ?_ ?_
    · rintro i x Ha Hb hi ⟨hb, sm⟩ ⟨rfl, hxi⟩
      obtain ⟨e, he, hxe⟩ := dd_at ha hxi
      obtain ⟨pk, pl⟩ := ok e (List.mem_of_getElem? he)
      have fin : ∃ acc, Hb D = some (.lst acc) ∧ acc.length < sizeLine ∧ upd Hb D (.lst (acc ++ [.str (partT e)])) D = some (.lst (((ds.take (i + 1)).map partT).map V.str)) ∧ Same H (upd Hb D (.lst (acc ++ [.str (partT e)]))) := by
        refine ⟨_, hb, by rw [List.length_map, List.length_map, List.length_take, sizeLine_eq]; omega, ?_, Same.upd_at sm nD⟩
        rw [upd_same, List.take_add_one, he, List.map_append, List.map_append]
        rfl
      refine ⟨rfl, ?_⟩
      dsimp only [tYes]
      rw [if_pos rfl]
      rcases pk with ⟨z, rfl⟩ | ⟨n, rfl, ln⟩
      · cases hxe
        exact ⟨_, rfl, .inr ⟨z, rfl, fin⟩⟩
      · cases hxe
        exact ⟨_, rfl, .inl ⟨n, rfl, ln, fin⟩⟩
    · rintro H1 ⟨hb, s1⟩
      rw [lx, List.take_length] at hb
      refine ⟨_, D, _, rfl, rfl, .inl (SqL.of hb), ?_, k _ s1⟩
      have all : ∀ l : List PyData, (∀ e ∈ l, (partT e).length ≤ 9000) → ((l.map partT).map (·.length)).sum ≤ l.length * 9000 := fun l hl => by
        induction l with
        | nil => exact Nat.le_refl _
        | cons e l ih =>
          have h1 := ih fun u hu => hl u (List.mem_cons_of_mem _ hu)
          have h2 := hl e List.mem_cons_self
          rw [List.map_cons, List.map_cons, List.sum_cons, List.length_cons]
          omega
      have := all ds fun e he => (ok e he).2
      have e1 : (Str.ofString " ").length = 1 := by decide +kernel
      rw [e1, List.length_map]
      have := Nat.mul_le_mul_right 9000 few
      omega
end
end Toy
set_option Elab.async false
set_option linter.all false
set_option maxRecDepth 100000
set_option maxHeartbeats 8000000
namespace Toy
open PySem L2 Q RZ D7 TL
/-! ### bent_page: what is bent is a text, not much longer -/
theorem spl_sum (S : List Nat) (one : S.length = 1) : ∀ (n : Nat) (l acc : List Nat), l.length ≤ n → ((spl S 0 acc l).map List.length).sum + (spl S 0 acc l).length = acc.length + l.length + 1
  | _, [], acc, _ => by
    rw [spl_nil]
    simp
  | 0, c :: r, acc, h => by
    rw [List.length_cons] at h
    omega
  | n + 1, c :: r, acc, h => by
    rw [List.length_cons] at h
    cases e : pre S (c :: r) with
    | true =>
      rw [spl_hit e, spl_pass]
      have h1 := spl_sum S one n (r.drop (S.length - 1)) [] (by rw [List.length_drop]; omega)
      rw [one] at h1 ⊢
      simp only [Nat.sub_self, List.drop_zero, List.length_nil] at h1 ⊢
      rw [List.map_cons, List.sum_cons, List.length_cons, List.length_cons]
      omega
    | false =>
      rw [spl_miss e]
      have h1 := spl_sum S one n r (acc ++ [c]) (by omega)
      rw [List.length_append, List.length_singleton] at h1
      rw [List.length_cons]
      omega
/-- what joining these may take -/
def Wt (ys : List Str) : Nat := (ys.map (·.length)).sum + ys.length
theorem wt_app (a b : List Str) : Wt (a ++ b) = Wt a + Wt b := by
  unfold Wt
  rw [List.map_append, List.sum_append, List.length_append]
  omega
theorem rows_wt (t : Str) : Wt (rowsOf t) = t.length + 1 := by
  have e := split_spl t (tx "\n") (by rw [lf_tl]; simp) (kind_ok (by decide +kernel))
  have h := spl_sum (tl (tx "\n")) (by rw [lf_tl]; rfl) (tl t).length (tl t) [] (Nat.le_refl _)
  rw [← e] at h
  unfold Wt rowsOf
  rw [List.length_map, List.length_nil, Nat.zero_add, ← len_tl] at h
  have e2 : ((Txt.split t (tx "\n")).map (·.length)).sum = (((Txt.split t (tx "\n")).map tl).map List.length).sum := by
    rw [List.map_map]
    exact congrArg List.sum (List.map_congr_left fun z _ => len_tl z)
  rw [e2]
  exact h
theorem join_wt (ys : List Str) : (Txt.join (tx "\n") ys).length ≤ Wt ys := by
  rw [len_tl, join_eq, tl_join, lf_tl]
  refine Nat.le_trans (joinL_len _ _) ?_
  have e : ((ys.map tl).map List.length) = ys.map (·.length) := by
    rw [List.map_map]
    exact List.map_congr_left fun z _ => (len_tl z).symm
  rw [e, List.length_map]
  unfold Wt
  simp
theorem wt_take (ys : List Str) (k : Nat) : Wt (ys.take k) + Wt (ys.drop k) = Wt ys := by
  rw [← wt_app, List.take_append_drop]
theorem wt_drop (ys : List Str) (k : Nat) : Wt (ys.drop k) ≤ Wt ys := by
  have := wt_take ys k
  omega
theorem cutS_len (z : Str) (lo hi : Option Int) : (cutS z lo hi).length ≤ z.length := by
  have e : (cutS z lo hi).length = ((z.cps.toList.drop (HT.sIx z.length 0 lo)).take (HT.sIx z.length z.length hi - HT.sIx z.length 0 lo)).length := rfl
  rw [e, List.length_take, List.length_drop]
  have e2 : z.cps.toList.length = z.length := Array.length_toList ..
  omega
abbrev bendS : List Str := ["\n", " ", "a", "0", "-", "A", "1", "link", "\nlearn a", "run", "\nlink a b 1 1", "set"]
theorem bend_le : ∀ z ∈ bendS, z.length ≤ 13 := by decide +kernel
theorem cut_strs {K : PySem.W.Frag} {H : Hp} {R : Addr} {xs ys : List Str} {lo hi : Option Int} {Q : VK} (h : H R = some (.lst (xs.map V.str))) (e : cutV (xs.map V.str) lo hi = ys.map V.str) (k : ∀ S H', Same H H' → H' S = some (.lst (ys.map V.str)) → Q (.ref S) H') :
    rSlL K (.ref R) lo hi H Q := ⟨R, _, rfl, SqL.of h, fun S nS => k S _ (same_new nS) (by rw [upd_same, e])⟩
theorem take_strs (xs : List Str) (d : Nat) : cutV (xs.map V.str) none (some (d : Int)) = (xs.take d).map V.str := by rw [cut_take, List.map_take]
theorem drop_strs (xs : List Str) (d : Nat) : cutV (xs.map V.str) (some (d : Int)) none = (xs.drop d).map V.str := by rw [cut_drop, List.map_drop]
theorem drop1_strs (xs : List Str) (d : Nat) : cutV (xs.map V.str) (some ((d : Int) + 1)) none = (xs.drop (d + 1)).map V.str := drop_strs xs (d + 1)
theorem cat_strs {H : Hp} {a b : Addr} {xs ys : List Str} {Q : VK} (ha : H a = some (.lst (xs.map V.str))) (hb : H b = some (.lst (ys.map V.str))) (few : Wt xs + Wt ys ≤ 100000)
    (k : ∀ p H', Same H H' → H' p = some (.lst ((xs ++ ys).map V.str)) → Q (.ref p) H') : rCat (.ref a) (.ref b) H Q :=
  ⟨a, b, _, _, rfl, rfl, ha, hb, by rw [List.length_map, List.length_map, sizeLine_eq]; unfold Wt at few; omega, fun p np => k p _ (same_new np) (by rw [upd_same, List.map_append])⟩
theorem join_fits {ys : List Str} (few : Wt ys ≤ 100000) : (ys.map (·.length)).sum + ys.length * (Str.ofString "\n").length ≤ 16777216 := by
  have e1 : (Str.ofString "\n").length = 1 := by decide +kernel
  rw [e1]
  unfold Wt at few
  omega
theorem noPart_it {σ : L2.St} {H : Hp} {R : Option Int → Hp → Prop} (h : R none H) : tNoPart σ H R := h
def spBentPage : Sp := fun vs H Q _ => ∃ (p : Addr) (t : Str) (B : Nat), vs = [.ref p, .str t] ∧ Pot H p B ∧ B < 900000 ∧ t.length ≤ 9000 ∧
  ∀ (z : Str) (H' : Hp), z.length ≤ 2 * t.length + 20 → But p H H' → Pot H' p (B + 4) → Q (.str z) H'
section
variable {P : Program} {w : World} {K : PySem.W.Frag} {mg : Str → Option Value} {base : Heap} {ca ia fa : Nat → Addr} {fd fi : Nat → FuncData}
theorem ok_bentPage (T : Txt w K mg ca ia fa fd fi) : FnOk P w K mg base CX0 3 (fa 41) (fd 41) ["_law_pot_here", "_law_page"] spBentPage := by
  have G_l_take := ok_take (P := P) (w := w) (base := base) T
  have G_l_of := ok_of (P := P) (w := w) (base := base) T
  refine T.F_l_bent_page.ok sc_l_bent_page (fun vs H Q E h => ?_) (fun cdv A outer s H vs Q E hr h => ?_)
  · obtain ⟨p, t, B, rfl, _⟩ := h
    rfl
  · obtain ⟨p, t, B, rfl, hp, hB, tl9, k⟩ := h
    refine ⟨_, (pss_cons (ps_par3 (i := 2) (j := 3) (l := 4) (by rfl) sc_l_bent_page.nd rfl rfl rfl (by decide) (by decide) (by decide) rfl rfl rfl (pa_cons (pe_call G_l_take (hr.mono (by decide)) rfl T.g_l_take T.k_l_take T.b_l_take .nil pass0 (pa_cons (pv 0) (pa_cons pe_int pa_nil))) (pa_cons (pe_call G_l_take (hr.mono (by decide)) rfl T.g_l_take T.k_l_take T.b_l_take .nil pass0 (pa_cons (pv 0) (pa_cons (pe_op op_add (pe_callB call_len (by rfl) T.n_len (by decide +kernel) (pa_cons (pv 1) pa_nil)) pe_int) pa_nil))) (pa_cons (pe_split (pv 1) pe_str) pa_nil))) (by rfl))
      (pss_cons (ps_set (i := 5) sc_l_bent_page.nd rfl (Or.inl rfl) (pe_call G_l_of (hr.mono (by decide)) rfl T.g_l_of T.k_l_of T.b_l_of .nil pass0 (pa_cons (pv 0) (pa_cons (pe_lst (pa_cons pe_str (pa_cons pe_str (pa_cons pe_str (pa_cons pe_str (pa_cons pe_str (pa_cons pe_str (pa_cons pe_str (pa_cons pe_str (pa_cons pe_str (pa_cons pe_str (pa_cons pe_str (pa_cons pe_str pa_nil))))))))))))) pa_nil))))
      (pss_cons (ps_set (i := 6) sc_l_bent_page.nd rfl (Or.inl rfl) (pe_call G_l_take (hr.mono (by decide)) rfl T.g_l_take T.k_l_take T.b_l_take .nil pass0 (pa_cons (pv 0) (pa_cons (pe_callB call_len (by rfl) T.n_len (by decide +kernel) (pa_cons (pv 4) pa_nil)) pa_nil))))
      (pss_cons (ps_if (pt_cmpR op_eq (pv 2) pe_int (nomark _)) (pss_one (ps_ret (pe_op op_add_str (pe_slice sl_str (pv 1) po_none (po_some (pv 3))) (pe_slice sl_str (pv 1) (po_some (pe_op op_add (pv 3) pe_int)) po_none)))) pss_nil)
      (pss_cons (ps_if (pt_cmpR op_lt (pv 2) pe_int (nomark _)) (pss_one (ps_ret (pe_op op_add_str (pe_op op_add_str (pe_slice sl_str (pv 1) po_none (po_some (pv 3))) (pv 5)) (pe_slice sl_str (pv 1) (po_some (pe_op op_add (pv 3) (pe_ifExp (pt_cmpR op_eq (pv 2) pe_int (nomark _)) pe_int pe_int))) po_none)))) pss_nil)
      (pss_cons (ps_if (pt_cmpR op_eq (pv 2) pe_int (nomark _)) (pss_one (ps_ret (pe_join pe_str (pe_op op_cat (pe_slice sl_list (pv 4) po_none (po_some (pv 6))) (pe_slice sl_list (pv 4) (po_some (pe_op op_add (pv 6) pe_int)) po_none))))) pss_nil)
      (pss_one (ps_ret (pe_ifExp (pt_cmpR op_eq (pv 2) pe_int (nomark _)) (pe_join pe_str (pe_op op_cat (pe_op op_cat (pe_slice sl_list (pv 4) po_none (po_some (pv 6))) (pe_lst (pa_cons (pe_ix ix_seq (pv 4) (pv 6) (fun _ _ => rfl)) (pa_cons (pe_ix ix_seq (pv 4) (pv 6) (fun _ _ => rfl)) pa_nil)))) (pe_slice sl_list (pv 4) (po_some (pe_op op_add (pv 6) pe_int)) po_none))) (pe_join pe_str (pe_op op_cat (pe_slice sl_list (pv 4) (po_some pe_int) po_none) (pe_slice sl_list (pv 4) po_none (po_some pe_int))))))))))))), ?_⟩
    have lenV : ∀ {H'}, LenV K (.str t) H' t.length := fun {H'} => ⟨by rw [sizeLine_eq]; omega, rfl⟩
    refine ⟨_, rfl, p, 6, B, rfl, hp, by decide, by decide, by omega, fun d1 H1 l1 b1 hp1 => ?_⟩
    refine ⟨_, rfl, _, rfl, _, _, rfl, lenV, _, _, rfl, rfl, p, _, _, rfl, hp1, by omega, by omega, by omega, fun d2 H2 l2 b2 hp2 => ?_⟩
    obtain ⟨wl, wn, wp⟩ := rows_le t
    have wt := rows_wt t
    refine ⟨_, rfl, ⟨_, rfl⟩, _, _, rfl, rfl, by decide +kernel, by rw [sizeLine_eq]; omega, fun R nR => ?_⟩
    have sR := same_new (o := .lst ((rowsOf t).map V.str)) nR
    have hR : upd H2 R (.lst ((rowsOf t).map V.str)) R = some (.lst ((rowsOf t).map V.str)) := upd_same
    have eW : Txt.split t (Str.ofString "\n") = rowsOf t := rfl
    rw [eW]
    have hp3 := hp2.same sR
    have pR : R ≠ p := fun z => by
      obtain ⟨o, sd, c, hpp, _⟩ := hp2
      rw [z, hpp] at nR
      cases nR
    have b3 := (b1.trans b2).trans (But.of sR)
    generalize upd H2 R (.lst ((rowsOf t).map V.str)) = H3 at sR hR hp3 b3 ⊢
    refine ⟨_, _, _, rfl, ?_⟩
    refine ⟨_, rfl, by show 12 ≤ sizeLine; decide, fun L nL => ?_⟩
    have sL := same_new (o := .lst (bendS.map V.str)) nL
    have hL : upd H3 L (.lst (bendS.map V.str)) L = some (.lst (bendS.map V.str)) := upd_same
    have eL : upd H3 L (.lst (bendS.map V.str)) = upd H3 L (.lst (bendS.map V.str)) := rfl
    have pL : L ≠ p := fun z => by
      obtain ⟨o, sd, c, hpp, _⟩ := hp3
      rw [z, hpp] at nL
      cases nL
    refine ⟨p, .ref L, bendS.map V.str, _, rfl, hp3.same sL, by omega, .inl ⟨L, rfl, pL, SqL.of upd_same⟩, by decide, by decide, fun d3 v H4 hv b4 hp4 => ?_⟩
    obtain ⟨sg, hsg, rfl⟩ := at_map hv
    have lsg := bend_le sg (List.mem_of_getElem? hsg)
    have hR4 := b4 _ _ pR (sL _ _ hR)
    have b04 := (b3.trans (But.of sL)).trans b4
    have lw0 : 1 ≤ (rowsOf t).length := by
      cases e : rowsOf t with
      | nil => exact absurd e wn
      | cons _ _ => simp
    refine ⟨_, rfl, _, rfl, _, _, rfl, .inl ⟨_, SqL.of hR4, by rw [List.length_map]⟩, p, _, _, rfl, hp4, by omega, by omega, by omega, fun d4 H5 l4 b5 hp5 => ?_⟩
    have b05 := b04.trans b5
    have hR5 := b5 _ _ pR hR4
    have szP : t.length ≤ sizeLine := by rw [sizeLine_eq]; omega
    have c1 := cutS_len t none (some (d2 : Int))
    have c2 := cutS_len t (some ((d2 : Int) + 1)) none
    refine ⟨_, rfl, rfl, _, rfl, ifE (fun e1 => ?_) fun e1 => ?_⟩
    · refine ⟨_, rfl, _, rfl, _, rfl, t, rfl, szP, _, rfl, _, rfl, _, _, rfl, rfl, _, rfl, t, rfl, szP, _, _, rfl, rfl, by rw [sizeLine_eq]; omega, ?_⟩
      refine k _ _ ?_ b05 hp5
      rw [PySem.strLen_append]
      omega
    refine nxt ?_
    refine ⟨_, rfl, _, _, rfl, rfl, _, rfl, ifE (fun e2 => ?_) fun e2 => ?_⟩
    · refine ⟨_, rfl, _, rfl, _, rfl, t, rfl, szP, _, rfl, _, _, rfl, rfl, by rw [sizeLine_eq]; omega, ?_⟩
      refine ⟨_, rfl, _, rfl, _, rfl, rfl, _, rfl, ifE (fun _ => ?_) fun _ => ?_⟩
      all_goals
        refine ⟨_, _, rfl, rfl, _, rfl, t, rfl, szP, _, _, rfl, rfl, ?_, k _ _ ?_ b05 hp5⟩
        · have c3 := fun o => cutS_len t (some o) none
          rw [PySem.strLen_append, sizeLine_eq]
          exact Nat.le_trans (Nat.add_le_add_left (c3 _) _) (by omega)
        · have c3 := fun o => cutS_len t (some o) none
          rw [PySem.strLen_append, PySem.strLen_append]
          exact Nat.le_trans (Nat.add_le_add_left (c3 _) _) (by omega)
    refine nxt ?_
    have w1 := wt_take (rowsOf t) d4
    have w2 := wt_drop (rowsOf t) (d4 + 1)
    have w3 : Wt ((rowsOf t).take d4) + Wt ((rowsOf t).drop (d4 + 1)) ≤ Wt (rowsOf t) := by
      have e : (rowsOf t).drop (d4 + 1) = ((rowsOf t).drop d4).drop 1 := by rw [List.drop_drop]
      have := wt_drop ((rowsOf t).drop d4) 1
      rw [e]
      omega
    have back : ∀ {G : Hp}, Same H5 G → But p H G ∧ Pot G p (B + 1 + 1 + 1 + 1) := fun {G} g => ⟨b05.trans (But.of g), hp5.same g⟩
    refine ⟨_, rfl, rfl, _, rfl, ifE (fun e3 => ?_) fun e3 => ?_⟩
    · refine ⟨⟨_, rfl⟩, _, rfl, _, rfl, _, rfl, cut_strs hR5 (take_strs _ d4) fun S1 G1 g1 h1 => ?_⟩
      refine ⟨_, rfl, _, rfl, _, _, rfl, rfl, _, rfl, noPart_it (cut_strs (g1 _ _ hR5) (drop1_strs _ d4) fun S2 G2 g2 h2 => ?_)⟩
      refine cat_strs (g2 _ _ h1) h2 (by omega) fun S3 G3 g3 h3 => ?_
      have g := (g1.trans g2).trans g3
      have fw : Wt ((rowsOf t).take d4 ++ (rowsOf t).drop (d4 + 1)) ≤ t.length + 1 := by
        rw [wt_app]
        omega
      refine ⟨_, S3, _, rfl, rfl, .inl (SqL.of h3), join_fits (by omega), k _ _ ?_ (back g).1 (back g).2⟩
      have := join_wt ((rowsOf t).take d4 ++ (rowsOf t).drop (d4 + 1))
      have e : Txt.join (Str.ofString "\n") = Txt.join (tx "\n") := rfl
      rw [e]
      omega
    refine nxt ?_
    refine ⟨_, rfl, rfl, _, rfl, ifE (fun e3 => ?_) fun e3 => ?_⟩
    · obtain ⟨x, hx⟩ : ∃ x, (rowsOf t)[d4]? = some x := ⟨(rowsOf t)[d4]'(by omega), List.getElem?_eq_getElem (by omega)⟩
      have lx := wp x (List.mem_of_getElem? hx)
      refine ⟨⟨_, rfl⟩, _, rfl, _, rfl, _, rfl, cut_strs hR5 (take_strs _ d4) fun S1 G1 g1 h1 => ?_⟩
      refine ⟨_, rfl, _, rfl, ixL (SqL.of (g1 _ _ hR5)) d4 (by rw [List.getElem?_map, hx]; rfl) ⟨_, rfl, _, rfl, ixL (SqL.of (g1 _ _ hR5)) d4 (by rw [List.getElem?_map, hx]; rfl) ⟨by show 2 ≤ sizeLine; decide, fun S2 n2 => ?_⟩⟩⟩
      have g2 := same_new (o := .lst ([x, x].map V.str)) n2
      have h2 : upd G1 S2 (.lst ([x, x].map V.str)) S2 = some (.lst ([x, x].map V.str)) := upd_same
      have w4 : Wt [x, x] ≤ 2 * t.length + 2 := by
        unfold Wt
        simp
        omega
      refine cat_strs (g2 _ _ h1) h2 (by omega) fun S3 G3 g3 h3 => ?_
      refine ⟨_, rfl, _, rfl, _, _, rfl, rfl, _, rfl, noPart_it (cut_strs (g3 _ _ (g2 _ _ (g1 _ _ hR5))) (drop1_strs _ d4) fun S4 G4 g4 h4 => ?_)⟩
      have fw0 : Wt ((rowsOf t).take d4 ++ [x, x]) = Wt ((rowsOf t).take d4) + Wt [x, x] := wt_app _ _
      refine cat_strs (g4 _ _ h3) h4 (by omega) fun S5 G5 g5 h5 => ?_
      have g := (((g1.trans g2).trans g3).trans g4).trans g5
      have ex : (rowsOf t).take d4 ++ [x] ++ (rowsOf t).drop (d4 + 1) = rowsOf t := by
        have e := List.take_add_one (l := rowsOf t) (i := d4)
        rw [hx] at e
        have e : (rowsOf t).take (d4 + 1) = (rowsOf t).take d4 ++ [x] := e
        rw [← e, List.take_append_drop]
      have we := congrArg Wt ex
      rw [wt_app, wt_app] at we
      have wx : Wt [x] = x.length + 1 := by
        unfold Wt
        simp
      have wxx : Wt [x, x] = 2 * x.length + 2 := by
        unfold Wt
        simp
        omega
      have fw : Wt ((rowsOf t).take d4 ++ [x, x] ++ (rowsOf t).drop (d4 + 1)) ≤ 2 * t.length + 2 := by
        rw [wt_app]
        omega
      refine ⟨_, S5, _, rfl, rfl, .inl (SqL.of h5), join_fits (by omega), k _ _ ?_ (back g).1 (back g).2⟩
      have := join_wt ((rowsOf t).take d4 ++ [x, x] ++ (rowsOf t).drop (d4 + 1))
      have e : Txt.join (Str.ofString "\n") = Txt.join (tx "\n") := rfl
      rw [e]
      omega
    · refine ⟨⟨_, rfl⟩, _, rfl, _, rfl, noPart_it (cut_strs hR5 (drop_strs _ 1) fun S1 G1 g1 h1 => ?_)⟩
      refine ⟨_, rfl, _, rfl, cut_strs (g1 _ _ hR5) (take_strs _ 1) fun S2 G2 g2 h2 => ?_⟩
      have w5 := wt_take (rowsOf t) 1
      refine cat_strs (g2 _ _ h1) h2 (by omega) fun S3 G3 g3 h3 => ?_
      have g := (g1.trans g2).trans g3
      have fw : Wt ((rowsOf t).drop 1 ++ (rowsOf t).take 1) ≤ t.length + 1 := by
        rw [wt_app]
        omega
      refine ⟨_, S3, _, rfl, rfl, .inl (SqL.of h3), join_fits (by omega), k _ _ ?_ (back g).1 (back g).2⟩
      have := join_wt ((rowsOf t).drop 1 ++ (rowsOf t).take 1)
      have e : Txt.join (Str.ofString "\n") = Txt.join (tx "\n") := rfl
      rw [e]
      omega
end
end Toy
set_option Elab.async false
set_option linter.all false
set_option maxRecDepth 100000
set_option maxHeartbeats 8000000
namespace Toy
open PySem L2 Q RZ D7
/-! ### odd values; how great data is -/
abbrev oddDs : List PyData := [.none, .bool true, .bool false, .int (-1), .int (-7), .str "", .str "A", .str "a b", .str "abcdefghi", .str "a1",
  .tuple [.none], .tuple [.tuple []], .list [], .list [.str "a"], .dict [], .dict [(.str "a", .int 1)]]
/-- the heap without the pot -/
abbrev off (H : Hp) (p : Addr) : Hp := fun b => if b = p then none else H b
theorem off_at {H : Hp} {p a : Addr} {o : HO} (h : H a = some o) (n : a ≠ p) : off H p a = some o := by
  show (if a = p then none else H a) = some o
  rw [if_neg n]
  exact h
theorem But.off {p : Addr} {H H' : Hp} (b : But p H H') : Same (off H p) (off H' p) := fun a o e => by
  by_cases z : a = p
  · subst z
    have e2 : (if a = a then none else H a) = some o := e
    rw [if_pos rfl] at e2
    cases e2
  · have e2 : (if a = p then none else H a) = some o := e
    rw [if_neg z] at e2
    exact off_at (b a o z e2) z
theorem off_same (H : Hp) (p : Addr) : Same (off H p) H := fun a o e => by
  have e2 : (if a = p then none else H a) = some o := e
  split at e2
  · cases e2
  · exact e2
def spOdd (K : PySem.W.Frag) : Sp := fun vs H Q _ => ∃ (p : Addr) (B : Nat), vs = [.ref p] ∧ Pot H p B ∧ B < 1000000 ∧
  ∀ (v : V) (d : PyData) (H' : Hp), But p H H' → Pot H' p (B + 1) → Dd K (off H' p) v d → d ∈ oddDs → Q v H'
theorem dd_get {K : PySem.W.Frag} {H : Hp} : ∀ {xs : List V} {ds : List PyData} {i : Nat} {v : V}, DdAll K H xs ds → xs[i]? = some v → ∃ d, d ∈ ds ∧ Dd K H v d
  | _, _, 0, _, .cons h _, e => ⟨_, List.mem_cons_self .., by simp at e; subst e; exact h⟩
  | _, _, i + 1, v, .cons _ t, e => by
    obtain ⟨d, m, h⟩ := dd_get (i := i) (v := v) t (by simpa using e)
    exact ⟨d, List.mem_cons_of_mem _ m, h⟩
theorem same_two {H : Hp} {a : Addr} {o u : HO} (n : H a = none) : Same H (upd (upd H a o) a u) := fun b x e => by
  have z := ne_of_none e n
  rw [upd_ne z, upd_ne z]
  exact e
/-- small data -/
structure Sm (n k : Nat) (d : PyData) : Prop where
  ok : d.showable = true
  len : d.shown.length ≤ n
  dp : d.depth ≤ k
theorem Sm.mono {n k n' k' : Nat} {d : PyData} (h : Sm n k d) (a : n ≤ n') (b : k ≤ k') : Sm n' k' d := ⟨h.ok, Nat.le_trans h.len a, Nat.le_trans h.dp b⟩
theorem sm_all {n k : Nat} : ∀ {xs : List PyData}, (∀ x ∈ xs, Sm n k x) →
    PyData.showableAll xs = true ∧ piled (PyData.shownAll xs) ≤ xs.length * (n + 2) ∧ PyData.depthAll xs ≤ k
  | [], _ => ⟨rfl, Nat.zero_le _, Nat.zero_le _⟩
  | x :: xs, h => by
    obtain ⟨h1, h2, h3⟩ := sm_all (xs := xs) fun y m => h y (List.mem_cons_of_mem _ m)
    obtain ⟨q1, q2, q3⟩ := h x (List.mem_cons_self ..)
    refine ⟨?_, ?_, ?_⟩
    · simp only [PyData.showableAll, q1, h1, Bool.and_self]
    · simp only [PyData.shownAll, piled_cons, List.length_cons, Nat.succ_mul]
      omega
    · simp only [PyData.depthAll]
      omega
theorem sm_tuple {n k : Nat} {xs : List PyData} (h : ∀ x ∈ xs, Sm n k x) : Sm (xs.length * (n + 2) + 2) (k + 1) (.tuple xs) := by
  obtain ⟨h1, h2, h3⟩ := sm_all h
  refine ⟨?_, ?_, ?_⟩
  · simp only [PyData.showable, h1]
  · simp only [PyData.shown]
    exact Nat.le_trans (fmt_text _) (by omega)
  · simp only [PyData.depth]
    omega
theorem list_tuple (ts : List Str) : (listText ts).length ≤ piled ts + 3 := by
  have h := listText_len_le ts
  have e : ∀ l : List Str, (l.map (·.length)).sum + 2 * l.length = piled l := fun l => by
    induction l with
    | nil => rfl
    | cons a l ih =>
      rw [List.map_cons, List.sum_cons, List.length_cons, piled_cons, ← ih]
      omega
  rw [e] at h
  exact h
theorem sm_list {n k : Nat} {xs : List PyData} (h : ∀ x ∈ xs, Sm n k x) : Sm (xs.length * (n + 2) + 3) (k + 1) (.list xs) := by
  obtain ⟨h1, h2, h3⟩ := sm_all h
  refine ⟨?_, ?_, ?_⟩
  · simp only [PyData.showable, h1]
  · simp only [PyData.shown]
    exact Nat.le_trans (list_tuple _) (by omega)
  · simp only [PyData.depth]
    omega
/-- a short text of plain signs -/
abbrev Tc (z : Str) : Prop := z.length ≤ 10 ∧ ∀ c ∈ z.cps.toList, c < 128
theorem sm_tc {z : Str} (h : Tc z) : Sm 110 3 (.str z) := by
  refine ⟨rfl, ?_, ?_⟩
  · have q := PySem.StrLaws.reprText_len z fun c hc => by have := h.2 c hc; omega
    simp only [PyData.shown]
    have := h.1
    omega
  · simp only [PyData.depth]
    omega
theorem sm_nat {n : Nat} (h : n < 1000000000) : Sm 20 3 (.int (n : Int)) := by
  refine ⟨?_, ?_, ?_⟩
  · unfold PyData.showable
    rw [decide_eq_true_eq, Int.natAbs_natCast]
    by_cases z : n = 0
    · subst z
      decide
    · exact (Nat.log2_lt z).mpr (Nat.lt_trans h (by decide +kernel))
  · unfold PyData.shown
    have e : (toString (n : Int) : String) = n.repr := rfl
    rw [e, PySem.ofString_length]
    exact Nat.le_trans ((Nat.length_repr_le_iff (k := 9) (by decide)).mpr h) (by decide)
  · unfold PyData.depth
    decide
theorem sm_int {i : Int} (h : i.natAbs < 1000000000) : Sm 20 3 (.int i) := by
  cases i with
  | ofNat n => exact sm_nat h
  | negSucc m =>
    rw [Int.natAbs_negSucc] at h
    refine ⟨?_, ?_, ?_⟩
    · unfold PyData.showable
      rw [decide_eq_true_eq, Int.natAbs_negSucc]
      exact (Nat.log2_lt (by omega)).mpr (Nat.lt_trans h (by decide +kernel))
    · unfold PyData.shown
      have e : (toString (Int.negSucc m) : String) = "-" ++ (m + 1).repr := rfl
      rw [e, PySem.ofString_length, String.length_append]
      have := (Nat.length_repr_le_iff (n := m + 1) (k := 9) (by decide)).mpr h
      have e1 : "-".length = 1 := by decide
      omega
    · unfold PyData.depth
      decide
mutual
/-- whole numbers of nine figures at the most, short texts, also within tuples of a hundred members at the most -/
def num9 : PyData → Bool
  | .int i => decide (i.natAbs < 1000000000)
  | .str z => decide (z.length ≤ 12) && PyData.strOk z
  | .tuple xs => decide (xs.length ≤ 100) && num9All xs
  | _ => true
def num9All : List PyData → Bool
  | [] => true
  | x :: xs => num9 x && num9All xs
end
theorem num9_all : ∀ {xs : List PyData}, num9All xs = true ↔ ∀ x ∈ xs, num9 x = true
  | [] => ⟨fun _ _ h => (nomatch h), fun _ => by unfold num9All; rfl⟩
  | x :: xs => by
    have ih := num9_all (xs := xs)
    unfold num9All
    rw [Bool.and_eq_true, ih, List.forall_mem_cons]
/-- what is promised of bent data: its size, and short texts in it -/
structure Rs (n k : Nat) (d : PyData) : Prop where
  sm : Sm n k d
  tx : Txs d
  n9 : num9 d = true
theorem Rs.mono {n k n' k' : Nat} {d : PyData} (h : Rs n k d) (a : n ≤ n') (b : k ≤ k') : Rs n' k' d := ⟨h.sm.mono a b, h.tx, h.n9⟩
theorem rs_flat {n k : Nat} {d : PyData} (h : Sm n k d) (e : TxOk d) (t : tupB d = false) (n9 : num9 d = true) : Rs n k d := ⟨h, ⟨e, fun ds e => by rw [e] at t; cases t⟩, n9⟩
theorem rs_tc {z : Str} (h : Tc z) : Rs 110 3 (.str z) := rs_flat (sm_tc h) (fun y e => by
  injection e with e
  rw [← e]
  have := h.1
  omega) rfl (by
    unfold num9
    rw [Bool.and_eq_true]
    refine ⟨decide_eq_true (by have := h.1; omega), ?_⟩
    unfold PyData.strOk
    rw [← Array.all_toList, List.all_eq_true]
    intro c hc
    have := h.2 c hc
    exact decide_eq_true (by omega))
theorem rs_int {i : Int} (h : i.natAbs < 1000000000) : Rs 20 3 (.int i) := rs_flat (sm_int h) (fun y e => by cases e) rfl (by unfold num9; exact decide_eq_true h)
theorem rs_nat {n : Nat} (h : n < 1000000000) : Rs 20 3 (.int (n : Int)) := rs_int (by rw [Int.natAbs_natCast]; exact h)
theorem rs_non : Rs 20 3 .none := rs_flat ⟨by decide +kernel, by decide +kernel, by decide +kernel⟩ (fun y e => by cases e) rfl (by unfold num9; rfl)
theorem rs_bool (b : Bool) : Rs 20 3 (.bool b) := by
  refine rs_flat ?_ (fun y e => by cases e) rfl (by unfold num9; rfl)
  cases b <;> exact ⟨by decide +kernel, by decide +kernel, by decide +kernel⟩
theorem rs_tuple {n k m : Nat} {xs : List PyData} (h : ∀ x ∈ xs, Rs n k x) (l : xs.length ≤ m) (lm : m ≤ 100 := by decide) : Rs (m * (n + 2) + 2) (k + 1) (.tuple xs) :=
  ⟨(sm_tuple fun x hx => (h x hx).sm).mono (by have := Nat.mul_le_mul_right (n + 2) l; omega) (Nat.le_refl _), ⟨fun z e => (by cases e), fun ds e d hd => by
    injection e with e
    subst e
    exact (h d hd).tx.1⟩, by unfold num9; rw [Bool.and_eq_true]; exact ⟨decide_eq_true (by omega), num9_all.mpr fun x hx => (h x hx).n9⟩⟩
theorem rs_list {n k m : Nat} {xs : List PyData} (h : ∀ x ∈ xs, Rs n k x) (l : xs.length ≤ m) : Rs (m * (n + 2) + 3) (k + 1) (.list xs) :=
  ⟨(sm_list fun x hx => (h x hx).sm).mono (by have := Nat.mul_le_mul_right (n + 2) l; omega) (Nat.le_refl _), ⟨fun z e => (by cases e), fun ds e => (by cases e)⟩, by unfold num9; rfl⟩
theorem rs_odd : ∀ d ∈ oddDs, Rs 60 3 d := by
  have sm : ∀ d ∈ oddDs, d.showable = true ∧ d.shown.length ≤ 60 ∧ d.depth ≤ 3 := by decide +kernel
  intro d hd
  have nn : ∀ d ∈ oddDs, num9 d = true := by decide +kernel
  refine ⟨⟨(sm d hd).1, (sm d hd).2.1, (sm d hd).2.2⟩, ?_, nn d hd⟩
  simp only [oddDs, List.mem_cons, List.not_mem_nil, or_false] at hd
  rcases hd with rfl | rfl | rfl | rfl | rfl | rfl | rfl | rfl | rfl | rfl | rfl | rfl | rfl | rfl | rfl | rfl
  all_goals
    refine ⟨fun z e => ?_, fun ds e x hx z ez => ?_⟩
    · first | (cases e; done) | (injection e with e; subst e; decide +kernel)
    · first | (cases e; done) | (injection e with e; subst e; simp only [List.mem_cons, List.not_mem_nil, or_false] at hx; subst hx; cases ez; done) | (injection e with e; subst e; cases hx; done)
section
variable {P : Program} {w : World} {K : PySem.W.Frag} {mg : Str → Option Value} {base : Heap} {ca ia fa : Nat → Addr} {fd fi : Nat → FuncData}
theorem ok_odd (T : Txt w K mg ca ia fa fd fi) : FnOk P w K mg base CX0 3 (fa 31) (fd 31) ["_law_pot_here"] (spOdd K) := by
  have G_l_of := ok_of (P := P) (w := w) (base := base) T
  refine T.F_l_odd.ok sc_l_odd (fun vs H Q E h => ?_) (fun cdv A outer s H vs Q E hr h => ?_)
  · obtain ⟨p, B, rfl, _⟩ := h
    rfl
  · obtain ⟨p, B, rfl, hp, hB, k⟩ := h
    refine ⟨_, (pss_cons (ps_set (i := 1) sc_l_odd.nd rfl (Or.inl rfl) (pe_lst (pa_cons pe_non (pa_cons pe_bl (pa_cons pe_bl (pa_cons (pe_un un_neg pe_int) (pa_cons (pe_un un_neg pe_int) (pa_cons pe_str (pa_cons pe_str (pa_cons pe_str (pa_cons pe_str (pa_cons pe_str (pa_cons (pe_tup (pa_cons pe_non pa_nil)) (pa_cons (pe_tup (pa_cons (pe_tup pa_nil) pa_nil)) (pa_cons (pe_lst pa_nil) (pa_cons (pe_lst (pa_cons pe_str pa_nil)) (pa_cons pe_dnewK (pa_cons (pe_disp (pps_cons pe_str pe_int pps_nil) (by rfl) (by rfl) (fun z => by cases z) (by decide)) pa_nil))))))))))))))))))
      (pss_one (ps_ret (pe_call G_l_of (hr.mono (by decide)) rfl T.g_l_of T.k_l_of T.b_l_of .nil pass0 (pa_cons (pv 0) (pa_cons (pv 1) pa_nil)))))), ?_⟩
    refine seqS (fun v H' => ∃ (l : Addr) (xs : List V), v = .ref l ∧ l ≠ p ∧ Same H H' ∧ H' l = some (.lst xs) ∧ DdAll K (off H' p) xs oddDs) (fun Q k' => ?_) ?_
    · refine ⟨_, rfl, _, rfl, by show 1 ≤ sizeLine; decide, fun t1 n1 => ?_⟩
      refine ⟨by show 0 ≤ sizeLine; decide, fun t2 n2 => ⟨by show 1 ≤ sizeLine; decide, fun t3 n3 => ⟨by show 0 ≤ sizeLine; decide, fun l1 n4 => ⟨by show 1 ≤ sizeLine; decide, fun l2 n5 => fun d1 n6 => fun d2 n7 => ?_⟩⟩⟩⟩
      refine ⟨upd_same, [(.inr "a", .int 1)], rfl, by decide, by show 16 ≤ sizeLine; decide, fun l n8 => ?_⟩
      have s1 := same_new (o := .tup [.non]) n1
      have s2 := same_new (o := .tup []) n2
      have s3 := same_new (o := .tup [.ref t2]) n3
      have s4 := same_new (o := .lst []) n4
      have s5 := same_new (o := .lst [.str "a"]) n5
      have s6 := same_new (o := .dK []) n6
      have s7 := same_two (o := .dK []) (u := .dK (mergeK [] [(.inr "a", .int 1)])) n7
      have s8 := same_new (o := .lst [.non, .bl true, .bl false, .int (-1), .int (-7), .str "", .str "A", .str "a b", .str "abcdefghi", .str "a1",
        .ref t1, .ref t3, .ref l1, .ref l2, .ref d1, .ref d2]) n8
      have h8 := s8
      have h7 := s7.trans h8
      have h6 := s6.trans h7
      have h5 := s5.trans h6
      have h4 := s4.trans h5
      have h3 := s3.trans h4
      have h2 := s2.trans h3
      obtain ⟨o, sd, c, hpp, _⟩ := hp
      have p2 := s1 _ _ hpp
      have p3 := s2 _ _ p2
      have p4 := s3 _ _ p3
      have p5 := s4 _ _ p4
      have p6 := s5 _ _ p5
      have p7 := s6 _ _ p6
      have p8 := s7 _ _ p7
      refine k' _ _ ⟨l, _, rfl, (ne_of_none p8 n8).symm, s1.trans h2, upd_same, ?_⟩
      refine .cons .non (.cons (.bl _) (.cons (.bl _) (.cons (.int _) (.cons (.int _) (.cons (.str _) (.cons (.str _) (.cons (.str _) (.cons (.str _) (.cons (.str _)
        (.cons (.tup (SqT.of (off_at (h2 _ _ upd_same) (ne_of_none hpp n1).symm)) (.cons .non .nil))
        (.cons (.tup (SqT.of (off_at (h4 _ _ upd_same) (ne_of_none p3 n3).symm)) (.cons (.tup (SqT.of (off_at (h3 _ _ upd_same) (ne_of_none p2 n2).symm)) .nil) .nil))
        (.cons (.lst (SqL.of (off_at (h5 _ _ upd_same) (ne_of_none p4 n4).symm)) .nil)
        (.cons (.lst (SqL.of (off_at (h6 _ _ upd_same) (ne_of_none p5 n5).symm)) (.cons (.str _) .nil))
        (.cons (.dic (kvs := []) (off_at (h7 _ _ upd_same) (ne_of_none p6 n6).symm) rfl .nil)
        (.cons (.dic (kvs := [(.inr "a", .int 1)]) (off_at (h8 _ _ upd_same) (ne_of_none p7 n7).symm) rfl (.cons (.int _) .nil)) .nil)))))))))))))))
    · rintro _ H1 ⟨l, xs, rfl, nl, s1, hl, hd⟩
      have hlen : xs.length = 16 := dd_len hd
      refine ⟨_, rfl, _, rfl, p, .ref l, xs, B, rfl, hp.same s1, hB, .inl ⟨l, rfl, nl, SqL.of hl⟩, by omega, by omega, fun d v H2 hv b2 hp2 => ?_⟩
      obtain ⟨dd, hm, hdd⟩ := dd_get hd hv
      refine k v dd H2 ((But.of s1).trans b2) hp2 (hdd.same b2.off) hm
end
end Toy
set_option Elab.async false
set_option linter.all false
set_option maxRecDepth 100000
set_option maxHeartbeats 8000000
namespace Toy
open PySem L2 Q RZ D7
/-! ### bent parts -/
/-- what is bent: texts and whole numbers, tuples of them, tuples of those -/
def Wm : Nat → PyData → Prop
  | 0, d => (∃ z, d = .str z ∧ Low z ∧ z.length ≤ 8) ∨ ∃ x : Nat, d = .int (x : Int) ∧ x ≤ 99999999
  | m + 1, d => ∃ ds, d = .tuple ds ∧ ds.length ≤ 16 ∧ ∀ e ∈ ds, Wm m e
def ww : Nat → Nat
  | 0 => 110
  | m + 1 => 16 * (ww m + 2) + 2
def rr : Nat → Nat
  | 0 => 200
  | m + 1 => 33 * (rr m + 2) + 3
theorem ww_rr : ∀ m, 110 ≤ ww m ∧ ww m ≤ rr m
  | 0 => ⟨Nat.le_refl _, by decide⟩
  | m + 1 => by
    obtain ⟨h1, h2⟩ := ww_rr m
    unfold ww rr
    omega
theorem wm_rs : ∀ {m : Nat} {d : PyData}, Wm m d → Rs (ww m) (m + 3) d
  | 0, d, h => by
    rcases h with ⟨z, rfl, lo, l⟩ | ⟨x, rfl, l⟩
    · exact rs_tc ⟨by omega, fun c hc => by have := (lo c hc).2; omega⟩
    · exact (rs_nat (by omega)).mono (by unfold ww; omega) (Nat.le_refl _)
  | m + 1, d, h => by
    obtain ⟨ds, rfl, l, al⟩ := h
    exact rs_tuple (fun e he => wm_rs (al e he)) l
/-- data, whatever the pot -/
def OkV (K : PySem.W.Frag) (p : Addr) (R : PyData → Prop) (H : Hp) (v : V) : Prop := ∃ d, Dd K (off H p) v d ∧ R d
def OkA (K : PySem.W.Frag) (p : Addr) (R : PyData → Prop) (H : Hp) (xs : List V) : Prop := ∃ ds, DdAll K (off H p) xs ds ∧ ∀ d ∈ ds, R d
theorem off_mono {p : Addr} {H H' : Hp} (s : Same H H') : Same (off H p) (off H' p) := (But.of s).off
section
variable {K : PySem.W.Frag} {p : Addr} {R R' : PyData → Prop} {H H' H0 : Hp} {B : Nat}
theorem OkV.same {v : V} (h : OkV K p R H v) (s : Same H H') : OkV K p R H' v := let ⟨d, h1, h2⟩ := h; ⟨d, h1.same (off_mono s), h2⟩
theorem OkV.but {v : V} (h : OkV K p R H v) (s : But p H H') : OkV K p R H' v := let ⟨d, h1, h2⟩ := h; ⟨d, h1.same s.off, h2⟩
theorem OkV.imp {v : V} (h : OkV K p R H v) (f : ∀ d, R d → R' d) : OkV K p R' H v := let ⟨d, h1, h2⟩ := h; ⟨d, h1, f d h2⟩
theorem OkA.same {xs : List V} (h : OkA K p R H xs) (s : Same H H') : OkA K p R H' xs := let ⟨d, h1, h2⟩ := h; ⟨d, DdAll.same (off_mono s) h1, h2⟩
theorem OkA.nil : OkA K p R H [] := ⟨[], .nil, fun _ h => nomatch h⟩
theorem OkA.cons {v : V} {xs : List V} (h : OkV K p R H v) (t : OkA K p R H xs) : OkA K p R H (v :: xs) := by
  obtain ⟨d, h1, h2⟩ := h
  obtain ⟨ds, t1, t2⟩ := t
  exact ⟨d :: ds, .cons h1 t1, fun e he => by
    rcases List.mem_cons.mp he with rfl | he
    · exact h2
    · exact t2 e he⟩
theorem dd_app : ∀ {xs ys : List V} {ds es : List PyData}, DdAll K H xs ds → DdAll K H ys es → DdAll K H (xs ++ ys) (ds ++ es)
  | _, _, _, _, .nil, h => h
  | _, _, _, _, .cons a t, h => .cons a (dd_app t h)
theorem OkA.app {xs ys : List V} (h : OkA K p R H xs) (t : OkA K p R H ys) : OkA K p R H (xs ++ ys) := by
  obtain ⟨ds, h1, h2⟩ := h
  obtain ⟨es, t1, t2⟩ := t
  refine ⟨ds ++ es, dd_app h1 t1, fun e he => ?_⟩
  rcases List.mem_append.mp he with he | he
  · exact h2 e he
  · exact t2 e he
theorem OkA.get {xs : List V} (h : OkA K p R H xs) {i : Nat} {v : V} (e : xs[i]? = some v) : OkV K p R H v := by
  obtain ⟨ds, h1, h2⟩ := h
  obtain ⟨d, m, hd⟩ := dd_get h1 e
  exact ⟨d, hd, h2 d m⟩
theorem dd_drop : ∀ {xs : List V} {ds : List PyData} (i : Nat), DdAll K H xs ds → DdAll K H (xs.drop i) (ds.drop i)
  | _, _, 0, h => h
  | _, _, i + 1, .nil => .nil
  | _, _, i + 1, .cons _ t => dd_drop i t
theorem dd_take : ∀ {xs : List V} {ds : List PyData} (i : Nat), DdAll K H xs ds → DdAll K H (xs.take i) (ds.take i)
  | _, _, 0, _ => .nil
  | _, _, i + 1, .nil => .nil
  | _, _, i + 1, .cons a t => .cons a (dd_take i t)
theorem sqT_off {a : Addr} {xs : List V} (h : SqT K H a xs) (po : Pot H p B) : SqT K (off H p) a xs := by
  obtain ⟨o, s, c, hp, _⟩ := po
  rcases h with (h | ⟨ob, h⟩) | h
  · exact .inl (.inl (off_at h fun z => by rw [z, hp] at h; cases h))
  · exact .inl (.inr ⟨ob, off_at h fun z => by rw [z, hp] at h; cases h⟩)
  · exact .inr h
theorem pot_ne {a : Addr} (n : H a = none) (po : Pot H p B) : a ≠ p := fun z => by
  obtain ⟨o, s, c, hp, _⟩ := po
  rw [z, hp] at n
  cases n
/-- a tuple of at most n items -/
def Tp (K : PySem.W.Frag) (p : Addr) (R : PyData → Prop) (n : Nat) (H : Hp) (v : V) : Prop := ∃ a xs, v = .ref a ∧ SqT K H a xs ∧ OkA K p R H xs ∧ xs.length ≤ n
theorem Tp.same {n : Nat} {v : V} (h : Tp K p R n H v) (s : Same H H') : Tp K p R n H' v := let ⟨a, xs, e, h1, h2, h3⟩ := h; ⟨a, xs, e, SqT.same s h1, h2.same s, h3⟩
theorem Tp.but {n : Nat} {v : V} (h : Tp K p R n H v) (po : Pot H p B) (b : But p H H') : Tp K p R n H' v :=
  let ⟨a, xs, e, h1, ⟨ds, d1, d2⟩, h3⟩ := h; ⟨a, xs, e, SqT.same (off_same H' p) (SqT.same b.off (sqT_off h1 po)), ⟨ds, DdAll.same b.off d1, d2⟩, h3⟩
theorem OkA.but {xs : List V} (h : OkA K p R H xs) (b : But p H H') : OkA K p R H' xs := let ⟨d, h1, h2⟩ := h; ⟨d, DdAll.same b.off h1, h2⟩
theorem dd_rev : ∀ {xs : List V} {ds : List PyData}, DdAll K H xs ds → DdAll K H xs.reverse ds.reverse
  | _, _, .nil => .nil
  | _, _, .cons a t => by
    rw [List.reverse_cons, List.reverse_cons]
    exact dd_app (dd_rev t) (.cons a .nil)
theorem OkA.rev {xs : List V} (h : OkA K p R H xs) : OkA K p R H xs.reverse := let ⟨d, h1, h2⟩ := h; ⟨_, dd_rev h1, fun e he => h2 e (List.mem_reverse.mp he)⟩
theorem Tp.imp {n : Nat} {v : V} (h : Tp K p R n H v) (f : ∀ d, R d → R' d) : Tp K p R' n H v := let ⟨a, xs, e, h1, ⟨ds, d1, d2⟩, h3⟩ := h; ⟨a, xs, e, h1, ⟨ds, d1, fun d hd => f d (d2 d hd)⟩, h3⟩
theorem Tp.ok {n : Nat} {v : V} (h : Tp K p R n H v) (po : Pot H p B) (f : ∀ ds : List PyData, (∀ d ∈ ds, R d) → ds.length ≤ n → R' (.tuple ds)) : OkV K p R' H v := by
  obtain ⟨a, xs, rfl, h1, ⟨ds, d1, d2⟩, h3⟩ := h
  exact ⟨_, .tup (sqT_off h1 po) d1, f ds d2 (by rw [← dd_len d1]; exact h3)⟩
theorem OkA.cut {xs : List V} (h : OkA K p R H xs) (lo hi : Option Int) : OkA K p R H (cutV xs lo hi) := by
  obtain ⟨ds, d1, d2⟩ := h
  unfold cutV
  exact ⟨_, dd_take _ (dd_drop _ d1), fun d hd => d2 d (List.mem_of_mem_drop (List.mem_of_mem_take hd))⟩
theorem cut_len (xs : List V) (lo hi : Option Int) : (cutV xs lo hi).length ≤ xs.length := by
  unfold cutV
  rw [List.length_take, List.length_drop]
  omega
/-- t[lo:hi] -/
theorem Tp.slice {n : Nat} {v : V} {lo hi : Option Int} {Q : VK} (h : Tp K p R n H v) (q : ∀ u H', Same H H' → Tp K p R n H' u → Q u H') : rSlA K v lo hi H Q := by
  obtain ⟨a, xs, rfl, h1, h2, h3⟩ := h
  exact slA h1 fun t H' s ht => q _ H' s ⟨t, _, rfl, ht, (h2.cut lo hi).same s, Nat.le_trans (cut_len xs lo hi) h3⟩
/-- t + u -/
theorem Tp.cat {n m : Nat} {v u : V} {Q : VK} (h : Tp K p R n H v) (g : Tp K p R m H u) (l : n + m ≤ 1000) (q : ∀ t H', Same H H' → Tp K p R (n + m) H' t → Q t H') : rCatA K v u H Q := by
  obtain ⟨a, xs, rfl, h1, h2, h3⟩ := h
  obtain ⟨b, ys, rfl, g1, g2, g3⟩ := g
  refine ⟨a, b, xs, ys, rfl, rfl, h1, g1, by rw [sizeLine_eq]; omega, fun e => ?_, fun _ e => ?_, fun _ _ t nt => ?_⟩
  · exact q _ H (Same.refl H) ⟨b, ys, rfl, g1, g2, by omega⟩
  · exact q _ H (Same.refl H) ⟨a, xs, rfl, h1, h2, by omega⟩
  · have s := same_new (o := .tup (xs ++ ys)) nt
    exact q _ _ s ⟨t, _, rfl, SqT.of upd_same, (h2.app g2).same s, by rw [List.length_append]; omega⟩
/-- (x,) -/
theorem Tp.one {v : V} {Q : VK} (h : OkV K p R H v) (q : ∀ t H', Same H H' → Tp K p R 1 H' t → Q t H') : ∀ t, H t = none → Q (.ref t) (upd H t (.tup [v])) := fun t nt =>
  q _ _ (same_new nt) ⟨t, _, rfl, SqT.of upd_same, (OkA.cons h .nil).same (same_new nt), Nat.le_refl _⟩
theorem Tp.new {v : V} (h : OkV K p R H v) {t : Addr} (nt : H t = none) : Tp K p R 1 (upd H t (.tup [v])) (.ref t) :=
  ⟨t, _, rfl, SqT.of upd_same, (OkA.cons h .nil).same (same_new nt), Nat.le_refl _⟩
/-- a new list -/
theorem lst_ok {xs : List V} (h : OkA K p R H xs) {n : Nat} (l : xs.length ≤ n) (f : ∀ ds : List PyData, (∀ d ∈ ds, R d) → ds.length ≤ n → R' (.list ds)) {a : Addr} (na : H a = none) (po : Pot H p B) : OkV K p R' (upd H a (.lst xs)) (.ref a) := by
  obtain ⟨ds, d1, d2⟩ := h
  exact ⟨_, .lst (SqL.of (off_at upd_same (pot_ne na po))) (DdAll.same (off_mono (same_new na)) d1), f ds d2 (by rw [← dd_len d1]; exact l)⟩
/-- one more item of a list that is written out -/
theorem itemA {te : TE} {ta : TA} {σ : L2.St} {Q : List V → Hp → Prop} (h : ∀ Q' : VK, (∀ v H1, Same H H1 → OkV K p R H1 v → Q' v H1) → te σ H Q')
    (k : ∀ v H1, Same H H1 → OkV K p R H1 v → ta σ H1 fun ys H2 => Q (v :: ys) H2) : tCons te ta σ H Q := h _ fun v H1 s o => k v H1 s o
end
end Toy
set_option Elab.async false
set_option linter.all false
set_option maxRecDepth 100000
set_option maxHeartbeats 8000000
namespace Toy
open PySem L2 Q RZ D7
theorem tc_app {x y : Str} {n m : Nat} (h : x.length ≤ n ∧ ∀ c ∈ x.cps.toList, c < 128) (g : y.length ≤ m ∧ ∀ c ∈ y.cps.toList, c < 128) (l : n + m ≤ 10) : Tc (x ++ y) := by
  refine ⟨by rw [strLen_append]; omega, fun c hc => ?_⟩
  have e : (x ++ y).cps.toList = x.cps.toList ++ y.cps.toList := TL.tl_append x y
  rw [e] at hc
  rcases List.mem_append.mp hc with hc | hc
  · exact h.2 c hc
  · exact g.2 c hc
theorem tc_cut {x : Str} (h : Tc x) (lo hi : Option Int) : Tc (cutS x lo hi) := by
  have e : (cutS x lo hi).cps.toList = (x.cps.toList.drop (HT.sIx x.length 0 lo)).take (HT.sIx x.length x.length hi - HT.sIx x.length 0 lo) := by
    unfold cutS
    rw [List.toList_toArray]
  refine ⟨?_, fun c hc => ?_⟩
  · show (cutS x lo hi).cps.size ≤ 10
    rw [← Array.length_toList, e, List.length_take, List.length_drop, Array.length_toList]
    have : x.cps.size ≤ 10 := h.1
    omega
  · rw [e] at hc
    exact h.2 c (List.mem_of_mem_drop (List.mem_of_mem_take hc))
theorem tc_up {x : Str} (h : Tc x) : Tc (Txt.upper x) := by
  rw [PyProof.Rows.upper_ascii h.2]
  refine ⟨?_, fun c hc => ?_⟩
  · show (x.cps.map PyProof.Rows.up1).size ≤ 10
    rw [Array.size_map]
    exact h.1
  · have hc2 : c ∈ (x.cps.map PyProof.Rows.up1).toList := hc
    rw [Array.toList_map] at hc2
    obtain ⟨y, hy, rfl⟩ := List.mem_map.mp hc2
    have := h.2 y hy
    unfold PyProof.Rows.up1
    split <;> omega
theorem tc_int (x : Nat) (hx : x ≤ 99999999) : Tc (Str.ofString (toString (x : Int))) := by
  constructor
  · have e : (toString (x : Int) : String) = x.repr := rfl
    rw [e, PySem.ofString_length]
    exact Nat.le_trans ((Nat.length_repr_le_iff (k := 8) (by decide)).mpr (by omega)) (by decide)
  · intro c hc
    have hc : c ∈ TL.tl (Str.ofString (toString (x : Int))) := hc
    rw [TL.tl_num] at hc
    refine Decidable.byContradiction fun n => TL.numL_free (n := x) (s := c) (.inr (by omega)) hc
abbrev RR (m : Nat) (d : PyData) : Prop := Rs (rr m) (m + 4) d
/-- _law_bent_part(pot, value) -/
def spBP (K : PySem.W.Frag) (m : Nat) : Sp := fun vs H Q _ => ∃ (p : Addr) (v : V) (B : Nat), vs = [.ref p, v] ∧ Pot H p B ∧ B < 900000 ∧ OkV K p (Wm m) H v ∧
  ∀ v' H', But p H H' → Pot H' p (B + 3) → OkV K p (RR m) H' v' → Q v' H'
section
variable {P : Program} {w : World} {K : PySem.W.Frag} {mg : Str → Option Value} {base : Heap} {ca ia fa : Nat → Addr} {fd fi : Nat → FuncData}
theorem ok_bp (T : Txt w K mg ca ia fa fd fi) (m : Nat) : FnOk P w K mg base CX0 4 (fa 32) (fd 32) ["_law_pot_here", "_law_value"] (spBP K m) := by
  have G_l_take := ok_take (P := P) (w := w) (base := base) T
  have G_l_of := ok_of (P := P) (w := w) (base := base) T
  have G_l_odd := ok_odd (P := P) (w := w) (base := base) T
  refine T.F_l_bent_part.ok sc_l_bent_part (fun vs H Q E h => ?_) (fun cdv A outer s H vs Q E hr h => ?_)
  · obtain ⟨p, v, B, rfl, _⟩ := h
    rfl
  · obtain ⟨p, v, B, rfl, hp, hB, ⟨d, hd, hm⟩, k⟩ := h
    refine ⟨_, (pss_cons (ps_if (pt_val (pe_callB call_isA (by rfl) T.n_isinstance (by decide +kernel) (pa_cons (pv 1) (pa_cons (pe_bltn (v := .ty "tuple") (by rfl) T.n_tuple (by decide +kernel) rfl) pa_nil)))) (pss_cons (ps_set (i := 2) sc_l_bent_part.nd rfl (Or.inl rfl) (pe_call G_l_take (hr.mono (by decide)) rfl T.g_l_take T.k_l_take T.b_l_take .nil pass0 (pa_cons (pv 0) (pa_cons (pe_op op_add (pe_callB call_len (by rfl) T.n_len (by decide +kernel) (pa_cons (pv 1) pa_nil)) pe_int) pa_nil))))
      (pss_cons (ps_set (i := 3) sc_l_bent_part.nd rfl (Or.inl rfl) (pe_lst (pa_cons (pe_callTy call_list_of (by rfl) T.n_list (by decide +kernel) (pa_cons (pv 1) pa_nil)) (pa_cons (pe_op op_catA (pe_slice (SlR.or sl_tupA sl_str) (pv 1) po_none (po_some (pv 2))) (pe_slice (SlR.or sl_tupA sl_str) (pv 1) (po_some (pe_op op_add (pv 2) pe_int)) po_none)) (pa_cons (pe_op op_catA (pe_slice (SlR.or sl_tupA sl_str) (pv 1) po_none (po_some (pv 2))) (pe_slice (SlR.or sl_tupA sl_str) (pv 1) (po_some (pe_op op_sub (pv 2) pe_int)) po_none)) (pa_cons (pe_revT (pv 1)) (pa_cons (pe_op op_catA (pv 1) (pe_tup (pa_cons pe_int pa_nil))) pa_nil)))))))
      (pss_one (ps_ret (pe_call G_l_of (hr.mono (by decide)) rfl T.g_l_of T.k_l_of T.b_l_of .nil pass0 (pa_cons (pv 0) (pa_cons (pe_op op_cat (pv 3) (pe_lst (pa_cons pe_non (pa_cons (pe_tup (pa_cons (pv 1) pa_nil)) (pa_cons (pe_slice (SlR.or sl_tupA sl_str) (pv 1) po_none (po_some (pv 2))) (pa_cons (pe_op op_catA (pe_op op_catA (pe_slice (SlR.or sl_tupA sl_str) (pv 1) po_none (po_some (pv 2))) (pe_tup (pa_cons (pe_call G_l_odd (hr.mono (by decide)) rfl T.g_l_odd T.k_l_odd T.b_l_odd .nil pass0 (pa_cons (pv 0) pa_nil)) pa_nil))) (pe_slice (SlR.or sl_tupA sl_str) (pv 1) (po_some (pv 2)) po_none)) pa_nil)))))) pa_nil))))))) pss_nil)
      (pss_cons (ps_if (PW.pt (pw_or (pt_val (pe_callB call_isA (by rfl) T.n_isinstance (by decide +kernel) (pa_cons (pv 1) (pa_cons (pe_bltn (v := .ty "bool") (by rfl) T.n_bool (by decide +kernel) rfl) pa_nil)))) (pw_or1 (pt_not (pt_val (pe_callB call_isiT (by rfl) T.n_isinstance (by decide +kernel) (pa_cons (pv 1) (pa_cons (pe_tup (pa_cons (pe_bltn (v := .ty "int") (by rfl) T.n_int (by decide +kernel) rfl) (pa_cons (pe_bltn (v := .ty "str") (by rfl) T.n_str (by decide +kernel) rfl) pa_nil))) pa_nil)))))))) (pss_one (ps_ret (pe_call G_l_odd (hr.mono (by decide)) rfl T.g_l_odd T.k_l_odd T.b_l_odd .nil pass0 (pa_cons (pv 0) pa_nil)))) pss_nil)
      (pss_cons (ps_if (pt_val (pe_callB call_isA (by rfl) T.n_isinstance (by decide +kernel) (pa_cons (pv 1) (pa_cons (pe_bltn (v := .ty "int") (by rfl) T.n_int (by decide +kernel) rfl) pa_nil)))) (pss_one (ps_ret (pe_call G_l_of (hr.mono (by decide)) rfl T.g_l_of T.k_l_of T.b_l_of .nil pass0 (pa_cons (pv 0) (pa_cons (pe_lst (pa_cons (pe_op op_add (pv 1) pe_int) (pa_cons (pe_op op_sub (pv 1) pe_int) (pa_cons (pe_un un_neg (pv 1)) (pa_cons (pe_cmpR op_eq (pv 1) pe_int (nomark _)) (pa_cons (pe_callTy call_str_int (by rfl) T.n_str (by decide +kernel) (pa_cons (pv 1) pa_nil)) (pa_cons (pe_tup (pa_cons (pv 1) pa_nil)) (pa_cons pe_non (pa_cons pe_int (pa_cons (pe_op op_pw pe_int pe_int) pa_nil)))))))))) pa_nil))))) pss_nil)
      (pss_one (ps_ret (pe_call G_l_of (hr.mono (by decide)) rfl T.g_l_of T.k_l_of T.b_l_of .nil pass0 (pa_cons (pv 0) (pa_cons (pe_lst (pa_cons (pe_op op_add_str (pv 1) pe_str) (pa_cons (pe_slice (SlR.or sl_tupA sl_str) (pv 1) po_none (po_some (pe_un un_neg pe_int))) (pa_cons (pe_slice (SlR.or sl_tupA sl_str) (pv 1) (po_some pe_int) po_none) (pa_cons (pe_upper (pv 1)) (pa_cons (pe_tup (pa_cons (pv 1) pa_nil)) (pa_cons (pe_lst (pa_cons (pv 1) pa_nil)) (pa_cons pe_non (pa_cons (pe_op op_add_str pe_str (pv 1)) pa_nil))))))))) pa_nil)))))))), ?_⟩
    have hd2 := hd.same (off_same H p)
    obtain ⟨t, ty, e1, e2, e3, e4⟩ := hd2.kits
    refine ⟨_, rfl, .inl ⟨_, _, _, _, _, rfl, .ty _, ty, e4, _, rfl, ?_⟩⟩
    cases m with
    | zero =>
      have sq : sizeLine = 16777216 := sizeLine_eq
      rcases hm with ⟨z, rfl, lo, l8⟩ | ⟨x, rfl, x90⟩
      · cases hd
        refine iteB2 rfl (nxt ?_)
        refine ⟨_, rfl, .inl ⟨_, _, _, _, _, rfl, .ty _, ty, e2, _, rfl, iteB2 rfl ?_⟩⟩
        refine ⟨_, rfl, by show 2 ≤ sizeLine; decide, fun tp ntp => ⟨_, tp, _, .type "str", _, true, rfl, upd_same, .cons (.ty _) (.cons (.ty _) .nil), .base (.str z), rfl, _, rfl, iteB2 rfl (nxt ?_)⟩⟩
        have s1 := same_new (o := .tup [.ty "int", .ty "str"]) ntp
        have p1 := hp.same s1
        generalize upd H tp (.tup [.ty "int", .ty "str"]) = H1 at s1 p1 ⊢
        refine ⟨_, rfl, .inl ⟨_, _, _, _, _, rfl, .ty _, .base (.str z), rfl, _, rfl, iteB2 rfl (nxt ?_)⟩⟩
        have tz : Tc z := ⟨by omega, fun c hc => by have := (lo c hc).2; omega⟩
        have tz8 : z.length ≤ 8 ∧ ∀ c ∈ z.cps.toList, c < 128 := ⟨l8, tz.2⟩
        have tx : ("x" : Str).length ≤ 1 ∧ ∀ c ∈ ("x" : Str).cps.toList, c < 128 := by decide +kernel
        have ok : ∀ {G : Hp} {y : Str}, Tc y → OkV K p (RR 0) G (.str y) := fun {G y} h => ⟨_, .str y, (rs_tc h).mono (by decide) (by decide)⟩
        have okz : ∀ {G : Hp}, OkV K p (fun d => Rs 110 3 d) G (.str z) := fun {G} => ⟨_, .str z, rs_tc tz⟩
        refine ⟨_, rfl, ?_⟩
        refine lst0 ?_
        refine itemA (K := K) (p := p) (R := RR 0) (fun Q' q => ⟨_, rfl, z, _, rfl, rfl, by show z.length + 1 ≤ sizeLine; omega, q _ _ (Same.refl _) (ok (tc_app tz8 tx (by decide)))⟩) fun v1 G1 s2 o1 => ?_
        refine itemA (K := K) (p := p) (R := RR 0) (fun Q' q => ⟨_, rfl, 1, rfl, _, rfl, .inr ⟨z, rfl, by omega, q _ _ (Same.refl _) (ok (tc_cut tz _ _))⟩⟩) fun v2 G2 s3 o2 => ?_
        refine itemA (K := K) (p := p) (R := RR 0) (fun Q' q => ⟨_, rfl, _, rfl, .inr ⟨z, rfl, by omega, q _ _ (Same.refl _) (ok (tc_cut tz _ _))⟩⟩) fun v3 G3 s4 o3 => ?_
        refine itemA (K := K) (p := p) (R := RR 0) (fun Q' q => ⟨_, rfl, ⟨z, rfl⟩, z, rfl, rfl, by omega, q _ _ (Same.refl _) (ok (tc_up tz))⟩) fun v4 G4 s5 o4 => ?_
        have p4 := (((p1.same s2).same s3).same s4).same s5
        refine itemA (K := K) (p := p) (R := RR 0) (fun Q' q => ⟨_, rfl, by show 1 ≤ sizeLine; decide, fun t nt => q _ _ (same_new nt) ((Tp.new okz nt).ok (p4.same (same_new nt)) fun es h l => (rs_tuple h l).mono (by decide) (by decide))⟩) fun v5 G5 s6 o5 => ?_
        have p5 := p4.same s6
        refine itemA (K := K) (p := p) (R := RR 0) (fun Q' q => ⟨_, rfl, by show 1 ≤ sizeLine; decide, fun t nt => q _ _ (same_new nt) (lst_ok (OkA.cons okz .nil) (Nat.le_refl 1) (fun es h l => (rs_list h l).mono (by decide) (by decide)) nt p5)⟩) fun v6 G6 s7 o6 => ?_
        refine itemA (K := K) (p := p) (R := RR 0) (fun Q' q => q _ _ (Same.refl _) ⟨_, .non, rs_non.mono (by decide) (by decide)⟩) fun v7 G7 s8 o7 => ?_
        refine itemA (K := K) (p := p) (R := RR 0) (fun Q' q => ⟨_, rfl, _, z, rfl, rfl, by show 1 + z.length ≤ sizeLine; omega, q _ _ (Same.refl _) (ok (tc_app tx tz8 (by decide)))⟩) fun v8 G8 s9 o8 => ?_
        have p8 := ((p5.same s7).same s8).same s9
        refine ⟨by show 8 ≤ sizeLine; decide, fun l nl => ?_⟩
        have s10 := same_new (o := .lst [v1, v2, v3, v4, v5, v6, v7, v8]) nl
        have all : OkA K p (RR 0) G8 [v1, v2, v3, v4, v5, v6, v7, v8] := .cons (((((((o1.same s3).same s4).same s5).same s6).same s7).same s8).same s9) (.cons ((((((o2.same s4).same s5).same s6).same s7).same s8).same s9) (.cons (((((o3.same s5).same s6).same s7).same s8).same s9)
          (.cons ((((o4.same s6).same s7).same s8).same s9) (.cons (((o5.same s7).same s8).same s9) (.cons ((o6.same s8).same s9) (.cons (o7.same s9) (.cons o8 .nil)))))))
        refine ⟨p, _, [v1, v2, v3, v4, v5, v6, v7, v8], B, rfl, p8.same s10, by omega, .inl ⟨l, rfl, pot_ne nl p8, SqL.of upd_same⟩, by show 0 < 8; decide, by show 8 < 1073741824; decide, fun i v H' e b9 p9 => ?_⟩
        have ss := ((((((((s1.trans s2).trans s3).trans s4).trans s5).trans s6).trans s7).trans s8).trans s9).trans s10
        exact k v H' ((But.of ss).trans b9) (p9.mono (by omega)) (((all.same s10).but b9).get e)
      · cases hd
        refine iteB2 rfl (nxt ?_)
        refine ⟨_, rfl, .inl ⟨_, _, _, _, _, rfl, .ty _, ty, e2, _, rfl, iteB2 rfl ?_⟩⟩
        refine ⟨_, rfl, by show 2 ≤ sizeLine; decide, fun tp ntp => ⟨_, tp, _, .type "int", _, true, rfl, upd_same, .cons (.ty _) (.cons (.ty _) .nil), .base (.int _), rfl, _, rfl, iteB2 rfl (nxt ?_)⟩⟩
        have s1 := same_new (o := .tup [.ty "int", .ty "str"]) ntp
        have p1 := hp.same s1
        generalize upd H tp (.tup [.ty "int", .ty "str"]) = H1 at s1 p1 ⊢
        refine ⟨_, rfl, .inl ⟨_, _, _, _, _, rfl, .ty _, .base (.int _), rfl, _, rfl, iteB rfl ?_⟩⟩
        have okn : ∀ {G : Hp} {n : Nat} {i : Int}, i = (n : Int) → n < 1000000000 → OkV K p (RR 0) G (.int i) := fun {G n i} e h => ⟨_, .int _, by rw [e]; exact (rs_nat h).mono (by decide) (by decide)⟩
        have oki : ∀ {G : Hp} {i : Int}, i.natAbs < 1000000000 → OkV K p (RR 0) G (.int i) := fun {G i} h => ⟨_, .int _, (rs_int h).mono (by decide) (by decide)⟩
        have okx : ∀ {G : Hp}, OkV K p (fun d => Rs 20 3 d) G (.int (x : Int)) := fun {G} => ⟨_, .int _, rs_nat (by omega)⟩
        refine ⟨_, rfl, ?_⟩
        refine lst0 ?_
        refine itemA (K := K) (p := p) (R := RR 0) (fun Q' q => ⟨_, rfl, _, _, rfl, rfl, q _ _ (Same.refl _) (okn (n := x + 1) rfl (by omega))⟩) fun v1 G1 s2 o1 => ?_
        refine itemA (K := K) (p := p) (R := RR 0) (fun Q' q => ⟨_, rfl, _, _, rfl, rfl, q _ _ (Same.refl _) (oki (by omega))⟩) fun v2 G2 s3 o2 => ?_
        refine itemA (K := K) (p := p) (R := RR 0) (fun Q' q => ⟨_, rfl, _, rfl, q _ _ (Same.refl _) (oki (by omega))⟩) fun v3 G3 s4 o3 => ?_
        refine itemA (K := K) (p := p) (R := RR 0) (fun Q' q => ⟨_, rfl, rfl, q _ _ (Same.refl _) ⟨_, .bl _, (rs_bool _).mono (by decide) (by decide)⟩⟩) fun v4 G4 s5 o4 => ?_
        refine itemA (K := K) (p := p) (R := RR 0) (fun Q' q => ⟨_, rfl, _, rfl, ?_, q _ _ (Same.refl _) ⟨_, .str _, (rs_tc (tc_int x x90)).mono (by decide) (by decide)⟩⟩) fun v5 G5 s6 o5 => ?_
        · rw [Int.natAbs_natCast]
          by_cases z0 : x = 0
          · rw [z0]
            decide
          · exact (Nat.log2_lt z0).mpr (Nat.lt_of_le_of_lt x90 (by decide +kernel))
        have p5 := ((((p1.same s2).same s3).same s4).same s5).same s6
        refine itemA (K := K) (p := p) (R := RR 0) (fun Q' q => ⟨_, rfl, by show 1 ≤ sizeLine; decide, fun t nt => q _ _ (same_new nt) ((Tp.new okx nt).ok (p5.same (same_new nt)) fun es h l => (rs_tuple h l).mono (by decide) (by decide))⟩) fun v6 G6 s7 o6 => ?_
        refine itemA (K := K) (p := p) (R := RR 0) (fun Q' q => q _ _ (Same.refl _) ⟨_, .non, rs_non.mono (by decide) (by decide)⟩) fun v7 G7 s8 o7 => ?_
        refine itemA (K := K) (p := p) (R := RR 0) (fun Q' q => q _ _ (Same.refl _) (okn (n := 0) rfl (by decide))) fun v8 G8 s9 o8 => ?_
        refine itemA (K := K) (p := p) (R := RR 0) (fun Q' q => ⟨_, _, rfl, rfl, ?_, q _ _ (Same.refl _) (okn (n := 100000000) (by decide) (by decide))⟩) fun v9 G9 s10 o9 => ?_
        · exact ⟨by decide, 4, by decide, by decide⟩
        have p9 := (((p5.same s7).same s8).same s9).same s10
        refine ⟨by show 9 ≤ sizeLine; decide, fun l nl => ?_⟩
        have s11 := same_new (o := .lst [v1, v2, v3, v4, v5, v6, v7, v8, v9]) nl
        have all : OkA K p (RR 0) G9 [v1, v2, v3, v4, v5, v6, v7, v8, v9] := .cons ((((((((o1.same s3).same s4).same s5).same s6).same s7).same s8).same s9).same s10) (.cons (((((((o2.same s4).same s5).same s6).same s7).same s8).same s9).same s10) (.cons ((((((o3.same s5).same s6).same s7).same s8).same s9).same s10)
          (.cons (((((o4.same s6).same s7).same s8).same s9).same s10) (.cons ((((o5.same s7).same s8).same s9).same s10) (.cons (((o6.same s8).same s9).same s10) (.cons ((o7.same s9).same s10) (.cons (o8.same s10) (.cons o9 .nil))))))))
        refine ⟨p, _, [v1, v2, v3, v4, v5, v6, v7, v8, v9], B, rfl, p9.same s11, by omega, .inl ⟨l, rfl, pot_ne nl p9, SqL.of upd_same⟩, by show 0 < 9; decide, by show 9 < 1073741824; decide, fun i v H' e b9 q9 => ?_⟩
        have ss := (((((((((s1.trans s2).trans s3).trans s4).trans s5).trans s6).trans s7).trans s8).trans s9).trans s10).trans s11
        exact k v H' ((But.of ss).trans b9) (q9.mono (by omega)) (((all.same s11).but b9).get e)
    | succ m =>
      obtain ⟨ds, rfl, l16, al⟩ := hm
      refine iteB rfl ?_
      cases hd with
      | tup hx ha =>
      rename_i a xs
      have lx := dd_len ha
      obtain ⟨w1, w2⟩ := ww_rr m
      -- what its items are
      have X : Tp K p (Rs (ww m) (m + 3)) 16 H (.ref a) := ⟨a, xs, rfl, SqT.same (off_same H p) hx, ⟨ds, ha, fun d hd => wm_rs (al d hd)⟩, by omega⟩
      have fT : ∀ es : List PyData, (∀ d ∈ es, Rs (ww m) (m + 3) d) → es.length ≤ 33 → RR (m + 1) (.tuple es) := fun es h l => (rs_tuple h l).mono (by show _ ≤ 33 * (rr m + 2) + 3; omega) (by omega)
      have fL : ∀ es : List PyData, (∀ d ∈ es, Rs (ww m) (m + 3) d) → es.length ≤ 16 → RR (m + 1) (.list es) := fun es h l => (rs_list h l).mono (by show _ ≤ 33 * (rr m + 2) + 3; omega) (by omega)
      have fO : ∀ es : List PyData, (∀ d ∈ es, Rs (ww (m + 1)) (m + 4) d) → es.length ≤ 1 → RR (m + 1) (.tuple es) := fun es h l => (rs_tuple h l).mono (by show 1 * (16 * (ww m + 2) + 2 + 2) + 2 ≤ 33 * (rr m + 2) + 3; omega) (by omega)
      have f16 : ∀ es : List PyData, (∀ d ∈ es, Rs (ww m) (m + 3) d) → es.length ≤ 16 → Rs (ww (m + 1)) (m + 4) (.tuple es) := fun es h l => rs_tuple h l
      have small : ∀ {n : Nat} {d : PyData}, n ≤ 110 → Rs n 3 d → Rs (ww m) (m + 3) d := fun l h => h.mono (by omega) (by omega)
      refine seqS (fun v H' => ∃ n : Nat, v = .int (n : Int) ∧ But p H H' ∧ Pot H' p (B + 1)) (fun Q k' => ?_) ?_
      · exact ⟨_, rfl, _, rfl, _, _, rfl, .inr ⟨_, SqT.same (off_same H p) hx, rfl⟩, _, _, rfl, rfl, p, xs.length + 1, B, rfl, hp, by omega, by omega, by omega, fun n H1 hn b1 p1 => k' _ _ ⟨n, rfl, b1, p1⟩⟩
      rintro _ H1 ⟨n, rfl, b1, p1⟩
      have X1 := X.but hp b1
      refine seqS (fun v H' => ∃ (l : Addr) (ys : List V), v = .ref l ∧ H' l = some (.lst ys) ∧ l ≠ p ∧ OkA K p (RR (m + 1)) H' ys ∧ ys.length = 5 ∧ Same H1 H') (fun Q k' => ?_) ?_
      · refine lst0 ?_
        refine itemA (K := K) (p := p) (R := RR (m + 1)) (fun Q' q => ?_) fun v1 G1 s1 o1 => ?_
        · obtain ⟨a', ys, e, h1, h2, h3⟩ := X1
          cases e
          exact ⟨_, rfl, _, _, rfl, .inr h1, fun l nl => q _ _ (same_new nl) (lst_ok h2 h3 fL nl p1)⟩
        have X2 := X1.same s1
        have q1 := p1.same s1
        refine itemA (K := K) (p := p) (R := RR (m + 1)) (fun Q' q => ?_) fun v2 G2 s2 o2 => ?_
        · refine ⟨_, rfl, _, rfl, _, rfl, .inl (X2.slice fun u J1 j1 y1 => ⟨_, rfl, _, rfl, _, _, rfl, rfl, _, rfl, .inl ((X2.same j1).slice fun u2 J2 j2 y2 => ?_)⟩)⟩
          exact (y1.same j2).cat y2 (by decide) fun t J3 j3 y3 => q _ _ ((j1.trans j2).trans j3) (y3.ok (((q1.same j1).same j2).same j3) fun es h l => fT es h (by omega))
        have X3 := X2.same s2
        have q2 := q1.same s2
        refine itemA (K := K) (p := p) (R := RR (m + 1)) (fun Q' q => ?_) fun v3 G3 s3 o3 => ?_
        · refine ⟨_, rfl, _, rfl, _, rfl, .inl (X3.slice fun u J1 j1 y1 => ⟨_, rfl, _, rfl, _, _, rfl, rfl, _, rfl, .inl ((X3.same j1).slice fun u2 J2 j2 y2 => ?_)⟩)⟩
          exact (y1.same j2).cat y2 (by decide) fun t J3 j3 y3 => q _ _ ((j1.trans j2).trans j3) (y3.ok (((q2.same j1).same j2).same j3) fun es h l => fT es h (by omega))
        have X4 := X3.same s3
        have q3 := q2.same s3
        refine itemA (K := K) (p := p) (R := RR (m + 1)) (fun Q' q => ?_) fun v4 G4 s4 o4 => ?_
        · obtain ⟨a', ys, e, h1, h2, h3⟩ := X4
          cases e
          refine ⟨_, rfl, _, ys, rfl, h1, fun t nt => q _ _ (same_new nt) ?_⟩
          have y : Tp K p (Rs (ww m) (m + 3)) 16 (upd G3 t (.tup ys.reverse)) (.ref t) := ⟨t, _, rfl, SqT.of upd_same, h2.rev.same (same_new nt), by rw [List.length_reverse]; exact h3⟩
          exact y.ok (q3.same (same_new nt)) fun es h l => fT es h (by omega)
        have X5 := X4.same s4
        have q4 := q3.same s4
        refine itemA (K := K) (p := p) (R := RR (m + 1)) (fun Q' q => ?_) fun v5 G5 s5 o5 => ?_
        · refine ⟨_, rfl, by show 1 ≤ sizeLine; decide, fun t nt => ?_⟩
          have y1 := Tp.new (K := K) (p := p) (H := G4) (R := Rs (ww m) (m + 3)) (v := .int 0) ⟨_, .int 0, small (by decide) (rs_nat (n := 0) (by decide))⟩ nt
          have j1 := same_new (o := .tup [V.int 0]) nt
          exact (X5.same j1).cat y1 (by decide) fun t J2 j2 y2 => q _ _ (j1.trans j2) (y2.ok ((q4.same j1).same j2) fun es h l => fT es h (by omega))
        refine ⟨by show 5 ≤ sizeLine; decide, fun l nl => ?_⟩
        have s6 := same_new (o := .lst [v1, v2, v3, v4, v5]) nl
        refine k' _ _ ⟨l, _, rfl, upd_same, pot_ne nl (q4.same s5), ?_, rfl, (((((s1.trans s2).trans s3).trans s4).trans s5).trans s6)⟩
        exact (OkA.cons ((((o1.same s2).same s3).same s4).same s5) (.cons (((o2.same s3).same s4).same s5) (.cons ((o3.same s4).same s5) (.cons (o4.same s5) (.cons o5 .nil))))).same s6
      rintro _ H2 ⟨l, ys, rfl, hl, nl, oy, l5, s2⟩
      have X2 := X1.same s2
      have p2 := p1.same s2
      refine ⟨_, rfl, _, rfl, ?_⟩
      refine lst0 ?_
      refine itemA (K := K) (p := p) (R := RR (m + 1)) (fun Q' q => q _ _ (Same.refl _) ⟨_, .non, rs_non.mono (by show 20 ≤ 33 * (rr m + 2) + 3; omega) (by omega)⟩) fun v1 G1 s3 o1 => ?_
      have X3 := X2.same s3
      have q3 := p2.same s3
      refine itemA (K := K) (p := p) (R := RR (m + 1)) (fun Q' q => ?_) fun v2 G2 s4 o2 => ?_
      · exact ⟨_, rfl, by show 1 ≤ sizeLine; decide, Tp.one (K := K) (p := p) (R := Rs (ww (m + 1)) (m + 4)) (X3.ok q3 f16) fun t J1 j1 y1 => q _ _ j1 (y1.ok (q3.same j1) fO)⟩
      have X4 := X3.same s4
      have q4 := q3.same s4
      refine itemA (K := K) (p := p) (R := RR (m + 1)) (fun Q' q => ?_) fun v3 G3 s5 o3 => ?_
      · exact ⟨_, rfl, _, rfl, _, rfl, .inl (X4.slice fun u J1 j1 y1 => q _ _ j1 (y1.ok (q4.same j1) fun es h l => fT es h (by omega)))⟩
      have X5 := X4.same s5
      have q5 := q4.same s5
      have oy5 := ((oy.same s3).same s4).same s5
      have hl5 := s5 _ _ (s4 _ _ (s3 _ _ hl))
      have o15 := (o1.same s4).same s5
      have o25 := o2.same s5
      refine cons0 ?_
      refine ⟨_, rfl, _, rfl, _, rfl, .inl (X5.slice fun u J1 j1 y1 => ?_)⟩
      refine ⟨_, rfl, p, B + 1, rfl, q5.same j1, by omega, fun vo dd J2 b2 r2 ddo mo => ?_⟩
      have y2 := y1.but (q5.same j1) b2
      refine ⟨by show 1 ≤ sizeLine; decide, fun t nt => ?_⟩
      have y3 := Tp.new (K := K) (p := p) (H := J2) (R := Rs (ww m) (m + 3)) (v := vo) ⟨_, ddo, small (by decide) (rs_odd _ mo)⟩ nt
      have j3 := same_new (o := .tup [vo]) nt
      generalize upd J2 t (.tup [vo]) = J3 at y3 j3 ⊢
      refine (y2.same j3).cat y3 (by decide) fun t2 J4 j4 y4 => ?_
      have b4 : But p G3 J4 := (But.of j1).trans (b2.trans (But.of (j3.trans j4)))
      have X6 := X5.but q5 b4
      refine ⟨_, rfl, _, rfl, _, rfl, .inl (X6.slice fun u2 J5 j5 y5 => ?_)⟩
      refine (y4.same j5).cat y5 (by decide) fun t3 J6 j6 y6 => ?_
      have r6 : Pot J6 p (B + 2) := ((r2.same (j3.trans j4)).same j5).same j6
      have b6 : But p G3 J6 := b4.trans (But.of (j5.trans j6))
      have o4 := y6.ok r6 fun es h l => fT es h (by omega)
      refine ⟨by show 4 ≤ sizeLine; decide, fun l4 nl4 => ?_⟩
      have s7 := same_new (o := .lst [v1, v2, v3, t3]) nl4
      have hl6 := b6 _ _ nl hl5
      refine ⟨l, l4, ys, _, rfl, rfl, s7 _ _ hl6, upd_same, by rw [l5]; show 9 ≤ sizeLine; decide, fun l9 nl9 => ?_⟩
      have s8 := same_new (o := .lst (ys ++ [v1, v2, v3, t3])) nl9
      have all : OkA K p (RR (m + 1)) J6 (ys ++ [v1, v2, v3, t3]) := (oy5.but b6).app (.cons (o15.but b6) (.cons (o25.but b6) (.cons (o3.but b6) (.cons o4 .nil))))
      have bb : But p H J6 := (b1.trans (But.of (((s2.trans s3).trans s4).trans s5))).trans b6
      refine ⟨p, _, ys ++ [v1, v2, v3, t3], B + 2, rfl, (r6.same s7).same s8, by omega, .inl ⟨l9, rfl, pot_ne nl9 (r6.same s7), SqL.of upd_same⟩, ?_, ?_, fun i v H' e b9 p9 => ?_⟩
      · rw [List.length_append, l5]; show 0 < 9; decide
      · rw [List.length_append, l5]; show 9 < 1073741824; decide
      · exact k v H' ((bb.trans (But.of (s7.trans s8))).trans b9) p9 (((all.same (s7.trans s8)).but b9).get e)
end
end Toy
set_option Elab.async false
set_option linter.all false
set_option maxRecDepth 100000
set_option maxHeartbeats 8000000
namespace Toy
open PySem L2 Q RZ D7
/-- _law_bent(pot, value, deep) -/
def spBent (K : PySem.W.Frag) (m : Nat) : Sp := fun vs H Q _ => ∃ (p : Addr) (v : V) (B : Nat), vs = [.ref p, v, .int (m : Int)] ∧ Pot H p B ∧ B + 2 * m < 800000 ∧ m ≤ 10 ∧ OkV K p (Wm m) H v ∧
  ∀ v' H', But p H H' → Pot H' p (B + 4 + 2 * m) → OkV K p (RR m) H' v' → Q v' H'
/-- what it calls within itself -/
def spPrev (K : PySem.W.Frag) : Nat → Sp
  | 0 => fun _ _ _ _ => False
  | m + 1 => spBent K m
section
variable {P : Program} {w : World} {K : PySem.W.Frag} {mg : Str → Option Value} {base : Heap} {ca ia fa : Nat → Addr} {fd fi : Nat → FuncData}
theorem bent_core (T : Txt w K mg ca ia fa fd fi) (m : Nat) (G_l_bent : FnOk P w K mg base CX0 (m + 4) (fa 33) (fd 33) ["_law_pot_here", "_law_value", "_law_deep"] (spPrev K m)) :
    FnOk P w K mg base CX0 (m + 5) (fa 33) (fd 33) ["_law_pot_here", "_law_value", "_law_deep"] (spBent K m) := by
  have G_l_take := ok_take (P := P) (w := w) (base := base) T
  have G_l_bent_part := ok_bp (P := P) (w := w) (base := base) T m
  refine T.F_l_bent.ok sc_l_bent (fun vs H Q E h => ?_) (fun cdv A outer s H vs Q E hr h => ?_)
  · obtain ⟨p, v, B, rfl, _⟩ := h
    rfl
  · obtain ⟨p, v, B, rfl, hp, hB, m10, ⟨d, hd, hm⟩, k⟩ := h
    refine ⟨_, (pss_cons (ps_if (PW.pt (pw_and (pt_val (pe_callB call_isA (by rfl) T.n_isinstance (by decide +kernel) (pa_cons (pv 1) (pa_cons (pe_bltn (v := .ty "tuple") (by rfl) T.n_tuple (by decide +kernel) rfl) pa_nil)))) (pw_and (pt_cmpR (op_neNilT (roomU1 hr)) (pv 1) (pe_tup pa_nil) (nomark _)) (pw_and (pt_cmpR op_gt (pv 2) pe_int (nomark _)) (pw_and1 (pt_cmpR op_gt (pe_call G_l_take (hr.mono (by omega)) rfl T.g_l_take T.k_l_take T.b_l_take .nil pass0 (pa_cons (pv 0) (pa_cons pe_int pa_nil))) pe_int (nomark _))))))) (pss_cons (ps_set (i := 3) sc_l_bent.nd rfl (Or.inl rfl) (pe_call G_l_take (hr.mono (by omega)) rfl T.g_l_take T.k_l_take T.b_l_take .nil pass0 (pa_cons (pv 0) (pa_cons (pe_callB call_len (by rfl) T.n_len (by decide +kernel) (pa_cons (pv 1) pa_nil)) pa_nil))))
      (pss_one (ps_ret (pe_op op_catA (pe_op op_catA (pe_slice (SlR.or sl_tupA sl_str) (pv 1) po_none (po_some (pv 3))) (pe_tup (pa_cons (pe_call G_l_bent (hr.mono (by omega)) rfl T.g_l_bent T.k_l_bent T.b_l_bent .nil pass0 (pa_cons (pv 0) (pa_cons (pe_ix ix_seq (pv 1) (pv 3) (fun _ _ => rfl)) (pa_cons (pe_op op_sub (pv 2) pe_int) pa_nil)))) pa_nil))) (pe_slice (SlR.or sl_tupA sl_str) (pv 1) (po_some (pe_op op_add (pv 3) pe_int)) po_none))))) pss_nil)
      (pss_one (ps_ret (pe_call G_l_bent_part (hr.mono (by omega)) rfl T.g_l_bent_part T.k_l_bent_part T.b_l_bent_part .nil pass0 (pa_cons (pv 0) (pa_cons (pv 1) pa_nil)))))), ?_⟩
    have hd2 := hd.same (off_same H p)
    obtain ⟨t, ty, e1, e2, e3, e4⟩ := hd2.kits
    -- the part itself
    have part : ∀ H', But p H H' → ∀ B', B' ≤ B + 1 → Pot H' p B' → spBP K m [.ref p, v] H' Q (fun _ _ _ => False) := fun H' b B' lB q =>
      ⟨p, v, B', rfl, q, by omega, ⟨d, hd.same b.off, hm⟩, fun v' H2 b2 q2 o => k v' H2 (b.trans b2) (q2.mono (by omega)) o⟩
    refine ⟨_, rfl, .inl ⟨_, _, _, _, _, rfl, .ty _, ty, e4, _, rfl, ?_⟩⟩
    cases m with
    | zero =>
      have e : tupB d = false := by
        rcases hm with ⟨z, rfl, _⟩ | ⟨x, rfl, _⟩ <;> rfl
      refine iteB2 e (nxt ?_)
      exact ⟨_, rfl, _, rfl, part H (But.refl _ _) B (by omega) hp⟩
    | succ m =>
      obtain ⟨ds, rfl, l16, al⟩ := hm
      refine iteB rfl ?_
      cases hd with
      | tup hx ha =>
      rename_i a xs
      have lx := dd_len ha
      have hx2 := SqT.same (off_same H p) hx
      refine ⟨_, rfl, by show 0 ≤ sizeLine; decide, fun e0 n0 => ?_⟩
      have s1 := same_new (o := .tup []) n0
      refine ⟨a, e0, xs, rfl, rfl, SqT.same s1 hx2, SqT.of upd_same, _, rfl, ?_⟩
      have p1 := hp.same s1
      generalize upd H e0 (.tup []) = H1 at s1 p1 ⊢
      refine ifB (fun c0 => ?_) fun c0 => ?_
      · refine ⟨_, rfl, _, _, rfl, rfl, _, rfl, iteB (decide_eq_true (by omega)) ?_⟩
        refine ⟨_, rfl, p, 4, B, rfl, p1, by decide, by decide, by omega, fun n H2 hn b2 p2 => ⟨_, _, rfl, rfl, _, rfl, ?_⟩⟩
        refine ifB (fun c => ?_) fun c => ?_
        · have X : Tp K p (Wm m) 16 H (.ref a) := ⟨a, xs, rfl, hx2, ⟨ds, ha, al⟩, by omega⟩
          have X2 := (X.same s1).but p1 b2
          have ne : xs ≠ [] := fun z => by rw [z] at c0; cases c0
          have pos : 0 < xs.length := List.length_pos_iff.mpr ne
          have bH2 : But p H H2 := (But.of s1).trans b2
          obtain ⟨w1, w2⟩ := ww_rr m
          refine seqS (fun v H' => ∃ i : Nat, v = .int (i : Int) ∧ i < xs.length ∧ But p H2 H' ∧ Pot H' p (B + 2)) (fun Q k' => ?_) ?_
          · exact ⟨_, rfl, _, rfl, _, _, rfl, .inr ⟨_, SqT.same (off_same H2 p) (SqT.same bH2.off hx), rfl⟩, p, xs.length, B + 1, rfl, p2, by omega, by omega, by omega, fun n H1 hn b1 p1 => k' _ _ ⟨n, rfl, by omega, b1, p1⟩⟩
          rintro _ H3 ⟨i, rfl, hi, b3, p3⟩
          have bH3 := bH2.trans b3
          have X3 := X2.but p2 b3
          have hx3 := SqT.same bH3.off hx
          have ha3 := DdAll.same bH3.off ha
          refine ⟨_, rfl, _, rfl, _, rfl, .inl (X3.slice fun u J1 j1 y1 => ?_)⟩
          have q1 := p3.same j1
          have it : OkV K p (Wm m) J1 xs[i] := (OkA.get (K := K) (p := p) (R := Wm m) (H := H3) ⟨ds, ha3, al⟩ (List.getElem?_eq_getElem hi)).same j1
          refine ⟨_, rfl, _, rfl, _, rfl, ixT (SqT.same j1 (SqT.same (off_same H3 p) hx3)) i (List.getElem?_eq_getElem hi) ⟨_, rfl, _, _, rfl, rfl, ?_⟩⟩
          refine ⟨p, _, B + 2, by have e : (((m + 1 : Nat) : Int) - 1) = (m : Int) := by omega
                                  show [V.ref p, xs[i], V.int (((m + 1 : Nat) : Int) - 1)] = _
                                  rw [e], q1, by omega, by omega, it, fun v' J2 b4 q2 o2 => ?_⟩
          have y2 := (y1.imp (R' := RR m) fun d h => (wm_rs h).mono w2 (by omega)).but q1 b4
          refine ⟨by show 1 ≤ sizeLine; decide, fun t3 n3 => ?_⟩
          have y3 := Tp.new o2 n3
          have j3 := same_new (o := .tup [v']) n3
          generalize upd J2 t3 (.tup [v']) = J3 at y3 j3 ⊢
          refine (y2.same j3).cat y3 (by decide) fun t4 J4 j4 y4 => ?_
          have b5 : But p H3 J4 := (But.of j1).trans (b4.trans (But.of (j3.trans j4)))
          have X6 := (X3.imp (R' := RR m) fun d h => (wm_rs h).mono w2 (by omega)).but p3 b5
          refine ⟨_, rfl, _, rfl, _, _, rfl, rfl, _, rfl, .inl (X6.slice fun u2 J5 j5 y5 => ?_)⟩
          refine (y4.same j5).cat y5 (by decide) fun t6 J6 j6 y6 => ?_
          have r6 : Pot J6 p (B + 4 + 2 * (m + 1)) := ((((q2.same j3).same j4).same j5).same j6).mono (by omega)
          exact k _ J6 (bH3.trans (b5.trans (But.of (j5.trans j6)))) r6 (y6.ok r6 fun es h l => (rs_tuple h (m := 33) (by omega)).mono (by show _ ≤ 33 * (rr m + 2) + 3; omega) (by omega))
        · exact nxt ⟨_, rfl, _, rfl, part H2 ((But.of s1).trans b2) (B + 1) (by omega) p2⟩
      · exact nxt ⟨_, rfl, _, rfl, part H1 (But.of s1) B (by omega) p1⟩
theorem ok_bent (T : Txt w K mg ca ia fa fd fi) : ∀ m : Nat, FnOk P w K mg base CX0 (m + 5) (fa 33) (fd 33) ["_law_pot_here", "_law_value", "_law_deep"] (spBent K m)
  | 0 => bent_core T 0 (T.F_l_bent.ok sc_l_bent (fun vs H Q E h => h.elim) fun cdv A outer s H vs Q E hr h => h.elim)
  | m + 1 => bent_core T (m + 1) (ok_bent T m)
end
end Toy
set_option Elab.async false
set_option linter.all false
set_option maxRecDepth 100000
set_option maxHeartbeats 1000000
namespace Toy
open PySem L2 Q RZ D7 TL
/-! ### the law's forms and the program's -/
abbrev lawL : List (Str × Str) := [("set", "rrnn"), ("out", "rr"), ("learn", "r"), ("send", "rr"), ("hop", "nr"), ("drop", "n")]
def gc (c : Nat) : Nat := if c = 114 then 114 else 110
def gOf (f : Str) : Str := ⟨f.cps.map gc⟩
theorem law_forms : lawL = formsL.map fun q => (q.1, gOf q.2) := by decide +kernel
theorem look_map {β γ : Type} {g : β → γ} : ∀ {l : List (Str × β)} {w : Str}, (l.map fun q => (q.1, g q.2)).lookup w = (l.lookup w).map g
  | [], _ => rfl
  | (k, v) :: l, w => by
    rw [List.map_cons, List.lookup_cons, List.lookup_cons]
    dsimp only
    cases w == k with
    | true => rfl
    | false => exact look_map
theorem law_look (w : Str) : lawL.lookup w = (formsL.lookup w).map gOf := by
  rw [law_forms]
  exact look_map
theorem gOf_tl (f : Str) : tl (gOf f) = (tl f).map gc := by
  show (f.cps.map gc).toList = _
  rw [Array.toList_map]
theorem gOf_len (f : Str) : (gOf f).length = f.length := by
  rw [len_tl, gOf_tl, List.length_map, ← len_tl]
/-- a word of this kind -/
def Wk (c : Nat) (z : Str) : Prop := if c = 114 then NameOk z else NumOk z
theorem wk_gc {c : Nat} {z : Str} : Wk (gc c) z ↔ Wk c z := by
  unfold Wk gc
  by_cases h : c = 114
  · rw [if_pos h, if_pos rfl, if_pos h]
  · rw [if_neg h, if_neg h, if_neg (by decide)]
theorem name_str {z : Str} : NameD (.str z) ↔ NameOk z :=
  ⟨fun ⟨y, e, h⟩ => by injection e with e; exact e ▸ h, fun h => ⟨z, rfl, h⟩⟩
theorem part_num {c : Nat} {z : Str} (n : c ≠ 114) {l : Int} : fromB (partD c z) l = true ↔ NumOk z ∧ l ≤ valW z := by
  unfold partD
  rw [if_neg n]
  by_cases h : NumOk z
  · rw [if_pos h]
    show decide _ = true ↔ _
    rw [decide_eq_true_iff]
    exact ⟨fun q => ⟨h, q⟩, fun q => q.2⟩
  · rw [if_neg h]
    exact ⟨fun q => (nomatch q), fun q => absurd q.1 h⟩
theorem kind_iff {c : Nat} {z : Str} (h : c = 114 ∨ c = 108 ∨ c = 112) : KindD ⟨#[c]⟩ (partD c z) ↔ Wk c z ∧ (c = 108 → valW z ≠ 0) := by
  unfold KindD Wk
  have r1 : ¬ ((⟨#[108]⟩ : Str) = tx "r") := by decide +kernel
  have r2 : ¬ ((⟨#[112]⟩ : Str) = tx "r") := by decide +kernel
  have r3 : (⟨#[108]⟩ : Str) = tx "l" := by decide +kernel
  have r4 : ¬ ((⟨#[112]⟩ : Str) = tx "l") := by decide +kernel
  have c1 : ¬ (108 : Nat) = 114 := by decide
  have c2 : ¬ (112 : Nat) = 114 := by decide
  rcases h with rfl | rfl | rfl
  · rw [if_pos (by decide +kernel), if_pos rfl]
    have e : partD 114 z = .str z := if_pos rfl
    rw [e, name_str]
    exact ⟨fun q => ⟨q, fun z => (nomatch z)⟩, fun q => q.1⟩
  · rw [if_neg r1, if_neg c1, if_pos r3, part_num c1]
    constructor
    · exact fun q => ⟨q.1, fun _ => by have := q.2; omega⟩
    · exact fun q => ⟨q.1, by have := q.2 rfl; omega⟩
  · rw [if_neg r2, if_neg c2, if_neg r4, part_num c2]
    exact ⟨fun q => ⟨q.1, fun z => (nomatch z)⟩, fun q => ⟨q.1, by omega⟩⟩
theorem forms_tell : ∀ q ∈ formsL, (∀ c ∈ tl q.2, c = 114 ∨ c = 108 ∨ c = 112) ∧ (q.1 = tx "set" → tl q.2 = [114, 114, 108, 108]) ∧ (q.1 = tx "out" → tl q.2 = [114, 114]) ∧ (q.1 ≠ tx "set" → 108 ∉ tl q.2) := by decide +kernel
/-- what a row has to be for its words to be an event -/
def Ev (w f : Str) (rest : List Str) : Prop := (∀ q ∈ rest.zip (tl f), Wk q.2 q.1) ∧ (w = tx "set" ∨ w = tx "out" → ∃ a b r, rest = a :: b :: r ∧ tLt a b) ∧ (w = tx "set" → ∀ z ∈ rest.drop 2, valW z ≠ 0)
theorem len2 {α : Type} : ∀ {l : List α}, l.length = 2 → ∃ a b, l = [a, b]
  | [a, b], _ => ⟨a, b, rfl⟩
theorem len4 {α : Type} : ∀ {l : List α}, l.length = 4 → ∃ a b c d, l = [a, b, c, d]
  | [a, b, c, d], _ => ⟨a, b, c, d, rfl⟩
theorem made_iff {w f : Str} {rest : List Str} (ef : formsL.lookup w = some f) (le : rest.length = f.length) : EventD (madeD w rest f) ↔ Ev w f rest := by
  obtain ⟨fk, fs, fo, fn⟩ := forms_tell _ (look_mem ef)
  dsimp only at fk fs fo fn
  have lz : (rest.zip (tl f)).length = f.length := by
    rw [List.length_zip, ← len_tl]
    omega
  have only : EventD (madeD w rest f) ↔ (∀ q ∈ rest.zip (tl f), KindD ⟨#[q.2]⟩ (partD q.2 q.1)) ∧ (w = tx "set" ∨ w = tx "out" → ∃ a b r, ((rest.zip (tl f)).map fun q => partD q.2 q.1) = .str a :: .str b :: r ∧ tLt a b) := by
    have kk : (∀ (i : Nat) (e : PyData) (c : Nat), ((rest.zip (tl f)).map fun q => partD q.2 q.1)[i]? = some e → f.cps[i]? = some c → KindD ⟨#[c]⟩ e) ↔ ∀ q ∈ rest.zip (tl f), KindD ⟨#[q.2]⟩ (partD q.2 q.1) := by
      constructor
      · intro h q hq
        obtain ⟨i, hi⟩ := List.getElem?_of_mem hq
        have h2 := List.getElem?_zip_eq_some.mp hi
        exact h i _ q.2 (by rw [List.getElem?_map, hi]; rfl) (by rw [← Array.getElem?_toList]; exact h2.2)
      · intro h i e c h1 h2
        rw [List.getElem?_map] at h1
        obtain ⟨q, hq, rfl⟩ := Option.map_eq_some_iff.mp h1
        have h3 := (List.getElem?_zip_eq_some.mp hq).2
        rw [Array.getElem?_toList, h2] at h3
        injection h3 with h3
        rw [h3]
        exact h q (List.mem_of_getElem? hq)
    constructor
    · rintro ⟨w', f', ds, e, e2, l, k, o⟩
      unfold madeD at e
      injection e with e
      injection e with e3 e4
      injection e3 with e3
      rw [← e3, ef] at e2
      injection e2 with e2
      subst e2 e3 e4
      exact ⟨kk.mp k, o⟩
    · rintro ⟨k, o⟩
      exact ⟨w, f, _, rfl, ef, by rw [List.length_map, lz], kk.mpr k, o⟩
  rw [only]
  have k1 : (∀ q ∈ rest.zip (tl f), KindD ⟨#[q.2]⟩ (partD q.2 q.1)) ↔ (∀ q ∈ rest.zip (tl f), Wk q.2 q.1) ∧ ∀ q ∈ rest.zip (tl f), q.2 = 108 → valW q.1 ≠ 0 := by
    have one : ∀ q ∈ rest.zip (tl f), (KindD ⟨#[q.2]⟩ (partD q.2 q.1) ↔ Wk q.2 q.1 ∧ (q.2 = 108 → valW q.1 ≠ 0)) := fun q hq => kind_iff (fk _ (List.of_mem_zip hq).2)
    exact ⟨fun h => ⟨fun q hq => ((one q hq).mp (h q hq)).1, fun q hq => ((one q hq).mp (h q hq)).2⟩, fun h q hq => (one q hq).mpr ⟨h.1 q hq, h.2 q hq⟩⟩
  rw [k1]
  unfold Ev
  by_cases s : w = tx "set"
  · have ft := fs s
    have l4 : rest.length = 4 := by rw [le, len_tl, ft]; rfl
    obtain ⟨a, b, x, y, rfl⟩ := len4 l4
    rw [ft]
    simp only [List.zip_cons_cons, List.zip_nil_right, List.map_cons, List.map_nil, List.mem_cons, List.not_mem_nil, or_false, forall_eq_or_imp, forall_eq, List.drop_succ_cons, List.drop_zero]
    have pa : ∀ z, partD 114 z = .str z := fun z => if_pos rfl
    simp [pa, s]
    constructor
    · rintro ⟨⟨h1, h2, h3⟩, h4⟩
      exact ⟨h1, h4, h2, h3⟩
    · rintro ⟨h1, h4, h2, h3⟩
      exact ⟨⟨h1, h2, h3⟩, h4⟩
  · have n8 := fn s
    have k2 : (∀ q ∈ rest.zip (tl f), q.2 = 108 → valW q.1 ≠ 0) := fun q hq e => absurd (e ▸ (List.of_mem_zip hq).2) n8
    by_cases o : w = tx "out"
    · have ft := fo o
      have l2 : rest.length = 2 := by rw [le, len_tl, ft]; rfl
      obtain ⟨a, b, rfl⟩ := len2 l2
      have pa : ∀ z, partD 114 z = .str z := fun z => if_pos rfl
      constructor
      · rintro ⟨⟨h1, _⟩, h2⟩
        refine ⟨h1, fun q => ?_, fun q => absurd q s⟩
        obtain ⟨a', b', r', e, h4⟩ := h2 q
        rw [ft] at e
        simp [pa] at e
        exact ⟨a, b, [], rfl, by rw [e.1, e.2.1]; exact h4⟩
      · rintro ⟨h1, h2, _⟩
        refine ⟨⟨h1, k2⟩, fun q => ?_⟩
        obtain ⟨a', b', r', e, h4⟩ := h2 q
        rw [ft]
        simp at e
        exact ⟨a, b, [], by simp [pa], by rw [e.1, e.2.1]; exact h4⟩
    · constructor
      · rintro ⟨⟨h1, _⟩, _⟩
        exact ⟨h1, fun q => (q.elim s o).elim, fun q => absurd q s⟩
      · rintro ⟨h1, _⟩
        exact ⟨⟨h1, k2⟩, fun q => (q.elim s o).elim⟩
/-- the law's parts -/
def partV (c : Nat) (z : Str) : V := if c = 114 then .str z else .int (valW z : Int)
theorem part_dd {K : PySem.W.Frag} {H : Hp} {c : Nat} {z : Str} (h : Wk c z) : Dd K H (partV c z) (partD c z) := by
  unfold Wk at h
  unfold partV partD
  by_cases e : c = 114
  · rw [if_pos e, if_pos e]
    exact .str z
  · rw [if_neg e] at h
    rw [if_neg e, if_neg e, if_pos h]
    exact .int _
theorem parts_dd {K : PySem.W.Frag} {H : Hp} : ∀ {l : List (Str × Nat)}, (∀ q ∈ l, Wk q.2 q.1) → DdAll K H (l.map fun q => partV q.2 q.1) (l.map fun q => partD q.2 q.1)
  | [], _ => .nil
  | q :: l, h => .cons (part_dd (h q List.mem_cons_self)) (parts_dd fun u hu => h u (List.mem_cons_of_mem _ hu))
theorem partV_gc {c : Nat} {z : Str} : partV (gc c) z = partV c z := by
  unfold partV gc
  by_cases h : c = 114
  · rw [if_pos h, if_pos rfl, if_pos h]
  · rw [if_neg h, if_neg h, if_neg (by decide)]
theorem valV_look : ∀ (l : List (Str × Str)) (w : Str), valV (l.map fun q => ((.inr q.1 : Key), V.str q.2)) (.inr w) = (l.lookup w).map V.str
  | [], _ => rfl
  | (k, v) :: l, w => by
    rw [List.map_cons, List.lookup_cons]
    by_cases e : w = k
    · rw [valV_pos (by rw [e]), beq_iff_eq.mpr e]
      rfl
    · rw [valV_neg (fun z => by injection z with z; exact e z.symm), beq_eq_false_iff_ne.mpr e]
      exact valV_look l w
theorem flat_parts (l : List (Str × Nat)) : (l.map fun q => partV q.2 q.1).all flatV = true := by
  rw [List.all_eq_true]
  intro v hv
  obtain ⟨q, _, rfl⟩ := List.mem_map.mp hv
  unfold partV
  split <;> rfl
theorem pair_parts {w f : Str} {zs : List Str} (ef : formsL.lookup w = some f) (le : zs.length = f.length) (so : w = tx "set" ∨ w = tx "out") :
    ∃ a b r, zs = a :: b :: r ∧ ((zs.zip (tl f)).map fun q => partV q.2 q.1)[0]? = some (.str a) ∧ ((zs.zip (tl f)).map fun q => partV q.2 q.1)[1]? = some (.str b) := by
  obtain ⟨_, fs, fo, _⟩ := forms_tell _ (look_mem ef)
  have pa : ∀ z, partV 114 z = .str z := fun z => if_pos rfl
  rcases so with s | s
  · have ft := fs s
    dsimp only at ft
    obtain ⟨a, b, x, y, rfl⟩ := len4 (l := zs) (by rw [le, len_tl, ft]; rfl)
    rw [ft]
    exact ⟨a, b, _, rfl, congrArg some (pa a), congrArg some (pa b)⟩
  · have ft := fo s
    dsimp only at ft
    obtain ⟨a, b, rfl⟩ := len2 (l := zs) (by rw [le, len_tl, ft]; rfl)
    rw [ft]
    exact ⟨a, b, _, rfl, congrArg some (pa a), congrArg some (pa b)⟩
theorem zero_in {w f : Str} {zs : List Str} (ef : formsL.lookup w = some f) (le : zs.length = f.length) (s : w = tx "set") :
    inV (.int 0) (((zs.zip (tl f)).map fun q => partV q.2 q.1).drop 2) = true ↔ ¬ ∀ z ∈ zs.drop 2, valW z ≠ 0 := by
  obtain ⟨_, fs, _, _⟩ := forms_tell _ (look_mem ef)
  have ft := fs s
  dsimp only at ft
  obtain ⟨a, b, x, y, rfl⟩ := len4 (l := zs) (by rw [le, len_tl, ft]; rfl)
  rw [ft]
  have p8 : ∀ z, partV 108 z = .int (valW z : Int) := fun z => if_neg (by decide)
  show inV (.int 0) [partV 108 x, partV 108 y] = true ↔ _
  rw [p8, p8]
  have e : ∀ n : Nat, eqV (.int (n : Int)) (.int 0) = true ↔ n = 0 := fun n => by
    show ((n : Int) == 0) = true ↔ _
    rw [beq_iff_eq]
    omega
  unfold inV
  rw [List.any_cons, List.any_cons, List.any_nil, Bool.or_false, Bool.or_eq_true, e, e]
  simp only [List.drop_succ_cons, List.drop_zero, List.mem_cons, List.not_mem_nil, or_false, forall_eq_or_imp, forall_eq]
  omega
end Toy
set_option Elab.async false
set_option linter.all false
set_option maxRecDepth 100000
set_option maxHeartbeats 600000
namespace Toy
open PySem L2 Q RZ D7 TL StX
/-! ### the law's event_read -/
def spLRead (K : PySem.W.Frag) : Sp := fun vs H Q _ => ∃ r : Str, vs = [.str r] ∧ r.length ≤ 9000 ∧ (∀ d, evD r = some d → ∀ t H', Same H H' → Dd K H' (.ref t) d → Q (.ref t) H') ∧ (evD r = none → ∀ t H', Same H H' → H' t = some (.tup []) → Q (.ref t) H')
theorem law_merge : mergeK [] (lawL.map fun q => ((.inr q.1 : Key), V.str q.2)) = lawL.map fun q => ((.inr q.1 : Key), V.str q.2) := by rfl
theorem ifCutN {c : TT} {t u v : TS} {D : Ends} {σ : L2.St} {H : Hp} (Pb : Bool → Hp → Prop) (hc : ∀ Q : Bool → Hp → Prop, (∀ b H', Pb b H' → Q b H') → c σ H Q)
    (ht : ∀ H', Pb true H' → t { D with nx := v D } σ H') (hu : ∀ H', Pb false H' → u { D with nx := v D } σ H') : tSeq (tIfS c t u) v D σ H := hc _ fun b H' p => by
  cases b with
  | true => exact ht H' p
  | false => exact hu H' p
theorem orCut {t u : TT} {σ : L2.St} {H : Hp} {Q : Bool → Hp → Prop} (Pb : Bool → Hp → Prop) (hc : ∀ Q' : Bool → Hp → Prop, (∀ b H', Pb b H' → Q' b H') → t σ H Q')
    (ht : ∀ H', Pb true H' → Q true H') (hu : ∀ H', Pb false H' → u σ H' Q) : tOr t u σ H Q := hc _ fun b H' p => by
  cases b with
  | true => exact ht H' p
  | false => exact hu H' p
section
variable {P : Program} {w : World} {K : PySem.W.Frag} {mg : Str → Option Value} {base : Heap} {ca ia fa : Nat → Addr} {fd fi : Nat → FuncData}
theorem ok_lRead (T : Txt w K mg ca ia fa fd fi) : FnOk P w K mg base CX0 3 (fa 39) (fd 39) ["_law_row"] (spLRead K) := by
  have G_l_is_name := ok_l_nameA (P := P) (w := w) (base := base) T
  have G_l_is_number := ok_lNum (P := P) (w := w) (base := base) T
  refine T.F_l_event_read.ok sc_l_event_read (fun vs H Q E h => ?_) (fun cdv A outer s H vs Q E hr h => ?_)
  · obtain ⟨r, rfl, _⟩ := h
    rfl
  · obtain ⟨r, rfl, len, kY, kN⟩ := h
    refine ⟨_, (pss_cons (ps_set (i := 1) sc_l_event_read.nd rfl (Or.inl rfl) (pe_split (pv 0) pe_str))
      (pss_cons (ps_set (i := 2) sc_l_event_read.nd rfl (Or.inl rfl) (pe_disp (pps_cons pe_str pe_str (pps_cons pe_str pe_str (pps_cons pe_str pe_str (pps_cons pe_str pe_str (pps_cons pe_str pe_str (pps_cons pe_str pe_str pps_nil)))))) (by rfl) (by rfl) (fun z => by cases z) (by decide)))
      (pss_cons (ps_if (PW.pt (pw_or (pt_cmp (pc_dnotin (roomU1 hr) (pe_ix ix_seq (pv 1) pe_int (fun _ _ => rfl)) (pv 2))) (pw_or1 (pt_cmpR op_ne (pe_callB call_len (by rfl) T.n_len (by decide +kernel) (pa_cons (pv 1) pa_nil)) (pe_op op_add pe_int (pe_callB call_len (by rfl) T.n_len (by decide +kernel) (pa_cons (pe_dget (roomU1 hr) (pv 2) (pe_ix ix_seq (pv 1) pe_int (fun _ _ => rfl)) (fun _ _ => rfl)) pa_nil))) (nomark _))))) (pss_one (ps_ret (pe_tup pa_nil))) pss_nil)
      (pss_cons (ps_set (i := 3) sc_l_event_read.nd rfl (Or.inl rfl) (pe_lst pa_nil))
      (pss_cons (ps_for PassesOwn.never rfl (pi_zipS (by rfl) T.n_zip (pa_cons (pe_dget (roomU1 hr) (pv 2) (pe_ix ix_seq (pv 1) pe_int (fun _ _ => rfl)) (fun _ _ => rfl)) (pa_cons (pe_slice sl_list (pv 1) (po_some pe_int) po_none) pa_nil))) (pg_tup rfl (pgs_cons (pg_name (i := 4) sc_l_event_read.nd rfl (Or.inl rfl)) (pgs_cons (pg_name (i := 5) sc_l_event_read.nd rfl (Or.inl rfl)) pgs_nil))) (pss_cons (ps_if (pt_not (PW.pt (pw_ifExp (pt_cmpR op_eq (pv 4) pe_str (nomark _)) (pt_val (pe_call G_l_is_name (hr.mono (by decide)) rfl T.g_l_is_name T.k_l_is_name T.b_l_is_name .nil pass0 (pa_cons (pv 5) pa_nil))) (pt_val (pe_call G_l_is_number (hr.mono (by decide)) rfl T.g_l_is_number T.k_l_is_number T.b_l_is_number .nil pass0 (pa_cons (pv 5) pa_nil)))))) (pss_one (ps_ret (pe_tup pa_nil))) pss_nil)
      (pss_one (ps_expr (pe_bm PySem.F.plainAttrs_list PySem.F.slot_list_append PySem.F.type_list_append mt_append (pv 3) (pa_cons (pe_ifExp (pt_cmpR op_eq (pv 4) pe_str (nomark _)) (pv 5) (pe_callTy call_int_str (by rfl) T.n_int (by decide +kernel) (pa_cons (pv 5) pa_nil))) pa_nil))))))
      (pss_cons (ps_if (PW.pt (pw_or (PW.pt (pw_and (pt_cmpR op_in_seq (pe_ix ix_seq (pv 1) pe_int (fun _ _ => rfl)) (pe_tup (pa_cons pe_str (pa_cons pe_str pa_nil))) rfl) (pw_and1 (pt_not (pt_cmpR op_lt_str (pe_ix ix_seq (pv 3) pe_int (fun _ _ => rfl)) (pe_ix ix_seq (pv 3) pe_int (fun _ _ => rfl)) (nomark _)))))) (pw_or1 (PW.pt (pw_and (pt_cmpR op_eq (pe_ix ix_seq (pv 1) pe_int (fun _ _ => rfl)) pe_str (nomark _)) (pw_and1 (pt_cmpR op_in_seq pe_int (pe_slice sl_list (pv 3) (po_some pe_int) po_none) rfl))))))) (pss_one (ps_ret (pe_tup pa_nil))) pss_nil)
      (pss_one (ps_ret (pe_op op_catA (pe_tup (pa_cons (pe_ix ix_seq (pv 1) pe_int (fun _ _ => rfl)) pa_nil)) (pe_callTy call_tuple_of (by rfl) T.n_tuple (by decide +kernel) (pa_cons (pv 3) pa_nil))))))))))), ?_⟩
    obtain ⟨wl, wn, wp⟩ := words_le r
    obtain ⟨w0, zs, ew⟩ : ∃ w0 zs, wordsOf r = w0 :: zs := by
      cases e : wordsOf r with
      | nil => exact absurd e wn
      | cons a b => exact ⟨a, b, rfl⟩
    refine ⟨_, rfl, ⟨_, rfl⟩, _, _, rfl, rfl, by decide +kernel, by rw [sizeLine_eq]; omega, fun R nR => ?_⟩
    have sR := same_new (o := .lst ((w0 :: zs).map V.str)) nR
    have hR : upd H R (.lst ((w0 :: zs).map V.str)) R = some (.lst ((w0 :: zs).map V.str)) := upd_same
    have eW : Txt.split r (Str.ofString " ") = w0 :: zs := ew
    rw [eW]
    rw [ew, List.length_cons] at wl
    rw [ew] at wp
    generalize upd H R (.lst ((w0 :: zs).map V.str)) = H1 at sR hR ⊢
    have none_ : ∀ {H'}, Same H H' → evD r = none → ∀ p, H' p = none → Q (.ref p) (upd H' p (.tup [])) := fun {H'} s n p np => kN n p _ (s.trans (same_new np)) upd_same
    have w0l := wp w0 List.mem_cons_self
    refine fun d nd => ⟨upd_same, lawL.map fun q => ((.inr q.1 : Key), V.str q.2), rfl, by decide, ?_⟩
    rw [law_merge]
    have sd := same_two (o := .dK []) (u := .dK (lawL.map fun q => ((.inr q.1 : Key), V.str q.2))) nd
    have hd : upd (upd H1 d (.dK [])) d (.dK (lawL.map fun q => ((.inr q.1 : Key), V.str q.2))) d = some (.dK (lawL.map fun q => ((.inr q.1 : Key), V.str q.2))) := upd_same
    have s02 := sR.trans sd
    have hR2 := sd _ _ hR
    generalize upd (upd H1 d (.dK [])) d (.dK (lawL.map fun q => ((.inr q.1 : Key), V.str q.2))) = H2 at sd hd s02 hR2 ⊢
    have at_ : ∀ {G : Hp} {Q' : VK}, Same H2 G → Q' (.str w0) G → rIx K (.ref R) (.int (0 : Int)) G Q' := fun {G Q'} g q =>
      ixL (SqL.of (g _ _ hR2)) 0 (v := .str w0) rfl q
    have dg : ∀ {G : Hp}, Same H2 G → DGet G d (.str w0) ((lawL.lookup w0).map V.str) := fun {G} g => by
      rw [← valV_look]
      exact DGet.k (k := .inr w0) (g _ _ hd)
    refine ⟨_, rfl, at_ (Same.refl _) ⟨_, rfl, d, _, rfl, dg (Same.refl _), _, rfl, ?_⟩⟩
    cases ef : formsL.lookup w0 with
    | none =>
      rw [law_look, ef]
      exact iteB rfl ⟨by show 0 ≤ sizeLine; decide, none_ s02 (evD_form ew ef)⟩
    | some f =>
      have eg : (lawL.lookup w0).map V.str = some (.str (gOf f)) := by rw [law_look, ef]; rfl
      have dg : ∀ {G : Hp}, Same H2 G → DGet G d (.str w0) (some (.str (gOf f))) := fun {G} g => by rw [← eg]; exact dg g
      rw [eg]
      obtain ⟨f1, f4⟩ := forms_le _ (look_mem ef)
      have f4 : f.length ≤ 4 := f4
      have f1 : 1 ≤ f.length := f1
      have gl := gOf_len f
      obtain ⟨oY, oN⟩ := evD_at ew ef
      refine iteB2 rfl ⟨_, rfl, _, _, rfl, .inl ⟨_, SqL.of hR2, rfl⟩, ?_⟩
      have lenG : ∀ {H' : Hp}, LenV K (.str (gOf f)) H' f.length := fun {H'} => ⟨by rw [sizeLine_eq]; omega, gl.symm⟩
      refine ⟨_, rfl, _, rfl, at_ (Same.refl _) ⟨d, _, rfl, dg (Same.refl _), _, _, rfl, lenG, ?_⟩⟩
      refine ⟨_, _, rfl, rfl, rfl, _, rfl, ?_⟩
      rw [List.length_map, List.length_cons]
      refine ifE (fun c1 => ?_) fun c1 => ?_
      · refine ⟨by show 0 ≤ sizeLine; decide, none_ s02 (oN fun q => ?_)⟩
        rw [q.1] at c1
        simp at c1
        omega
      have le : zs.length = f.length := by
        have h : ((zs.length + 1 : Nat) : Int) = 1 + (f.length : Int) := by simpa using c1
        omega
      refine nxt ?_
      refine ⟨by show 0 ≤ sizeLine; decide, fun F nF => ?_⟩
      have sF := same_new (o := .lst []) nF
      have hF : upd H2 F (.lst []) F = some (.lst []) := upd_same
      have RF : R ≠ F := fun z => by rw [z, nF] at hR2; cases hR2
      have dF : d ≠ F := fun z => by rw [z, nF] at hd; cases hd
      have hR3 := sF _ _ hR2
      have hd3 := sF _ _ hd
      have F0 : H F = none := by
        cases e : H F with
        | none => rfl
        | some o => rw [s02 _ _ e] at nF; cases nF
      have s03 := s02.trans sF
      generalize upd H2 F (.lst []) = H3 at sF hF hR3 hd3 s03 ⊢
      refine ⟨_, rfl, _, rfl, at_ sF ⟨d, _, rfl, dg sF, _, rfl, _, rfl, R, _, rfl, SqL.of hR3, fun S nS => ?_⟩⟩
      have ecut : cutV ((w0 :: zs).map V.str) (some 1) none = zs.map V.str := by
        rw [show (some (1 : Int)) = some ((1 : Nat) : Int) from rfl, cut_drop]
        rfl
      rw [ecut]
      have sS := same_new (o := .lst (zs.map V.str)) nS
      have hS : upd H3 S (.lst (zs.map V.str)) S = some (.lst (zs.map V.str)) := upd_same
      have SF : S ≠ F := fun z => by rw [z, hF] at nS; cases nS
      have hF4 := sS _ _ hF
      have hR4 := sS _ _ hR3
      have hd4 := sS _ _ hd3
      have s04 := s03.trans sS
      generalize upd H3 S (.lst (zs.map V.str)) = H4 at sS hS hF4 hR4 hd4 s04 ⊢
      have dg4 : ∀ {G : Hp}, G d = some (.dK (lawL.map fun q => ((.inr q.1 : Key), V.str q.2))) → DGet G d (.str w0) (some (.str (gOf f))) := fun {G} g => by
        rw [← eg, ← valV_look]
        exact DGet.k (k := .inr w0) g
      have back : ∀ {G : Hp}, But F H4 G → Same H G := fun {G} b c o e => b _ _ (fun z => by rw [z, F0] at e; cases e) (s04 _ _ e)
      have prL : (zs.zip (tl f)).length = f.length := by
        rw [List.length_zip, ← len_tl]
        omega
      have gsz : (gOf f).cps.size = f.length := gl
      have gat : ∀ i : Nat, (gOf f).cps[i]? = (f.cps[i]?).map gc := fun i => by
        show (f.cps.map gc)[i]? = _
        rw [Array.getElem?_map]
      refine .inr ⟨S, zs.map V.str, gOf f, rfl, SqL.of hS, ?_⟩
      refine for_it (walk_zipP (n := f.length) (fun i hi => ⟨.str ⟨#[gc (f.cps[i]'hi)]⟩, .str (zs[i]'(by omega)), by show (gOf f).cps[i]?.map _ = _; rw [gat, Array.getElem?_eq_getElem hi]; rfl, by rw [List.getElem?_map, List.getElem?_eq_getElem (by omega)]; rfl⟩) (.inl (by show (gOf f).cps[f.length]?.map _ = none; rw [Array.getElem?_eq_none (by omega)]; rfl)))
        (fun i σ H' => ∃ (x4 x5 : Option L2.V), σ = [some (.str r), some (.ref R), some (.ref d), some (.ref F), x4, x5] ∧ H' F = some (.lst (((zs.zip (tl f)).take i).map fun q => partV q.2 q.1)) ∧ (∀ q ∈ (zs.zip (tl f)).take i, Wk q.2 q.1) ∧ But F H4 H')
        ⟨_, _, rfl, hF4, fun q h => (nomatch h), But.refl _ _⟩ (fun i σ H' _ ⟨_, _, _, _, _, b⟩ => ⟨trivial, SqL.of (b _ _ SF hS)⟩) ?_ ?_
      · rintro i x σ Ha Hb hi ⟨x4, x5, rfl, hb, wk, bu⟩ ⟨T1, y1, y2, rfl, nT, rfl, e1, e2⟩
        obtain ⟨c', hc', e1⟩ := Option.map_eq_some_iff.mp e1
        rw [gat] at hc'
        obtain ⟨c, hc, rfl⟩ := Option.map_eq_some_iff.mp hc'
        obtain ⟨z, hz, e2⟩ := at_map e2
        subst e1
        subst e2
        have lz := wp z (List.mem_cons_of_mem _ (List.mem_of_getElem? hz))
        have sT := same_new (o := .tup [.str ⟨#[gc c]⟩, .str z]) nT
        have hq : (zs.zip (tl f))[i]? = some (z, c) := by
          rw [List.getElem?_zip_eq_some]
          exact ⟨hz, by rw [Array.getElem?_toList]; exact hc⟩
        have gr : V.str (⟨#[gc c]⟩ : Str) = V.str (Str.ofString "r") ↔ c = 114 := by
          constructor
          · intro e
            injection e with e
            have e2 : tl (⟨#[gc c]⟩ : Str) = tl (Str.ofString "r") := congrArg tl e
            rw [show tl (Str.ofString "r") = [114] by decide +kernel] at e2
            injection e2 with e2
            have e2 : gc c = 114 := e2
            unfold gc at e2
            split at e2
            · assumption
            · cases e2
          · rintro rfl
            exact congrArg V.str (by decide +kernel)
        refine ⟨T1, _, rfl, SqT.of upd_same, rfl, _, _, rfl, _, _, rfl, rfl, ?_⟩
        have hb1 := sT _ _ hb
        generalize upd Ha T1 (.tup [.str ⟨#[gc c]⟩, .str z]) = H5 at sT hb1 ⊢
        refine ifCutN (fun b H' => (b = true ↔ ¬ Wk c z) ∧ Same H5 H') (fun Q' k => ?_) (fun H6 ⟨hb6, s6⟩ => ?_) fun H6 ⟨hb6, s6⟩ => ?_
        · refine ⟨_, rfl, rfl, _, rfl, ifE (fun c2 => ?_) fun c2 => ?_⟩
          · have e : c = 114 := gr.mp (of_decide_eq_true c2)
            refine ⟨_, rfl, .str z, .str z, rfl, .str z, fun y e => (by injection e with e; rw [← e]; omega), fun b h1 H' s' => ⟨_, rfl, k (!b) H' ⟨?_, s'⟩⟩⟩
            unfold Wk
            rw [if_pos e, Bool.not_eq_true', ← Bool.not_eq_true, h1, name_str]
          · have e : c ≠ 114 := fun e => of_decide_eq_false c2 (gr.mpr e)
            refine ⟨_, rfl, z, rfl, by omega, fun b h1 H' s' => ⟨_, rfl, k (!b) H' ⟨?_, s'⟩⟩⟩
            unfold Wk
            rw [if_neg e, Bool.not_eq_true', ← Bool.not_eq_true, h1]
        · refine ⟨by show 0 ≤ sizeLine; decide, none_ (((back bu).trans sT).trans s6) (oN fun q => ?_)⟩
          exact hb6.mp rfl (((made_iff ef le).mp q.2).1 _ (List.mem_of_getElem? hq))
        · have wkz : Wk c z := Classical.byContradiction fun n => by
            have h := hb6.mpr n
            cases h
          refine nxt ?_
          have hF6 := s6 _ _ hb1
          have fin : ∀ v, v = partV c z → ∃ x4' x5' : Option L2.V, [some (.str r), some (.ref R), some (.ref d), some (.ref F), x4', x5'] = (([some (.str r), some (.ref R), some (.ref d), some (.ref F), x4, x5].set 4 (some (V.str ⟨#[gc c]⟩))).set 5 (some (V.str z))) ∧
              upd H6 F (.lst ((((zs.zip (tl f)).take i).map fun q => partV q.2 q.1) ++ [v])) F = some (.lst (((zs.zip (tl f)).take (i + 1)).map fun q => partV q.2 q.1)) ∧ (∀ q ∈ (zs.zip (tl f)).take (i + 1), Wk q.2 q.1) ∧ But F H4 (upd H6 F (.lst ((((zs.zip (tl f)).take i).map fun q => partV q.2 q.1) ++ [v]))) := fun v ev => by
            refine ⟨_, _, rfl, ?_, fun q m => ?_, fun a o n e => ?_⟩
            · rw [upd_same, List.take_add_one, hq, List.map_append, ev]
              rfl
            · rw [List.take_add_one, hq] at m
              rcases List.mem_append.mp m with m | m
              · exact wk q m
              · have e : q = (z, c) := by simpa using m
                rw [e]
                exact wkz
            · rw [upd_ne n]
              exact s6 _ _ (sT _ _ (bu a o n e))
          have few : ((((zs.zip (tl f)).take i).map fun q => partV q.2 q.1)).length < sizeLine := by
            rw [List.length_map, List.length_take, sizeLine_eq]
            omega
          refine ⟨_, rfl, .inl ⟨rfl, _, SqL.of hF6⟩, _, rfl, rfl, _, rfl, ifE (fun c2 => ?_) fun c2 => ?_⟩
          · have e : c = 114 := gr.mp (of_decide_eq_true c2)
            obtain ⟨u4, u5, eu, h1, h2, h3⟩ := fin (.str z) (by unfold partV; rw [if_pos e])
            exact ⟨_, rfl, F, _, _, rfl, rfl, hF6, few, nxt ⟨u4, u5, eu.symm, h1, h2, h3⟩⟩
          · have e : c ≠ 114 := fun e => of_decide_eq_false c2 (gr.mpr e)
            obtain ⟨u4, u5, eu, h1, h2, h3⟩ := fin (.int (valW z : Int)) (by unfold partV; rw [if_neg e])
            have nk : NumOk z := by
              unfold Wk at wkz
              rw [if_neg e] at wkz
              exact wkz
            exact ⟨_, rfl, z, _, rfl, val_int nk, by have := nk.2.1; omega, F, _, _, rfl, rfl, hF6, few, nxt ⟨u4, u5, eu.symm, h1, h2, h3⟩⟩
      · rintro σ Ha ⟨x4, x5, rfl, hb, wk, bu⟩
        rw [List.take_of_length_le (by omega)] at hb wk
        have hRa := bu _ _ RF hR4
        have at5 : ∀ {G : Hp} {Q' : VK}, G R = some (.lst ((w0 :: zs).map V.str)) → Q' (.str w0) G → rIx K (.ref R) (.int (0 : Int)) G Q' := fun {G Q'} g q =>
          ixL (SqL.of g) 0 (v := .str w0) rfl q
        have sa := back bu
        refine nxt ?_
        refine ifCutN (fun b H' => (b = true ↔ ¬ Ev w0 f zs) ∧ Same Ha H') (fun Q' k => ?_) (fun H6 ⟨hb6, s6⟩ => ?_) fun H6 ⟨hb6, s6⟩ => ?_
        · refine orCut (fun b H' => (b = true ↔ (w0 = tx "set" ∨ w0 = tx "out") ∧ ¬ ∃ a b r, zs = a :: b :: r ∧ tLt a b) ∧ Same Ha H') (fun Q2 k2 => ?_) (fun H6 ⟨hb6, s6⟩ => ?_) fun H6 ⟨hb6, s6⟩ => ?_
          · refine ⟨_, rfl, at5 hRa ⟨by show 2 ≤ sizeLine; decide, fun t nt => ⟨t, [tx "set", tx "out"].map V.str, rfl, .inr (SqT.of upd_same), rfl, flat_strs _, _, rfl, ?_⟩⟩⟩
            have st := same_new (o := .tup [V.str (Str.ofString "set"), V.str (Str.ofString "out")]) nt
            have hb1 := st _ _ hb
            refine ifB (fun c3 => ?_) fun c3 => ?_
            · have m : w0 ∈ ([tx "set", tx "out"] : List Str) := in_strs.mp c3
              have so : w0 = tx "set" ∨ w0 = tx "out" := by simpa using m
              obtain ⟨a, b, r', ez, y1, y2⟩ := pair_parts ef le so
              refine ⟨_, rfl, ixL (SqL.of hb1) 0 y1 ⟨_, rfl, ixL (SqL.of hb1) 1 y2 ⟨a, b, rfl, rfl, _, rfl, k2 _ _ ⟨?_, st⟩⟩⟩⟩
              rw [Bool.not_eq_true', decide_eq_false_iff_not]
              constructor
              · refine fun n => ⟨so, fun ⟨a', b', r2, e, lt⟩ => n ?_⟩
                rw [ez] at e
                injection e with e1 e
                injection e with e2 e
                rw [e1, e2]
                exact lt
              · exact fun n lt => n.2 ⟨a, b, r', ez, lt⟩
            · refine k2 false _ ⟨⟨fun z => (nomatch z), fun q => absurd (in_strs.mpr (show w0 ∈ ([tx "set", tx "out"] : List Str) by rcases q.1 with q | q <;> simp [q])) ?_⟩, st⟩
              intro z
              have c3 : inV (V.str w0) (([tx "set", tx "out"] : List Str).map V.str) = false := c3
              rw [c3] at z
              cases z
          · refine k true H6 ⟨⟨fun _ q => ?_, fun _ => rfl⟩, s6⟩
            have h := hb6.mp rfl
            exact h.2 (q.2.1 h.1)
          · have hR6 := s6 _ _ hRa
            have hF6 := s6 _ _ hb
            have okp : (w0 = tx "set" ∨ w0 = tx "out") → ∃ a b r, zs = a :: b :: r ∧ tLt a b := fun so => Classical.byContradiction fun n => by
              have h := hb6.mpr ⟨so, n⟩
              cases h
            refine ⟨_, rfl, at5 hR6 ⟨rfl, _, rfl, ifB (fun c3 => ?_) fun c3 => ?_⟩⟩
            · have e0 := of_decide_eq_true c3
              injection e0 with e0
              refine ⟨_, rfl, _, rfl, F, _, rfl, SqL.of hF6, fun S2 nS2 => ?_⟩
              have s7 := same_new (o := .lst (cutV ((zs.zip (tl f)).map fun q => partV q.2 q.1) (some 2) none)) nS2
              refine ⟨S2, _, rfl, .inl (SqL.of upd_same), rfl, ?_, _, rfl, k _ _ ⟨?_, s6.trans s7⟩⟩
              · unfold cutV
                rw [List.all_eq_true]
                intro v hv
                exact List.all_eq_true.mp (flat_parts _) v (List.mem_of_mem_drop (List.mem_of_mem_take hv))
              · have ec : cutV ((zs.zip (tl f)).map fun q => partV q.2 q.1) (some 2) none = ((zs.zip (tl f)).map fun q => partV q.2 q.1).drop 2 := by
                  rw [show (some (2 : Int)) = some ((2 : Nat) : Int) from rfl, cut_drop]
                show inV (.int 0) (cutV _ (some 2) none) = true ↔ _
                rw [ec, zero_in ef le e0]
                constructor
                · exact fun n q => n (q.2.2 e0)
                · exact fun n q => n ⟨wk, okp, fun _ => q⟩
            · have n0 : w0 ≠ tx "set" := fun e => of_decide_eq_false c3 (by rw [e])
              exact k false H6 ⟨⟨fun z => (nomatch z), fun n => absurd ⟨wk, okp, fun q => absurd q n0⟩ n⟩, s6⟩
        · exact ⟨by show 0 ≤ sizeLine; decide, none_ (sa.trans s6) (oN fun q => hb6.mp rfl ((made_iff ef le).mp q.2))⟩
        · have ev : Ev w0 f zs := Classical.byContradiction fun n => by
            have h := hb6.mpr n
            cases h
          refine nxt ?_
          have hR6 := s6 _ _ hRa
          have hF6 := s6 _ _ hb
          refine ⟨_, rfl, at5 hR6 ⟨by show 1 ≤ sizeLine; decide, fun t1 n1 => ?_⟩⟩
          have z1 := same_new (o := .tup [V.str w0]) n1
          refine ⟨_, rfl, F, _, rfl, .inl ⟨SqL.of (z1 _ _ hF6), fun t2 n2 => ?_⟩⟩
          have z2 := same_new (o := .tup ((zs.zip (tl f)).map fun q => partV q.2 q.1)) n2
          refine ⟨t1, t2, _, _, rfl, rfl, SqT.of (z2 _ _ upd_same), SqT.of upd_same, by rw [List.length_map, List.length_singleton, sizeLine_eq]; omega, fun e => (nomatch e), fun _ e => ?_, fun _ _ p np => ?_⟩
          · have e := congrArg List.length e
            rw [List.length_map, prL, List.length_nil] at e
            omega
          · have z3 := same_new (o := .tup ([V.str w0] ++ (zs.zip (tl f)).map fun q => partV q.2 q.1)) np
            exact kY _ (oY ⟨le, (made_iff ef le).mpr ev⟩) p _ ((((sa.trans s6).trans z1).trans z2).trans z3) (.tup (SqT.of upd_same) (.cons (.str _) (parts_dd wk)))
end
end Toy
set_option Elab.async false
set_option linter.all false
set_option maxRecDepth 100000
set_option maxHeartbeats 1000000
namespace Toy
open PySem L2 Q RZ D7 TL StX
/-! ### what is shown of an event is read again; the law's is_form -/
theorem num_ok {n : Nat} (h : n < 1000000000) : NumOk (num n) ∧ valW (num n) = n := by
  refine ⟨⟨(num_len h).1, (num_len h).2, fun c hc => ?_, ?_⟩, ?_⟩
  · rw [num_tl] at hc
    refine ⟨Classical.byContradiction fun q => numL_free (n := n) (s := c) (.inl (by omega)) hc, Classical.byContradiction fun q => numL_free (n := n) (s := c) (.inr (by omega)) hc⟩
  · by_cases z : n = 0
    · subst z
      exact .inl (by decide +kernel)
    · refine .inr fun c hc => ?_
      obtain ⟨c', l, e, ne⟩ := numL_head (n := n) (by omega)
      rw [num_tl, e] at hc
      injection hc with hc
      rw [← hc]
      exact ne
  · unfold valW
    rw [num_tl]
    exact numL_val n
/-- a part by its form: a name, or a whole number of nine figures at the most -/
def FormP (e : PyData) : Prop := (∃ z, e = .str z ∧ NameOk z) ∨ ∃ n : Nat, e = .int (n : Int) ∧ n < 1000000000
theorem ev_parts {w : Str} {ds : List PyData} (h : EventD (.tuple (.str w :: ds))) : (∃ f, formsL.lookup w = some f ∧ ds.length = f.length) ∧ ∀ e ∈ ds, NameD e ∨ fromB e 0 = true := by
  obtain ⟨w', f, ds', e, ef, le, kinds, _⟩ := h
  injection e with e
  injection e with e1 e2
  injection e1 with e1
  subst e1 e2
  refine ⟨⟨f, ef, le⟩, fun e m => ?_⟩
  obtain ⟨i, hi⟩ := List.getElem?_of_mem m
  have li := (List.getElem?_eq_some_iff.mp hi).1
  have k := kinds i e (f.cps[i]'(by show i < f.length; omega)) hi (Array.getElem?_eq_getElem _)
  unfold KindD at k
  split at k
  · exact .inl k
  · refine .inr ?_
    cases e with
    | int n =>
      have k : decide (_ ≤ n) = true := k
      have k := of_decide_eq_true k
      show decide (0 ≤ n) = true
      rw [decide_eq_true_iff]
      split at k <;> omega
    | _ => cases k
theorem part_back {c : Nat} {e : PyData} (f : FormP e) (k : KindD ⟨#[c]⟩ e) : partD c (partT e) = e := by
  have cr : (⟨#[c]⟩ : Str) = tx "r" ↔ c = 114 := by
    constructor
    · intro e
      have e2 : tl (⟨#[c]⟩ : Str) = tl (tx "r") := congrArg tl e
      rw [show tl (tx "r") = [114] by decide +kernel] at e2
      injection e2
    · rintro rfl
      decide +kernel
  unfold KindD at k
  unfold partD
  by_cases h : c = 114
  · rw [if_pos (cr.mpr h)] at k
    rw [if_pos h]
    obtain ⟨z, rfl, _⟩ := k
    rfl
  · rw [if_neg (fun q => h (cr.mp q))] at k
    rw [if_neg h]
    rcases f with ⟨z, rfl, _⟩ | ⟨n, rfl, l⟩
    · cases k
    · obtain ⟨h1, h2⟩ := num_ok l
      have e : partT (.int (n : Int)) = num n := rfl
      rw [e, if_pos h1, h2]
theorem forms_words : ∀ q ∈ formsL, 32 ∉ tl q.1 ∧ q.1.length ≤ 5 ∧ PyData.strOk q.1 = true := by decide +kernel
theorem form_free {e : PyData} (f : FormP e) : Free 32 (partT e) := by
  rcases f with ⟨z, rfl, n⟩ | ⟨n, rfl, l⟩
  · exact free_name (by decide) n.2.2
  · exact free_num (by decide) n
/-- what is shown of an event is read again -/
theorem round {w : Str} {ds : List PyData} (al : ∀ e ∈ ds, FormP e) (h : EventD (.tuple (.str w :: ds))) : evD (rowT (.str w :: ds)) = some (.tuple (.str w :: ds)) := by
  have h0 := h
  obtain ⟨w', f, ds', e, ef, le, kinds, _⟩ := h
  injection e with e
  injection e with e1 e2
  injection e1 with e1
  subst e1 e2
  have wf := forms_words _ (look_mem ef)
  have ew : wordsOf (rowT (.str w :: ds)) = w :: ds.map partT := by
    refine split_wrd (ws := w :: ds.map partT) (by simp) fun z hz => ?_
    rcases List.mem_cons.mp hz with rfl | hz
    · exact wf.1
    · obtain ⟨e, m, rfl⟩ := List.mem_map.mp hz
      exact form_free (al e m)
  have em : madeD w (ds.map partT) f = .tuple (.str w :: ds) := by
    unfold madeD
    congr 2
    refine List.ext_getElem? fun i => ?_
    rw [List.getElem?_map]
    cases hi : ds[i]? with
    | none =>
      have := List.getElem?_eq_none_iff.mp hi
      rw [List.getElem?_eq_none (by rw [List.length_zip, List.length_map]; omega)]
      rfl
    | some e =>
      have li := (List.getElem?_eq_some_iff.mp hi).1
      have hc : f.cps[i]? = some (f.cps[i]'(by show i < f.length; omega)) := Array.getElem?_eq_getElem _
      have hz : ((ds.map partT).zip (tl f))[i]? = some (partT e, f.cps[i]'(by show i < f.length; omega)) := by
        rw [List.getElem?_zip_eq_some]
        exact ⟨by rw [List.getElem?_map, hi]; rfl, by rw [Array.getElem?_toList]; exact hc⟩
      rw [hz]
      exact congrArg some (part_back (al e (List.mem_of_getElem? hi)) (kinds i e _ hi hc))
  refine em ▸ (evD_at ew ef).1 ⟨by rw [List.length_map, le], em.symm ▸ h0⟩
/-! flat data beside each other -/
def KeyD (e : PyData) : Prop := (∃ z, e = .str z ∧ PyData.strOk z = true) ∨ ∃ i : Int, e = .int i
theorem eqv_key {x y : PyData} (hx : KeyD x) (hy : KeyD y) : PyData.eqv x y = true ↔ x = y := by
  rcases hx with ⟨z, rfl, _⟩ | ⟨i, rfl⟩ <;> rcases hy with ⟨z', rfl, _⟩ | ⟨j, rfl⟩ <;> simp [PyData.eqv]
theorem eqv_keys : ∀ {xs ys : List PyData}, (∀ x ∈ xs, KeyD x) → (∀ y ∈ ys, KeyD y) → (PyData.eqvAll xs ys = true ↔ xs = ys)
  | [], [], _, _ => by simp [PyData.eqvAll]
  | [], y :: ys, _, _ => by simp [PyData.eqvAll]
  | x :: xs, [], _, _ => by simp [PyData.eqvAll]
  | x :: xs, y :: ys, hx, hy => by
    rw [PyData.eqvAll, Bool.and_eq_true, eqv_key (hx x List.mem_cons_self) (hy y List.mem_cons_self), eqv_keys (fun u m => hx u (List.mem_cons_of_mem _ m)) (fun u m => hy u (List.mem_cons_of_mem _ m)), List.cons.injEq]
theorem eqv_tup {xs ys : List PyData} (hx : ∀ x ∈ xs, KeyD x) (hy : ∀ y ∈ ys, KeyD y) : PyData.eqv (.tuple xs) (.tuple ys) = true ↔ PyData.tuple xs = PyData.tuple ys := by
  rw [PyData.eqv, eqv_keys hx hy, PyData.tuple.injEq]
theorem keys_lay : ∀ {xs : List PyData}, (∀ x ∈ xs, KeyD x) → PyData.canLayAll0 xs = true ∧ PyData.depthAll xs ≤ 1
  | [], _ => ⟨rfl, Nat.zero_le _⟩
  | x :: xs, h => by
    obtain ⟨h1, h2⟩ := keys_lay (xs := xs) fun u m => h u (List.mem_cons_of_mem _ m)
    rcases h x List.mem_cons_self with ⟨z, rfl, ok⟩ | ⟨i, rfl⟩
    · simp only [PyData.canLayAll0, PyData.canLay0, ok, h1, PyData.depthAll, PyData.depth, Bool.and_self, true_and]
      omega
    · simp only [PyData.canLayAll0, PyData.canLay0, h1, PyData.depthAll, PyData.depth, Bool.and_self, true_and]
      omega
theorem keys_shaped {xs : List PyData} (h : ∀ x ∈ xs, KeyD x) : SeqAt.shaped (.tuple xs) = true := by
  obtain ⟨h1, h2⟩ := keys_lay h
  unfold SeqAt.shaped
  rw [PyData.canLay0, h1, PyData.depth, Bool.true_and, decide_eq_true_eq]
  omega
theorem keys_dp {K : PySem.W.Frag} {H : Hp} : ∀ {vs : List V} {xs : List PyData}, (∀ x ∈ xs, KeyD x) → DdAll K H vs xs → DpAll K H vs xs
  | _, _, _, .nil => .nil
  | _, _, h, .cons a b => .cons (by
      rcases h _ List.mem_cons_self with ⟨z, rfl, _⟩ | ⟨i, rfl⟩
      · cases a
        exact .str _
      · cases a
        exact .int _) (keys_dp (fun u m => h u (List.mem_cons_of_mem _ m)) b)
theorem name_sok {z : Str} (h : NameOk z) : PyData.strOk z = true := by
  unfold PyData.strOk
  rw [← Array.all_toList, List.all_eq_true]
  intro c hc
  have := h.2.2 c hc
  exact decide_eq_true (by omega)
theorem event_keys {ds : List PyData} (h : EventD (.tuple ds)) : ∀ e ∈ ds, KeyD e := by
  have h0 := h
  obtain ⟨w, f, ds', e, ef, _⟩ := h
  injection e with e
  subst e
  obtain ⟨_, al⟩ := ev_parts h0
  intro e m
  rcases List.mem_cons.mp m with rfl | m
  · exact .inl ⟨w, rfl, (forms_words _ (look_mem ef)).2.2⟩
  · rcases al e m with ⟨z, rfl, n⟩ | k
    · exact .inl ⟨z, rfl, name_sok n⟩
    · cases e with
      | int i => exact .inr ⟨i, rfl⟩
      | _ => cases k
theorem pw_all {R : PyData → Prop} : ∀ {bs : List Bool} {dr : List PyData}, bs.length = dr.length → (∀ (j : Nat) (e : PyData) (b : Bool), dr[j]? = some e → bs[j]? = some b → (b = true ↔ R e)) → (bs.all id = true ↔ ∀ e ∈ dr, R e) ∧ (bs.any id = true ↔ ∃ e ∈ dr, R e)
  | [], [], _, _ => by simp
  | b :: bs, e :: dr, l, h => by
    obtain ⟨h1, h2⟩ := pw_all (R := R) (bs := bs) (dr := dr) (by simpa using l) fun j e b he hb => h (j + 1) e b (by simpa using he) (by simpa using hb)
    have h0 := h 0 e b rfl rfl
    constructor
    · rw [List.all_cons, Bool.and_eq_true, h1, List.forall_mem_cons]
      exact and_congr_left fun _ => h0
    · rw [List.any_cons, Bool.or_eq_true, h2]
      constructor
      · rintro (q | ⟨u, m, q⟩)
        · exact ⟨e, List.mem_cons_self, h0.mp q⟩
        · exact ⟨u, List.mem_cons_of_mem _ m, q⟩
      · rintro ⟨u, m, q⟩
        rcases List.mem_cons.mp m with rfl | m
        · exact .inl (h0.mpr q)
        · exact .inr ⟨u, m, q⟩
theorem lc_rest {K : PySem.W.Frag} {H : Hp} {a : Addr} {x0 : V} {xr : List V} {dr : List PyData} {te : TE} {Q : VK} (hx : SqT K H a (x0 :: xr)) (hrr : DdAll K H xr dr) (few : dr.length ≤ 100) (R : PyData → Prop)
    (item : ∀ (v : V) (e : PyData) (H' : Hp), Same H H' → Dd K H' v e → e ∈ dr → ∀ Q' : VK, (∀ (b : Bool) H'', Same H' H'' → (b = true ↔ R e) → Q' (.bl b) H'') → te [some (.ref a), some v] H' Q')
    (k : ∀ (D : Addr) (bs : List Bool) (H' : Hp), Same H H' → SqL K H' D (bs.map V.bl) → (bs.all id = true ↔ ∀ e ∈ dr, R e) → (bs.any id = true ↔ ∃ e ∈ dr, R e) → Q (.ref D) H') :
    tLc (iTup K (tSl (rSlA K) (tVar 0) (tPart (tC (.int 1))) tNoPart)) (gName 1) tYes te [1] [some (.ref a), none] H Q := by
  have lr := dd_len hrr
  refine ⟨_, rfl, _, rfl, ?_⟩
  dsimp only [tNoPart]
  refine slA hx fun p H1 s1 hp => ?_
  have ecut : cutV (x0 :: xr) (some 1) none = xr := by
    rw [show (some (1 : Int)) = some ((1 : Nat) : Int) from rfl, cut_drop]
    rfl
  rw [ecut] at hp
  have hrr1 : DdAll K H1 xr dr := DdAll.same s1 hrr
  refine ⟨p, rfl, ⟨_, hp⟩, fun D nD => ?_⟩
  refine lc_it (walk_tup (xs := xr)) (fun i H' => ∃ bs : List Bool, bs.length = i ∧ H' D = some (.lst (bs.map V.bl)) ∧ Same H1 H' ∧ ∀ (j : Nat) (e : PyData) (b : Bool), dr[j]? = some e → bs[j]? = some b → (b = true ↔ R e))
    ⟨[], rfl, upd_same, same_new nD, fun j e b _ q => by simp at q⟩ (fun i H' _ ⟨_, _, _, q, _⟩ => SqT.same q hp) ?_ ?_
  · rintro i x Ha Hb hi ⟨bs, lb, hb, sm, pw⟩ ⟨rfl, hxi⟩
    obtain ⟨e, he, hxe⟩ := dd_at hrr1 hxi
    refine ⟨rfl, ?_⟩
    dsimp only [tYes]
    rw [if_pos rfl]
    refine item x e Hb (s1.trans sm) (hxe.same sm) (List.mem_of_getElem? he) _ fun b H5 s5 hb5 => ?_
    refine ⟨_, s5 _ _ hb, by rw [List.length_map, sizeLine_eq]; have := (List.getElem?_eq_some_iff.mp he).1; omega, bs ++ [b], by simp [lb], by rw [upd_same, List.map_append]; rfl, Same.upd_at (sm.trans s5) nD, fun j e' b' he' hb' => ?_⟩
    by_cases lj : j < bs.length
    · rw [List.getElem?_append_left lj] at hb'
      exact pw j e' b' he' hb'
    · have l2 := (List.getElem?_eq_some_iff.mp hb').1
      rw [List.length_append, List.length_singleton] at l2
      obtain rfl : j = i := by omega
      rw [he] at he'
      injection he' with he'
      rw [List.getElem?_append_right (by omega), lb, Nat.sub_self] at hb'
      injection hb' with hb'
      rw [← he', ← hb']
      exact hb5
  · rintro H3 ⟨bs, lb, hb, s3, pw⟩
    obtain ⟨h1, h2⟩ := pw_all (bs := bs) (dr := dr) (by omega) pw
    exact k D bs H3 (s1.trans s3) (SqL.of hb) h1 h2
def spIsForm (K : PySem.W.Frag) : Sp := fun vs H Q _ => ∃ (v : V) (d : PyData), vs = [v] ∧ Dd K H v d ∧ num9 d = true ∧ ∀ b : Bool, (b = true ↔ EventD d) → ∀ H', Same H H' → Q (.bl b) H'
section
variable {P : Program} {w : World} {K : PySem.W.Frag} {mg : Str → Option Value} {base : Heap} {ca ia fa : Nat → Addr} {fd fi : Nat → FuncData}
theorem ok_lFrom (T : Txt w K mg ca ia fa fd fi) : FnOk P w K mg base CX0 1 (fa 35) (fd 35) ["_law_value", "_law_least"] (spFromA K) := by
  refine T.F_l_is_from.ok sc_l_is_from (fun vs H Q E h => ?_) (fun cdv A outer s H vs Q E hr h => ?_)
  · obtain ⟨v, d, l, rfl, _⟩ := h
    rfl
  · obtain ⟨v, d, l, rfl, hd, k⟩ := h
    refine ⟨_, (pss_one (ps_ret (pe_and (pe_callB call_isA (by rfl) T.n_isinstance (by decide +kernel) (pa_cons (pv 0) (pa_cons (pe_bltn (v := .ty "int") (by rfl) T.n_int (by decide +kernel) rfl) pa_nil))) (pe_and (pe_not (pe_callB call_isA (by rfl) T.n_isinstance (by decide +kernel) (pa_cons (pv 0) (pa_cons (pe_bltn (v := .ty "bool") (by rfl) T.n_bool (by decide +kernel) rfl) pa_nil)))) (pe_one (pe_cmpR op_ge (pv 0) (pv 1) (nomark _))))))), ?_⟩
    obtain ⟨t, ty, e1, e2, _⟩ := hd.kits
    refine ⟨_, rfl, .inl ⟨_, _, _, _, _, rfl, .ty _, ty, e1, _, rfl, ifB (fun c => ?_) fun c => ?_⟩⟩
    · refine ⟨_, rfl, .inl ⟨_, _, _, _, _, rfl, .ty _, ty, e2, _, rfl, _, rfl, ifB (fun c2 => ?_) fun c2 => ?_⟩⟩
      · have e : intB d = true := by
          cases d <;> first | rfl | (cases c2; done) | (cases c; done)
        obtain ⟨i, rfl, rfl⟩ := intB_of hd e
        exact ⟨_, rfl, _, rfl, _, _, rfl, rfl, k⟩
      · have e : intB d = false := by
          cases d <;> first | rfl | (cases c2; done)
        rw [fromB_no e] at k
        first | exact k | (rw [c2]; exact k)
    · have e : intB d = false := by
        cases d <;> first | rfl | (cases c; done)
      rw [fromB_no e] at k
      first | exact k | (rw [c]; exact k)
theorem ok_isForm (T : Txt w K mg ca ia fa fd fi) : FnOk P w K mg base CX0 4 (fa 40) (fd 40) ["_law_value"] (spIsForm K) := by
  have G_l_is_name := ok_l_nameA (P := P) (w := w) (base := base) T
  have G_l_is_from := ok_lFrom (P := P) (w := w) (base := base) T
  have G_l_event_page := ok_lPage (P := P) (w := w) (base := base) T
  have G_l_event_read := ok_lRead (P := P) (w := w) (base := base) T
  refine T.F_l_is_form.ok sc_l_is_form (fun vs H Q E h => ?_) (fun cdv A outer s H vs Q E hr h => ?_)
  · obtain ⟨v, d, rfl, _⟩ := h
    rfl
  · obtain ⟨v, d, rfl, hd, n9, k⟩ := h
    refine ⟨_, (pss_cons (ps_if (PW.pt (pw_or (pt_not (pt_val (pe_callB call_isA (by rfl) T.n_isinstance (by decide +kernel) (pa_cons (pv 0) (pa_cons (pe_bltn (v := .ty "tuple") (by rfl) T.n_tuple (by decide +kernel) rfl) pa_nil))))) (pw_or (pt_cmpR (op_eqNilT (roomU1 hr)) (pv 0) (pe_tup pa_nil) (nomark _)) (pw_or1 (pt_not (pt_val (pe_callB call_isA (by rfl) T.n_isinstance (by decide +kernel) (pa_cons (pe_ix ix_seq (pv 0) pe_int (fun _ _ => rfl)) (pa_cons (pe_bltn (v := .ty "str") (by rfl) T.n_str (by decide +kernel) rfl) pa_nil))))))))) (pss_one (ps_ret pe_bl)) pss_nil)
      (pss_cons (ps_if (pt_not (pt_val (pe_callB (cr_all rfl) (by rfl) T.n_all (by decide +kernel) (pa_cons (pe_lc (own := [("_law_part", 1)]) (g := (gName 1)) (tt := tYes) (te := (tOrV (tCB (rIsA K) (tCons (tVar 1) (tCons (tC (.ty "str")) tNil))) (tCall (spFromA K) [] E0 (tCons (tVar 1) (tCons (tC (.int 0)) tNil))))) rfl sc_l_is_form.nd (pi_tup (pe_slice sl_tupA (pv 0) (po_some pe_int) po_none)) (blkOk_by (own := [("_law_part", 1)]) (N := N_l_is_form) (sc := defScope s_l_is_form) (by decide +kernel)) (fun _ _ _ _ _ => (pg_name (i := 1) sc_l_is_form.nd rfl (Or.inl rfl))) (fun _ _ _ _ _ => pts_nil) (fun _ _ _ _ _ => by exact (pe_or (pe_callB call_isA (by rfl) T.n_isinstance (by decide +kernel) (pa_cons (pv 1) (pa_cons (pe_bltn (v := .ty "str") (by rfl) T.n_str (by decide +kernel) rfl) pa_nil))) (pe_one (pe_call G_l_is_from (hr.mono (by decide)) rfl T.g_l_is_from T.k_l_is_from T.b_l_is_from .nil pass0 (pa_cons (pv 1) (pa_cons pe_int pa_nil))))))) pa_nil)))) (pss_one (ps_ret pe_bl)) pss_nil)
      (pss_cons (ps_if (pt_val (pe_callB (cr_any rfl) (by rfl) T.n_any (by decide +kernel) (pa_cons (pe_lc (own := [("_law_part", 1)]) (g := (gName 1)) (tt := tYes) (te := (tAndV (tCB (rIsA K) (tCons (tVar 1) (tCons (tC (.ty "str")) tNil))) (tNotV (tCall (spNameA K) [] E0 (tCons (tVar 1) tNil))))) rfl sc_l_is_form.nd (pi_tup (pe_slice sl_tupA (pv 0) (po_some pe_int) po_none)) (blkOk_by (own := [("_law_part", 1)]) (N := N_l_is_form) (sc := defScope s_l_is_form) (by decide +kernel)) (fun _ _ _ _ _ => (pg_name (i := 1) sc_l_is_form.nd rfl (Or.inl rfl))) (fun _ _ _ _ _ => pts_nil) (fun _ _ _ _ _ => by exact (pe_and (pe_callB call_isA (by rfl) T.n_isinstance (by decide +kernel) (pa_cons (pv 1) (pa_cons (pe_bltn (v := .ty "str") (by rfl) T.n_str (by decide +kernel) rfl) pa_nil))) (pe_one (pe_not (pe_call G_l_is_name (hr.mono (by decide)) rfl T.g_l_is_name T.k_l_is_name T.b_l_is_name .nil pass0 (pa_cons (pv 1) pa_nil))))))) pa_nil))) (pss_one (ps_ret pe_bl)) pss_nil)
      (pss_cons (ps_if (pt_val (pe_callB (cr_any rfl) (by rfl) T.n_any (by decide +kernel) (pa_cons (pe_lc (own := [("_law_part", 1)]) (g := (gName 1)) (tt := tYes) (te := (tAndV (tNotV (tCB (rIsA K) (tCons (tVar 1) (tCons (tC (.ty "str")) tNil)))) (tOp (rI0 fun i j => .bl (decide (j < i))) (tVar 1) (tC (.int 999999999))))) rfl sc_l_is_form.nd (pi_tup (pe_slice sl_tupA (pv 0) (po_some pe_int) po_none)) (blkOk_by (own := [("_law_part", 1)]) (N := N_l_is_form) (sc := defScope s_l_is_form) (by decide +kernel)) (fun _ _ _ _ _ => (pg_name (i := 1) sc_l_is_form.nd rfl (Or.inl rfl))) (fun _ _ _ _ _ => pts_nil) (fun _ _ _ _ _ => by exact (pe_and (pe_not (pe_callB call_isA (by rfl) T.n_isinstance (by decide +kernel) (pa_cons (pv 1) (pa_cons (pe_bltn (v := .ty "str") (by rfl) T.n_str (by decide +kernel) rfl) pa_nil)))) (pe_one (pe_cmpR op_gt (pv 1) pe_int (nomark _)))))) pa_nil))) (pss_one (ps_ret pe_bl)) pss_nil)
      (pss_one (ps_ret (pe_cmpR (op_eqD hr.units) (pe_call G_l_event_read (hr.mono (by decide)) rfl T.g_l_event_read T.k_l_event_read T.b_l_event_read .nil pass0 (pa_cons (pe_call G_l_event_page (hr.mono (by decide)) rfl T.g_l_event_page T.k_l_event_page T.b_l_event_page .nil pass0 (pa_cons (pv 0) pa_nil)) pa_nil)) (pv 0) (nomark _)))))))), ?_⟩
    obtain ⟨t, ty, _, _, _, e4⟩ := hd.kits
    have no : ∀ {H'}, Same H H' → ¬ EventD d → Q (.bl false) H' := fun {H'} s' n => k false ⟨fun q => (nomatch q), fun q => absurd q n⟩ H' s'
    refine ⟨_, rfl, .inl ⟨_, _, _, _, _, rfl, .ty _, ty, e4, _, rfl, ifE (fun c => ?_) fun c => ?_⟩⟩
    · exact no (Same.refl H) fun ⟨w, f, ds, e, _⟩ => by rw [e] at c; cases c
    obtain ⟨a, xs, ds, rfl, rfl, hx, ha⟩ := tupB_of hd (by simpa using c)
    have lx := dd_len ha
    have nine : num9All ds = true ∧ ds.length ≤ 100 := by
      unfold num9 at n9
      rw [Bool.and_eq_true] at n9
      exact ⟨n9.2, of_decide_eq_true n9.1⟩
    have nall := num9_all.mp nine.1
    refine ⟨_, rfl, by show 0 ≤ sizeLine; decide, fun e0 n0 => ?_⟩
    have s0 := same_new (o := .tup []) n0
    have h0' : upd H e0 (.tup []) e0 = some (.tup []) := upd_same
    have hx0 := SqT.same s0 hx
    have ha0 : DdAll K (upd H e0 (.tup [])) xs ds := DdAll.same s0 ha
    generalize upd H e0 (.tup []) = H0 at s0 h0' hx0 ha0 ⊢
    refine ⟨a, e0, xs, rfl, rfl, hx0, SqT.of h0', _, rfl, ?_⟩
    match xs, ds, ha0, lx, nall, nine with
    | [], [], _, _, _, _ => exact iteB rfl (no s0 fun ⟨w, f, ds, e, _⟩ => by cases e)
    | x0 :: xr, e0 :: dr, .cons h0 hrr, lx, nall, nine =>
    refine iteB2 rfl ?_
    have few : dr.length ≤ 100 := by have := nine.2; rw [List.length_cons] at this; omega
    obtain ⟨t0, ty0, _, _, es0, _⟩ := h0.kits
    refine ⟨_, rfl, ixT hx0 0 rfl (.inl ⟨x0, .ty "str", _, _, strB e0, rfl, .ty _, ty0, es0, _, rfl, ifE (fun c0 => ?_) fun c0 => ?_⟩)⟩
    · exact no s0 fun ⟨w, f, ds, e, _⟩ => by
        injection e with e
        injection e with e _
        rw [e] at c0
        cases c0
    obtain ⟨wd, rfl, rfl⟩ := strB_of h0 (by simpa using c0)
    refine nxt ?_
    have isS : ∀ {v : V} {e : PyData} {H' : Hp}, Dd K H' v e → ∃ t, TyX K H' v t ∧ PySem.W.kitOne K t (.type "str") = some (strB e) := fun {v e H'} h => by
      obtain ⟨t, ty, _, _, es, _⟩ := h.kits
      exact ⟨t, ty, es⟩
    have txo : ∀ e ∈ dr, TxOk e := fun e m z ez => by
      have h := nall e (List.mem_cons_of_mem _ m)
      rw [ez] at h
      unfold num9 at h
      rw [Bool.and_eq_true] at h
      have := of_decide_eq_true h.1
      omega
    refine ifCutN (fun b H' => (b = true ↔ ¬ ∀ e ∈ dr, strB e = true ∨ fromB e 0 = true) ∧ Same H0 H') (fun Q' k' => ?_) (fun H1 ⟨hb1, s1⟩ => ?_) fun H1 ⟨hb1, s1⟩ => ?_
    · dsimp only [tNot, tB, tCB, tCons]
      refine lc_rest hx0 hrr few (fun e => strB e = true ∨ fromB e 0 = true) (fun v e H' s' hv m Q2 q2 => ?_) fun D bs H' s' hD hall _ => ?_
      · obtain ⟨t, ty, es⟩ := isS hv
        refine ⟨_, rfl, .inl ⟨_, _, _, _, _, rfl, .ty _, ty, es, _, rfl, ifB (fun c1 => ?_) fun c1 => ?_⟩⟩
        · exact q2 true H' (Same.refl _) ⟨fun _ => .inl c1, fun _ => rfl⟩
        · exact ⟨_, rfl, v, e, 0, rfl, hv, q2 _ H' (Same.refl _) ⟨fun h => .inr h, fun h => h.resolve_left (by rw [c1]; exact Bool.false_ne_true)⟩⟩
      · exact ⟨D, bs, rfl, hD, _, rfl, k' _ H' ⟨by rw [Bool.not_eq_true', ← Bool.not_eq_true, hall], s'⟩⟩
    · refine no (s0.trans s1) fun q => hb1.mp rfl fun e m => ?_
      rcases (ev_parts q).2 e m with ⟨z, rfl, _⟩ | h
      · exact .inl rfl
      · exact .inr h
    have all1 : ∀ e ∈ dr, strB e = true ∨ fromB e 0 = true := Classical.byContradiction fun n => by
      have h := hb1.mpr n
      cases h
    refine nxt ?_
    have hx1 := SqT.same s1 hx0
    have hrr1 : DdAll K H1 xr dr := DdAll.same s1 hrr
    refine ifCutN (fun b H' => (b = true ↔ ∃ e ∈ dr, strB e = true ∧ ¬ NameD e) ∧ Same H1 H') (fun Q' k' => ?_) (fun H2 ⟨hb2, s2⟩ => ?_) fun H2 ⟨hb2, s2⟩ => ?_
    · dsimp only [tB, tCB, tCons]
      refine lc_rest hx1 hrr1 few (fun e => strB e = true ∧ ¬ NameD e) (fun v e H' s' hv m Q2 q2 => ?_) fun D bs H' s' hD _ hany => ?_
      · obtain ⟨t, ty, es⟩ := isS hv
        refine ⟨_, rfl, .inl ⟨_, _, _, _, _, rfl, .ty _, ty, es, _, rfl, ifB (fun c1 => ?_) fun c1 => ?_⟩⟩
        · refine ⟨_, rfl, v, e, rfl, hv, txo e m, fun b h1 H5 s5 => ⟨_, rfl, q2 _ H5 s5 ?_⟩⟩
          rw [Bool.not_eq_true', ← Bool.not_eq_true, h1]
          exact ⟨fun h => ⟨c1, h⟩, fun h => h.2⟩
        · exact q2 false H' (Same.refl _) ⟨fun h => (nomatch h), fun h => absurd h.1 (by rw [c1]; exact Bool.false_ne_true)⟩
      · exact ⟨D, bs, rfl, hD, _, rfl, k' _ H' ⟨hany, s'⟩⟩
    · refine no ((s0.trans s1).trans s2) fun q => ?_
      obtain ⟨e, m, h1, h2⟩ := hb2.mp rfl
      rcases (ev_parts q).2 e m with n | h
      · exact h2 n
      · cases e with
        | int i => cases h1
        | _ => cases h
    have all2 : ∀ e ∈ dr, strB e = true → NameD e := fun e m h => Classical.byContradiction fun n => by
      have h := hb2.mpr ⟨e, m, h, n⟩
      cases h
    have form : ∀ e ∈ dr, FormP e := fun e m => by
      rcases all1 e m with h | h
      · exact .inl (all2 e m h)
      · cases e with
        | int i =>
          have h : decide (0 ≤ i) = true := h
          have h := of_decide_eq_true h
          have h2 := nall _ (List.mem_cons_of_mem _ m)
          unfold num9 at h2
          have h2 := of_decide_eq_true h2
          obtain ⟨n, rfl⟩ := Int.eq_ofNat_of_zero_le h
          rw [Int.natAbs_natCast] at h2
          exact .inr ⟨n, rfl, h2⟩
        | _ => cases h
    refine nxt ?_
    have hx2 := SqT.same s2 hx1
    have hrr2 : DdAll K H2 xr dr := DdAll.same s2 hrr1
    refine ifCutN (fun b H' => (b = true ↔ ∃ e ∈ dr, False) ∧ Same H2 H') (fun Q' k' => ?_) (fun H3 ⟨hb3, s3⟩ => ?_) fun H3 ⟨hb3, s3⟩ => ?_
    · dsimp only [tB, tCB, tCons]
      refine lc_rest hx2 hrr2 few (fun e => False) (fun v e H' s' hv m Q2 q2 => ?_) fun D bs H' s' hD _ hany => ?_
      · obtain ⟨t, ty, es⟩ := isS hv
        refine ⟨_, rfl, .inl ⟨_, _, _, _, _, rfl, .ty _, ty, es, _, rfl, _, rfl, ifB (fun c1 => ?_) fun c1 => ?_⟩⟩
        · have c2 : strB e = false := by simpa using c1
          rcases form e m with ⟨z, rfl, _⟩ | ⟨n, rfl, l⟩
          · cases c2
          · have ev : v = .int (n : Int) := by cases hv; rfl
            rw [ev]
            refine ⟨_, rfl, _, _, rfl, rfl, q2 _ H' (Same.refl _) ⟨fun h => ?_, fun h => h.elim⟩⟩
            have h := of_decide_eq_true h
            omega
        · exact q2 false H' (Same.refl _) ⟨fun h => (nomatch h), fun h => h.elim⟩
      · exact ⟨D, bs, rfl, hD, _, rfl, k' _ H' ⟨hany, s'⟩⟩
    · obtain ⟨e, _, h⟩ := hb3.mp rfl
      exact h.elim
    refine nxt ?_
    have s03 := ((s0.trans s1).trans s2).trans s3
    have hd3 := hd.same s03
    have wd12 : wd.length ≤ 12 ∧ PyData.strOk wd = true := by
      have h := nall _ List.mem_cons_self
      unfold num9 at h
      rw [Bool.and_eq_true] at h
      exact ⟨of_decide_eq_true h.1, h.2⟩
    have pl : ∀ e ∈ (.str wd :: dr : List PyData), PartOk e ∧ (partT e).length ≤ 12 := fun e m => by
      rcases List.mem_cons.mp m with rfl | m
      · exact ⟨.inl ⟨_, rfl⟩, wd12.1⟩
      · rcases form e m with ⟨z, rfl, nz⟩ | ⟨n, rfl, l⟩
        · exact ⟨.inl ⟨_, rfl⟩, by have := nz.2.1; show z.length ≤ 12; omega⟩
        · exact ⟨.inr ⟨_, rfl, num_log l⟩, Nat.le_trans (num_len l).2 (by decide)⟩
    have rl : (rowT (.str wd :: dr)).length ≤ 9000 := by
      have h := wrd_len (ws := (.str wd :: dr : List PyData).map partT) (m := 12) fun y hy => by
        obtain ⟨u, hu, rfl⟩ := List.mem_map.mp hy
        exact (pl u hu).2
      rw [List.length_map, List.length_cons] at h
      refine Nat.le_trans h ?_
      omega
    have kd : ∀ e ∈ (.str wd :: dr : List PyData), KeyD e := fun e m => by
      rcases List.mem_cons.mp m with rfl | m
      · exact .inl ⟨_, rfl, wd12.2⟩
      · rcases form e m with ⟨z, rfl, nz⟩ | ⟨n, rfl, l⟩
        · exact .inl ⟨_, rfl, name_sok nz⟩
        · exact .inr ⟨_, rfl⟩
    refine ⟨_, rfl, .ref a, .str wd :: dr, rfl, hd3, fun e m => ⟨(pl e m).1, by have := (pl e m).2; omega⟩, by rw [List.length_cons]; have := nine.2; rw [List.length_cons] at this; omega, fun H4 s4 => ?_⟩
    have dpOf : ∀ {G : Hp} {v : V} {ys : List PyData}, (∀ e ∈ ys, KeyD e) → Dd K G v (.tuple ys) → Dp K G v (.tuple ys) := fun {G v ys} ky h => by
      cases h with
      | tup hx ha => exact .tup hx (keys_dp ky ha)
    refine ⟨_, rfl, rl, fun d' ed t H5 s5 hd' => ?_, fun en t H5 s5 ht => ?_⟩
    · obtain ⟨⟨ys, rfl, _⟩, ev'⟩ := evD_row ed
      have ky := event_keys ev'
      refine ⟨_, rfl, .tuple ys, .tuple (.str wd :: dr), dpOf ky hd', dpOf kd (hd3.same (s4.trans s5)), keys_shaped ky, keys_shaped kd, k _ ?_ H5 (s03.trans (s4.trans s5))⟩
      rw [eqv_tup ky kd]
      constructor
      · exact fun e => e ▸ ev'
      · intro q
        rw [round form q] at ed
        injection ed with ed
        exact ed.symm
    · refine ⟨_, rfl, .tuple [], .tuple (.str wd :: dr), .tup (SqT.of ht) .nil, dpOf kd (hd3.same (s4.trans s5)), rfl, keys_shaped kd, k _ ?_ H5 (s03.trans (s4.trans s5))⟩
      constructor
      · intro h
        simp [PyData.eqv, PyData.eqvAll] at h
      · intro q
        rw [round form q] at en
        cases en
end
end Toy
set_option Elab.async false
set_option linter.all false
set_option maxRecDepth 100000
set_option maxHeartbeats 1000000
namespace Toy
open PySem L2 Q RZ D7 TL StX
/-! ### any event -/
theorem perm_map {α β : Type} (g : α → β) {ys ws : List β} (p : ys.Perm ws) : ∀ {zs : List α}, ws = zs.map g → ∃ os : List α, os.Perm zs ∧ ys = os.map g := by
  induction p with
  | nil =>
    intro zs e
    cases zs with
    | nil => exact ⟨[], .nil, rfl⟩
    | cons z zs => cases e
  | cons x _ ih =>
    intro zs e
    cases zs with
    | nil => cases e
    | cons z zs =>
      injection e with e1 e2
      obtain ⟨os, q, r⟩ := ih e2
      exact ⟨z :: os, .cons _ q, by rw [e1, r, List.map_cons]⟩
  | swap x y l =>
    intro zs e
    cases zs with
    | nil => cases e
    | cons z zs =>
      cases zs with
      | nil => cases e
      | cons z2 zs =>
        injection e with e1 e2
        injection e2 with e2 e3
        exact ⟨z2 :: z :: zs, .swap _ _ _, by rw [e1, e2, e3, List.map_cons, List.map_cons]⟩
  | trans _ _ ih1 ih2 =>
    intro zs e
    obtain ⟨os, q, r⟩ := ih2 e
    obtain ⟨os2, q2, r2⟩ := ih1 r
    exact ⟨os2, q2.trans q, r2⟩
theorem tup_ok {K : PySem.W.Frag} {p : Addr} {R R' : PyData → Prop} {H : Hp} {B : Nat} {xs : List V} (h : OkA K p R H xs) {n : Nat} (l : xs.length ≤ n) (f : ∀ ds : List PyData, (∀ d ∈ ds, R d) → ds.length ≤ n → R' (.tuple ds)) {a : Addr} (na : H a = none) (po : Pot H p B) : OkV K p R' (upd H a (.tup xs)) (.ref a) := by
  obtain ⟨ds, d1, d2⟩ := h
  exact ⟨_, .tup (SqT.of (off_at upd_same (pot_ne na po))) (DdAll.same (off_mono (same_new na)) d1), f ds d2 (by rw [← dd_len d1]; exact l)⟩
/-- _law_any_event(pot, names): a tuple of texts and whole numbers -/
def spAnyE (K : PySem.W.Frag) : Sp := fun vs H Q _ => ∃ (p q : Addr) (zs : List Str) (B : Nat), vs = [.ref p, .ref q] ∧ Pot H p B ∧ B < 900000 ∧ q ≠ p ∧ H q = some (.lst (zs.map V.str)) ∧ zs.length = 3 ∧ zs.Nodup ∧ (∀ z ∈ zs, NameOk z) ∧
  ∀ v H', But p H H' → Pot H' p (B + 20) → OkV K p (Wm 1) H' v → Q v H'
section
variable {P : Program} {w : World} {K : PySem.W.Frag} {mg : Str → Option Value} {base : Heap} {ca ia fa : Nat → Addr} {fd fi : Nat → FuncData}
theorem ok_anyE (T : Txt w K mg ca ia fa fd fi) : FnOk P w K mg base CX0 4 (fa 42) (fd 42) ["_law_pot_here", "_law_names_here"] (spAnyE K) := by
  have G_l_turned := ok_turned (P := P) (w := w) (base := base) T
  have G_l_of := ok_of (P := P) (w := w) (base := base) T
  have G_l_far := ok_far (P := P) (w := w) (base := base) T
  refine T.F_l_any_event.ok sc_l_any_event (fun vs H Q E h => ?_) (fun cdv A outer s H vs Q E hr h => ?_)
  · obtain ⟨p, q, zs, B, rfl, _⟩ := h
    rfl
  · obtain ⟨p, q, zs, B, rfl, hp, hB, qp, hq, l3, nd, nok, k⟩ := h
    refine ⟨_, (pss_cons (ps_asg (pe_slice sl_list (pe_call G_l_turned (hr.mono (by decide)) rfl T.g_l_turned T.k_l_turned T.b_l_turned .nil pass0 (pa_cons (pv 0) (pa_cons (pv 1) pa_nil))) po_none (po_some pe_int)) (pg_lst rfl (pgs_cons (pg_name (i := 2) sc_l_any_event.nd rfl (Or.inl rfl)) (pgs_cons (pg_name (i := 3) sc_l_any_event.nd rfl (Or.inl rfl)) pgs_nil))))
      (pss_cons (ps_asg (pe_callB (cr_sortTx rfl (roomU hr)) (by rfl) T.n_sorted (by decide +kernel) (pa_cons (pe_callTy (cr_setTx rfl) (by rfl) T.n_set (by decide +kernel) (pa_cons (pe_lst (pa_cons (pv 2) (pa_cons (pv 3) pa_nil))) pa_nil)) pa_nil)) (pg_lst rfl (pgs_cons (pg_name (i := 4) sc_l_any_event.nd rfl (Or.inl rfl)) (pgs_cons (pg_name (i := 5) sc_l_any_event.nd rfl (Or.inl rfl)) pgs_nil))))
      (pss_cons (ps_set (i := 6) sc_l_any_event.nd rfl (Or.inl rfl) (pe_call G_l_of (hr.mono (by decide)) rfl T.g_l_of T.k_l_of T.b_l_of .nil pass0 (pa_cons (pv 0) (pa_cons (pe_lst (pa_cons pe_int (pa_cons pe_int (pa_cons pe_int (pa_cons pe_int (pa_cons pe_int pa_nil)))))) pa_nil))))
      (pss_cons (ps_set (i := 7) sc_l_any_event.nd rfl (Or.inl rfl) (pe_lst (pa_cons (pe_tup (pa_cons pe_str (pa_cons (pv 4) (pa_cons (pv 5) (pa_cons (pe_call G_l_far (hr.mono (by decide)) rfl T.g_l_far T.k_l_far T.b_l_far .nil pass0 (pa_cons (pv 0) pa_nil)) (pa_cons (pe_call G_l_far (hr.mono (by decide)) rfl T.g_l_far T.k_l_far T.b_l_far .nil pass0 (pa_cons (pv 0) pa_nil)) pa_nil)))))) (pa_cons (pe_tup (pa_cons pe_str (pa_cons (pv 4) (pa_cons (pv 5) pa_nil)))) (pa_cons (pe_tup (pa_cons pe_str (pa_cons (pv 2) pa_nil))) (pa_cons (pe_tup (pa_cons pe_str (pa_cons (pv 2) (pa_cons (pv 3) pa_nil)))) pa_nil))))))
      (pss_one (ps_ret (pe_call G_l_of (hr.mono (by decide)) rfl T.g_l_of T.k_l_of T.b_l_of .nil pass0 (pa_cons (pv 0) (pa_cons (pe_op op_cat (pv 7) (pe_lst (pa_cons (pe_tup (pa_cons pe_str (pa_cons (pv 6) (pa_cons (pv 2) pa_nil)))) (pa_cons (pe_tup (pa_cons pe_str (pa_cons (pv 6) pa_nil))) (pa_cons (pe_tup (pa_cons pe_str (pa_cons (pv 2) (pa_cons (pv 2) pa_nil)))) pa_nil))))) pa_nil))))))))), ?_⟩
    refine ⟨_, rfl, _, rfl, p, q, zs.map V.str, B, rfl, hp, by omega, qp, SqL.of hq, by rw [List.length_map]; omega, by rw [List.length_map]; omega, fun ys r H1 perm b1 p1 _ hr1 => ?_⟩
    obtain ⟨us, rfl, pus⟩ : ∃ us : List Str, ys = us.map V.str ∧ us.Perm zs := (perm_map V.str perm rfl).imp fun us h => ⟨h.2, h.1⟩
    have l3' : us.length = 3 := by rw [pus.length_eq, l3]
    have nd' : us.Nodup := pus.nodup_iff.mpr nd
    obtain ⟨a, b, c, rfl⟩ : ∃ a b c, us = [a, b, c] := by
      match us, l3' with
      | [a, b, c], _ => exact ⟨a, b, c, rfl⟩
    have ab : a ≠ b := fun e => by
      rw [e] at nd'
      simp at nd'
    have na := nok a (pus.mem_iff.mp (by simp))
    have nb := nok b (pus.mem_iff.mp (by simp))
    refine noPart_it ⟨_, rfl, cut_strs hr1 (take_strs _ 2) fun S H2 s2 hS => ?_⟩
    refine ⟨S, _, rfl, SqL.of hS, rfl, _, _, rfl, _, _, rfl, rfl, ?_⟩
    have p2 := p1.same s2
    have b2 := b1.trans (But.of s2)
    refine nxt ?_
    refine ⟨_, rfl, _, rfl, by show 2 ≤ sizeLine; decide, fun L nL => ?_⟩
    have sL := same_new (o := .lst ([a, b].map V.str)) nL
    refine ⟨L, [a, b], rfl, SqL.of upd_same, by simp [ab], by show 2 < 4000; decide, fun S2 u2 v2 n2 => ?_⟩
    have sS := same_new (o := SetM w S2 u2) n2
    refine ⟨S2, u2, [a, b], rfl, upd_same, v2, by simp [ab], by show 2 < 4000; decide, fun P2 ws pw lt nP => ?_⟩
    have sP := same_new (o := .lst (ws.map V.str)) nP
    obtain ⟨lo, hi, rfl⟩ : ∃ lo hi, ws = [lo, hi] := by
      have h := pw.length_eq
      match ws, h with
      | [x, y], _ => exact ⟨x, y, rfl⟩
    have nlo : NameOk lo := by
      have m : lo ∈ [a, b] := pw.mem_iff.mp (by simp)
      rcases List.mem_cons.mp m with rfl | m
      · exact na
      · rw [List.mem_singleton.mp m]; exact nb
    have nhi : NameOk hi := by
      have m : hi ∈ [a, b] := pw.mem_iff.mp (by simp)
      rcases List.mem_cons.mp m with rfl | m
      · exact na
      · rw [List.mem_singleton.mp m]; exact nb
    refine ⟨P2, _, rfl, SqL.of upd_same, rfl, _, _, rfl, _, _, rfl, rfl, ?_⟩
    have s23 := (sL.trans sS).trans sP
    have p3 := p2.same s23
    have b3 := b2.trans (But.of s23)
    generalize upd (upd (upd H2 L (.lst ([a, b].map V.str))) S2 (SetM w S2 u2)) P2 (.lst ([lo, hi].map V.str)) = H3 at s23 p3 b3 ⊢
    refine nxt ?_
    refine ⟨_, rfl, by show 5 ≤ sizeLine; decide, fun L2 nL2 => ?_⟩
    have s4 := same_new (o := .lst [.int 0, .int 1, .int 7, .int 10, .int 99999999]) nL2
    refine ⟨p, .ref L2, [.int 0, .int 1, .int 7, .int 10, .int 99999999], _, rfl, p3.same s4, by omega, .inl ⟨L2, rfl, pot_ne nL2 p3, SqL.of upd_same⟩, by decide, by decide, fun i v H4 hv b4 p4 => ?_⟩
    obtain ⟨n, rfl, ln⟩ : ∃ n : Nat, v = .int (n : Int) ∧ n ≤ 99999999 := by
      have m := List.mem_of_getElem? hv
      simp only [List.mem_cons, List.not_mem_nil, or_false] at m
      rcases m with rfl | rfl | rfl | rfl | rfl
      · exact ⟨0, rfl, by decide⟩
      · exact ⟨1, rfl, by decide⟩
      · exact ⟨7, rfl, by decide⟩
      · exact ⟨10, rfl, by decide⟩
      · exact ⟨99999999, rfl, by decide⟩
    have b04 := (b3.trans (But.of s4)).trans b4
    have wS : ∀ {G : Hp} {z : Str}, NameOk z → OkV K p (Wm 0) G (.str z) := fun {G z} h => ⟨_, .str z, .inl ⟨z, rfl, h.2.2, h.2.1⟩⟩
    have wI : ∀ {G : Hp} {n : Nat}, n ≤ 99999999 → OkV K p (Wm 0) G (.int (n : Int)) := fun {G n} h => ⟨_, .int _, .inr ⟨n, rfl, h⟩⟩
    have w1 : ∀ ds : List PyData, (∀ d ∈ ds, Wm 0 d) → ds.length ≤ 16 → Wm 1 (.tuple ds) := fun ds h l => ⟨ds, rfl, l, h⟩
    have kw : ∀ z ∈ (["set", "out", "learn", "send", "hop", "drop"] : List Str), NameOk z := fun z hz => by
      have h : ∀ z ∈ (["set", "out", "learn", "send", "hop", "drop"] : List Str), (1 ≤ z.length ∧ z.length ≤ 8) ∧ ∀ c ∈ z.cps.toList, 97 ≤ c ∧ c ≤ 122 := by decide +kernel
      exact ⟨(h z hz).1.1, (h z hz).1.2, (h z hz).2⟩
    refine nxt ?_
    refine ⟨_, rfl, _, rfl, _, rfl, p, _, rfl, p4, by omega, fun f1 H5 _ g1 b5 p5 => ⟨_, rfl, p, _, rfl, p5, by omega, fun f2 H6 _ g2 b6 p6 => ⟨by show 5 ≤ sizeLine; decide, fun t1 n1 => ?_⟩⟩⟩
    have o1 : OkV K p (Wm 1) _ (.ref t1) := tup_ok (xs := [.str (Str.ofString "set"), .str lo, .str hi, .int (f1 : Int), .int (f2 : Int)]) (.cons (wS (kw _ (by simp))) (.cons (wS nlo) (.cons (wS nhi) (.cons (wI (by omega)) (.cons (wI (by omega)) .nil))))) (by simp) w1 n1 p6
    have s1 := same_new (o := .tup [V.str (Str.ofString "set"), .str lo, .str hi, .int (f1 : Int), .int (f2 : Int)]) n1
    have q1 := p6.same s1
    have b46 := ((b04.trans b5).trans b6).trans (But.of s1)
    generalize upd H6 t1 (.tup [.str (Str.ofString "set"), .str lo, .str hi, .int (f1 : Int), .int (f2 : Int)]) = G1 at o1 s1 q1 b46 ⊢
    refine ⟨_, rfl, _, rfl, by show 3 ≤ sizeLine; decide, fun t2 n2 => ?_⟩
    have o2 : OkV K p (Wm 1) _ (.ref t2) := tup_ok (xs := [.str (Str.ofString "out"), .str lo, .str hi]) (.cons (wS (kw _ (by simp))) (.cons (wS nlo) (.cons (wS nhi) .nil))) (by simp) w1 n2 q1
    have s2 := same_new (o := .tup [V.str (Str.ofString "out"), .str lo, .str hi]) n2
    have q2 := q1.same s2
    generalize upd G1 t2 (.tup [.str (Str.ofString "out"), .str lo, .str hi]) = G2 at o2 s2 q2 ⊢
    refine ⟨_, rfl, by show 2 ≤ sizeLine; decide, fun t3 n3 => ?_⟩
    have o3 : OkV K p (Wm 1) _ (.ref t3) := tup_ok (xs := [.str (Str.ofString "learn"), .str a]) (.cons (wS (kw _ (by simp))) (.cons (wS na) .nil)) (by simp) w1 n3 q2
    have s3 := same_new (o := .tup [V.str (Str.ofString "learn"), .str a]) n3
    have q3 := q2.same s3
    generalize upd G2 t3 (.tup [.str (Str.ofString "learn"), .str a]) = G3 at o3 s3 q3 ⊢
    refine ⟨_, rfl, _, rfl, by show 3 ≤ sizeLine; decide, fun t4 n4 => ?_⟩
    have o4 : OkV K p (Wm 1) _ (.ref t4) := tup_ok (xs := [.str (Str.ofString "send"), .str a, .str b]) (.cons (wS (kw _ (by simp))) (.cons (wS na) (.cons (wS nb) .nil))) (by simp) w1 n4 q3
    have s4 := same_new (o := .tup [V.str (Str.ofString "send"), .str a, .str b]) n4
    have q4 := q3.same s4
    generalize upd G3 t4 (.tup [.str (Str.ofString "send"), .str a, .str b]) = G4 at o4 s4 q4 ⊢
    refine ⟨by show 4 ≤ sizeLine; decide, fun l1 n5 => ?_⟩
    have s5 := same_new (o := .lst [.ref t1, .ref t2, .ref t3, .ref t4]) n5
    have h5 : upd G4 l1 (.lst [.ref t1, .ref t2, .ref t3, .ref t4]) l1 = some (.lst [.ref t1, .ref t2, .ref t3, .ref t4]) := upd_same
    have A1 : OkA K p (Wm 1) G4 [.ref t1, .ref t2, .ref t3, .ref t4] := .cons (o1.same ((s2.trans s3).trans s4)) (.cons (o2.same (s3.trans s4)) (.cons (o3.same s4) (.cons o4 .nil)))
    have A1 := A1.same s5
    have q5 := q4.same s5
    have b5 := b46.trans (But.of (((s2.trans s3).trans s4).trans s5))
    generalize upd G4 l1 (.lst [.ref t1, .ref t2, .ref t3, .ref t4]) = G5 at s5 h5 A1 q5 b5 ⊢
    refine nxt ?_
    refine ⟨_, rfl, _, rfl, _, rfl, _, rfl, by show 3 ≤ sizeLine; decide, fun t6 n6 => ?_⟩
    have o6 : OkV K p (Wm 1) _ (.ref t6) := tup_ok (xs := [.str (Str.ofString "hop"), .int (n : Int), .str a]) (.cons (wS (kw _ (by simp))) (.cons (wI ln) (.cons (wS na) .nil))) (by simp) w1 n6 q5
    have s6 := same_new (o := .tup [V.str (Str.ofString "hop"), .int (n : Int), .str a]) n6
    have q6 := q5.same s6
    generalize upd G5 t6 (.tup [.str (Str.ofString "hop"), .int (n : Int), .str a]) = G6 at o6 s6 q6 ⊢
    refine ⟨_, rfl, by show 2 ≤ sizeLine; decide, fun t7 n7 => ?_⟩
    have o7 : OkV K p (Wm 1) _ (.ref t7) := tup_ok (xs := [.str (Str.ofString "drop"), .int (n : Int)]) (.cons (wS (kw _ (by simp))) (.cons (wI ln) .nil)) (by simp) w1 n7 q6
    have s7 := same_new (o := .tup [V.str (Str.ofString "drop"), .int (n : Int)]) n7
    have q7 := q6.same s7
    generalize upd G6 t7 (.tup [.str (Str.ofString "drop"), .int (n : Int)]) = G7 at o7 s7 q7 ⊢
    refine ⟨_, rfl, _, rfl, by show 3 ≤ sizeLine; decide, fun t8 n8 => ?_⟩
    have o8 : OkV K p (Wm 1) _ (.ref t8) := tup_ok (xs := [.str (Str.ofString "send"), .str a, .str a]) (.cons (wS (kw _ (by simp))) (.cons (wS na) (.cons (wS na) .nil))) (by simp) w1 n8 q7
    have s8 := same_new (o := .tup [V.str (Str.ofString "send"), .str a, .str a]) n8
    have q8 := q7.same s8
    generalize upd G7 t8 (.tup [.str (Str.ofString "send"), .str a, .str a]) = G8 at o8 s8 q8 ⊢
    refine ⟨by show 3 ≤ sizeLine; decide, fun l2 n9 => ?_⟩
    have s9 := same_new (o := .lst [.ref t6, .ref t7, .ref t8]) n9
    have h9 : upd G8 l2 (.lst [.ref t6, .ref t7, .ref t8]) l2 = some (.lst [.ref t6, .ref t7, .ref t8]) := upd_same
    have A2 : OkA K p (Wm 1) G8 [.ref t6, .ref t7, .ref t8] := .cons (o6.same (s7.trans s8)) (.cons (o7.same s8) (.cons o8 .nil))
    have A2 := A2.same s9
    have q9 := q8.same s9
    have s59 := ((s6.trans s7).trans s8).trans s9
    generalize upd G8 l2 (.lst [.ref t6, .ref t7, .ref t8]) = G9 at s9 h9 A2 q9 s59 ⊢
    refine ⟨l1, l2, _, _, rfl, rfl, s59 _ _ h5, h9, by show 7 ≤ sizeLine; decide, fun l n10 => ?_⟩
    have s10 := same_new (o := .lst ([.ref t1, .ref t2, .ref t3, .ref t4] ++ [.ref t6, .ref t7, .ref t8])) n10
    have AA := ((A1.same s59).app A2).same s10
    refine ⟨p, .ref l, _, _, rfl, q9.same s10, by omega, .inl ⟨l, rfl, pot_ne n10 q9, SqL.of upd_same⟩, by show 0 < 7; decide, by show 7 < 1073741824; decide, fun i v H' e b11 p11 => ?_⟩
    exact k v H' (b5.trans ((But.of (s59.trans s10)).trans b11)) (p11.mono (by omega)) ((AA.but b11).get e)
end
end Toy
set_option Elab.async false
set_option linter.all false
set_option maxRecDepth 100000
set_option maxHeartbeats 8000000
namespace Toy
open PySem L2 Q RZ LamX NdefX D7
/-- a def whose code object is at c -/
structure FunC (K : PySem.W.Frag) (x : Str) (st : Stmt) (f : Addr) (fd : FuncData) (c : Addr) : Prop where
  ex : ∃ (oc : Value) (od : Option Addr) (kV doc pm : Value) (an : Option Addr) (ct : Value) (osl : Array (Option Value)),
    fd = PySem.W.fnOf x x (defArgs st) (defBody st) (defScope st) .none kV doc pm an (.ref c) ct ∧ K.lookup f = some ⟨oc, od, .func fd, osl⟩ ∧ PySem.W.codeIn K (.ref c) x = true
@[irreducible] def qF : Str := ("_law_shown" : Str) ++ (".<locals>." : Str) ++ ("<lambda>" : Str)
theorem qF_eq : qF = ("_law_shown" : Str) ++ (".<locals>." : Str) ++ ("<lambda>" : Str) := by unfold qF; rfl
@[irreducible] def qR : Str := ("_law_read" : Str) ++ (".<locals>." : Str) ++ ("<lambda>" : Str)
theorem qR_eq : qR = ("_law_read" : Str) ++ (".<locals>." : Str) ++ ("<lambda>" : Str) := by unfold qR; rfl
abbrev TL2 (P1 P2 : Addr) : List (Addr × Str) := [(P1, qF), (P2, qR)]
/-- the def that makes lambdas: its code object and table -/
structure Tb (base : Heap) (mg : Str → Option Value) (c1 P1 c2 P2 : Addr) : Prop where
  t1 : TabB base mg c1 P1
  t2 : TabB base mg c2 P2
  ne : P1 ≠ P2
theorem cx_qual {CX : CXT} {P : Program} {w : World} {K : PySem.W.Frag} {mg : Str → Option Value} {base : Heap} {N : List Str} {q : Str} {sc : Scope} {f : Addr} {cd : Value} {A : Around} {outer : List Env} {s : Shared} {H : Hp} {E : XK} :
    (cxOf CX P w K mg base N q sc f cd A outer s H E).nox.env.qual = q ++ (".<locals>." : Str) := rfl
theorem cx_code {CX : CXT} {P : Program} {w : World} {K : PySem.W.Frag} {mg : Str → Option Value} {base : Heap} {N : List Str} {q : Str} {sc : Scope} {f : Addr} {cd : Value} {A : Around} {outer : List Env} {s : Shared} {H : Hp} {E : XK} :
    (cxOf CX P w K mg base N q sc f cd A outer s H E).nox.env.code = cd := rfl
theorem extn_of {H H' : Hp} (s : Same H H') : ExtN H H' := ExtN.of s
theorem extn_tup {H H' : Hp} {a : Addr} {xs : List V} (e : ExtN H H') (h : H a = some (.tup xs)) : H' a = some (.tup xs) := e _ _ h fun ps z => by cases z
/-- all but the pot and the tables is kept -/
def Go (p : Addr) (H H' : Hp) : Prop := ∀ b o, b ≠ p → H b = some o → (∀ ps, o ≠ .tbl ps) → H' b = some o
theorem Go.refl (p : Addr) (H : Hp) : Go p H H := fun _ _ _ e _ => e
theorem Go.trans {p : Addr} {H H1 H2 : Hp} (a : Go p H H1) (b : Go p H1 H2) : Go p H H2 := fun c o n e t => b c o n (a c o n e t) t
theorem Go.but {p : Addr} {H H' : Hp} (b : But p H H') : Go p H H' := fun c o n e _ => b c o n e
theorem Go.ext {p : Addr} {H H' : Hp} (b : ExtN H H') : Go p H H' := fun c o _ e t => b c o e t
theorem Go.same {p : Addr} {H H' : Hp} (s : Same H H') : Go p H H' := fun c o _ e _ => s c o e
theorem pot_ext {H H' : Hp} {p : Addr} {B : Nat} (h : Pot H p B) (e : ExtN H H') : Pot H' p B := by
  obtain ⟨o, s, c, q, r⟩ := h
  exact ⟨o, s, c, e _ _ q (fun ps z => by cases z), r⟩
theorem tabs_but {H H' : Hp} {p : Addr} {B : Nat} {T : List (Addr × Str)} (h : Tabs T H) (hp : Pot H p B) (b : But p H H') : Tabs T H' := fun x hx => by
  obtain ⟨ps, h1, h2, h3⟩ := h x hx
  obtain ⟨o, s, c, q, _⟩ := hp
  refine ⟨ps, b _ _ (fun z => by rw [z, q] at h1; cases h1) h1, h2, fun pos cv hc => ?_⟩
  obtain ⟨c', e1, e2⟩ := h3 pos cv hc
  refine ⟨c', e1, b _ _ (fun z => ?_) e2⟩
  rw [z, q] at e2
  unfold CodeO at e2
  cases e2
/-- where the run of one pot stands: its pot and the table -/
structure At (p P1 P2 : Addr) (B : Nat) (H : Hp) : Prop where
  po : Pot H p B
  tb : Tabs (TL2 P1 P2) H
section
variable {p P1 P2 : Addr} {B B' : Nat} {H H' : Hp}
theorem At.but (h : At p P1 P2 B H) (b : But p H H') (q : Pot H' p B') : At p P1 P2 B' H' := ⟨q, tabs_but h.tb h.po b⟩
theorem At.same (h : At p P1 P2 B H) (s : Same H H') : At p P1 P2 B H' := ⟨h.po.same s, h.tb.ext s⟩
theorem At.ext (h : At p P1 P2 B H) (e : ExtN H H') (t : Tabs (TL2 P1 P2) H') : At p P1 P2 B H' := ⟨pot_ext h.po e, t⟩
theorem tup_notp {p t : Addr} {xs : List V} {B : Nat} {H : Hp} (h : H t = some (.tup xs)) (hp : Pot H p B) : t ≠ p := fun z => by
  obtain ⟨o, s, c, q, _⟩ := hp
  rw [z, q] at h
  cases h
theorem tup_go {t : Addr} {xs : List V} (h : H t = some (.tup xs)) (hp : Pot H p B) (g : Go p H H') : H' t = some (.tup xs) := g _ _ (tup_notp h hp) h fun ps z => by cases z
end
/-! ### what both sides tell, as data -/
theorem seq_ext {K : PySem.W.Frag} {H H' : Hp} (e : ExtN H H') {a : Addr} {xs : List V} : (SqL K H a xs → SqL K H' a xs) ∧ (SqT K H a xs → SqT K H' a xs) := by
  refine ⟨fun h => ?_, fun h => ?_⟩
  · rcases h with (h | ⟨o, h⟩) | h
    · exact .inl (.inl (e _ _ h fun ps z => by cases z))
    · exact .inl (.inr ⟨o, e _ _ h fun ps z => by cases z⟩)
    · exact .inr h
  · rcases h with (h | ⟨o, h⟩) | h
    · exact .inl (.inl (e _ _ h fun ps z => by cases z))
    · exact .inl (.inr ⟨o, e _ _ h fun ps z => by cases z⟩)
    · exact .inr h
mutual
theorem dd_ext {K : PySem.W.Frag} {H H' : Hp} (e : ExtN H H') : ∀ {d : PyData} {v : V}, Dd K H v d → Dd K H' v d
  | _, _, .non => .non
  | _, _, .bl b => .bl b
  | _, _, .int i => .int i
  | _, _, .str x => .str x
  | _, _, .lst h a => .lst ((seq_ext e).1 h) (ddAll_ext e a)
  | _, _, .tup h a => .tup ((seq_ext e).2 h) (ddAll_ext e a)
  | _, _, .dic h k a => .dic (e _ _ h fun ps z => by cases z) k (ddAll_ext e a)
theorem ddAll_ext {K : PySem.W.Frag} {H H' : Hp} (e : ExtN H H') : ∀ {d : List PyData} {v : List V}, DdAll K H v d → DdAll K H' v d
  | _, _, .nil => .nil
  | _, _, .cons a b => .cons (dd_ext e a) (ddAll_ext e b)
end
theorem Go.off {p : Addr} {H H' : Hp} (g : Go p H H') : ExtN (off H p) (off H' p) := fun b o e n => by
  by_cases z : b = p
  · have e2 : (if b = p then none else H b) = some o := e
    rw [if_pos z] at e2
    cases e2
  · have e2 : (if b = p then none else H b) = some o := e
    rw [if_neg z] at e2
    exact off_at (g b o z e2 n) z
theorem err_keep {H H' : Hp} {c C : Addr} {fs : List (Str × V)} (k : ∀ b o, H b = some o → (∀ ps, o ≠ .tbl ps) → (∀ xs, o ≠ .lst xs) → H' b = some o) (h : ErrAt H c C fs) : ErrAt H' c C fs := by
  obtain ⟨d, o, q⟩ := h
  refine ⟨d, ?_, ?_⟩
  · rcases o with o | o
    · exact .inl (k _ _ o (fun ps z => by unfold exo at z; cases z) fun xs z => by unfold exo at z; cases z)
    · exact .inr (k _ _ o (fun ps z => by unfold exv at z; cases z) fun xs z => by unfold exv at z; cases z)
  · rcases q with q | q
    · exact .inl (k _ _ q (fun ps z => by unfold exd at z; cases z) fun xs z => by unfold exd at z; cases z)
    · exact .inr (k _ _ q (fun ps z => by cases z) fun xs z => by cases z)
theorem err_ext {H H' : Hp} {c C : Addr} {fs : List (Str × V)} (e : ExtN H H') (h : ErrAt H c C fs) : ErrAt H' c C fs := err_keep (fun b o x n _ => e b o x n) h
theorem err_put {H : Hp} {L c C : Addr} {xs ys : List V} {fs : List (Str × V)} (hL : H L = some (.lst xs)) (h : ErrAt H c C fs) : ErrAt (upd H L (.lst ys)) c C fs := err_keep (fun b o e _ n => by
  rw [upd_ne (fun z => by rw [z, hL] at e; injection e with e; exact n _ e.symm)]
  exact e) h
theorem takes_len {X : Cx} {W W' : WX} (t : Takes X W) (h : ∀ c d (σ : L2.St) H, σ.length = X.N.length → W' c d σ H → W c d σ H) : Takes X W' :=
  fun u s' ⟨a, B, sI, pins, σ, H, cls, d, e, I, nb, up, sky, na, os, ag, w⟩ =>
    t u s' ⟨a, B, sI, pins, σ, H, cls, d, e, I, nb, up, sky, na, os, ag, h _ _ _ _ I.len w⟩
/-- a call that is tried: nothing, or the error that came -/
def TCaught (K : PySem.W.Frag) (CS : Addr) : (XK → Hp → VK → Prop) → Hp → VK → Prop := fun tl H Q =>
  tl (fun cls d H' => ∃ b, PySem.W.exmOne K cls (.ref CS) = some b ∧ (b = true → ∃ C, cls = .ref C ∧ ∀ a, H' a = none → Q (.ref a) (upd H' a (exv a C d))) ∧ (b = false → False)) H (fun _ H' => ∃ v, (some (some V.non) : Option (Option V)) = some (some v) ∧ Q v H')
section
variable {P : Program} {w : World} {K : PySem.W.Frag} {mg : Str → Option Value} {base : Heap} {ca ia fa : Nat → Addr} {fd fi : Nat → FuncData}
theorem caught_gives (T : Txt w K mg ca ia fa fd fi) {X : Cx} (eK : X.K = K) (em : X.mg = mg) {g : Addr} {cdg : Value} {q : Str} :
    GivesTo X N_l_caught "_law_caught" (defScope s_l_caught) g cdg (defBody s_l_caught) "_law_look" q (TCaught X.K (ca 1)) := by
  subst eK
  subst em
  intro f c' s H Q tl act hc h
  refine ⟨_, pss_cons (ps_set (i := 1) sc_l_caught.nd rfl (Or.inl rfl) pe_non)
    (pss_cons (ps_try_keep (i := 2) (ts := _) (tb := fun W D σ H => ∃ Ech : XK, (∀ cls d (σ' : L2.St) H', σ'.length = 3 → Ech cls d H' → W cls d σ' H') ∧ σ[0]? = some (some (.ref f)) ∧ H c' = some (CodeO c' q) ∧ tl Ech H fun _ H' => D.nx σ H') (Wout := fun _ _ _ _ => False)
      rfl rfl rfl sc_l_caught.nd rfl rfl ⟨rfl, by decide, Or.inl T.cN.g⟩ L2.takes0 (fun W pn xe tk _ => ?_) (fun a oe cls d pn hz hf => pss_one (ps_set (i := 1) sc_l_caught.nd rfl (Or.inl rfl) (pv 2))))
    (pss_one (ps_ret (pv 1)))), ?_⟩
  · refine ⟨fun pins s' σ H' D I h' => ?_⟩
    obtain ⟨Ech, hW, h1, h2, h3⟩ := h'
    exact (pss_one (ps_expr (act (fun cls d _ H' => Ech cls d H') pn xe Ech _ _ (takes_len tk fun c d σ H l z => hW c d σ H l z) (fun _ _ _ _ z => z)))).run pins s' σ H' D I ⟨h1, h2, h3⟩
  · refine ⟨_, fun cls d σ' H' l z => ?_, rfl, hc, h⟩
    obtain ⟨b, e1, e2, e3⟩ := z
    refine ⟨b, e1, fun hb => ?_, fun hb => e3 hb⟩
    obtain ⟨C, rfl, k⟩ := e2 hb
    refine ⟨C, rfl, fun a na => ?_⟩
    match σ', l with
    | [x0, x1, x2], _ => exact ⟨_, rfl, _, rfl, k a na⟩
end
end Toy
set_option Elab.async false
set_option linter.all false
set_option maxRecDepth 100000
set_option maxHeartbeats 1000000
namespace Toy
open PySem L2 Q RZ LamX NdefX D7 TL
/-! ### what is shown and read of a value -/
theorem not_first {K : PySem.W.Frag} {C : Addr} : PySem.W.subIn K (.type "NoneType") (.ref C) = some false := by
  have e1 : fastBuiltinMro "NoneType" = some [.type "NoneType", .type "object"] := by decide +kernel
  show (fastBuiltinMro "NoneType").map (fun l => l.contains (Value.ref C)) = _
  rw [e1]
  simp
theorem Txt.noErr (T : Txt w K mg ca ia fa fd fi) {nm : Str} {C : Addr} (c : ErrC K mg nm C (ca 1)) : PySem.W.kitOne K (.type "NoneType") (.ref C) = some false := by
  obtain ⟨h1, _, h2⟩ := cls_of c.xL
  unfold PySem.W.kitOne
  rw [if_neg (by simp)]
  show (if ((PySem.W.clsIn K C).isSome && PySem.W.typeIn K (.ref C) == some (.type "type")) = true then PySem.W.subIn K (.type "NoneType") (.ref C) else none) = some false
  rw [if_pos (by rw [h1, h2]; rfl), not_first]
theorem Txt.kitE (T : Txt w K mg ca ia fa fd fi) {nm nm2 : Str} {C D : Addr} (c : ErrC K mg nm C (ca 1)) (d : ErrC K mg nm2 D (ca 1)) : PySem.W.kitOne K (.ref C) (.ref D) = some (decide (D = C ∨ D = ca 1)) :=
  c.kit (cls_of d.xL).1 (cls_of d.xL).2.2
abbrev badD (x : PyData) : PyData := .tuple [.str (tx "bad"), x]
abbrev okayD (x : PyData) : PyData := .tuple [.str (tx "fine"), x]
noncomputable def shDue (d : PyData) : PyData := match d with
  | .tuple ds => if (pfx evF ds).length ≠ ds.length then badD (.int ((pfx evF ds).length : Nat)) else okayD (.str (runT ds))
  | _ => badD (.int (-1))
noncomputable def rdDue (d : PyData) : PyData := match d with
  | .str t => if (pfx evD (runR t)).length ≠ (runR t).length then badD (.int ((pfx evD (runR t)).length : Nat)) else okayD (.tuple (pfx evD (runR t)))
  | _ => badD .none
theorem shDue_no {d : PyData} (h : tupB d = false) : shDue d = badD (.int (-1)) := by
  cases d <;> first | rfl | cases h
theorem rdDue_no {d : PyData} (h : strB d = false) : rdDue d = badD .none := by
  cases d <;> first | rfl | cases h
theorem shDue_bad {ds : List PyData} (n : (pfx evF ds).length ≠ ds.length) : shDue (.tuple ds) = badD (.int ((pfx evF ds).length : Nat)) := if_pos n
theorem shDue_ok {ds : List PyData} (n : (pfx evF ds).length = ds.length) : shDue (.tuple ds) = okayD (.str (runT ds)) := if_neg (fun q => q n)
theorem rdDue_bad {t : Str} (n : (pfx evD (runR t)).length ≠ (runR t).length) : rdDue (.str t) = badD (.int ((pfx evD (runR t)).length : Nat)) := if_pos n
theorem rdDue_ok {t : Str} (n : (pfx evD (runR t)).length = (runR t).length) : rdDue (.str t) = okayD (.tuple (pfx evD (runR t))) := if_neg (fun q => q n)
/-- of which show_run can be asked -/
def ShFit (d : PyData) : Prop := ∀ ds, d = .tuple ds → (∀ e ∈ ds, SmallE e) ∧ ds.length ≤ 100
/-- of which read_run can be asked -/
def RdFit (d : PyData) : Prop := ∀ t, d = .str t → t.length ≤ 9000
def spShown (K : PySem.W.Frag) (P1 P2 : Addr) : Sp := fun vs H Q _ => ∃ (v : V) (d : PyData), vs = [v] ∧ Dd K H v d ∧ ShFit d ∧ Tabs (TL2 P1 P2) H ∧ ∀ (a : Addr) H', ExtN H H' → Tabs (TL2 P1 P2) H' → Dd K H' (.ref a) (shDue d) → Q (.ref a) H'
def spRead (K : PySem.W.Frag) (P1 P2 : Addr) : Sp := fun vs H Q _ => ∃ (v : V) (d : PyData), vs = [v] ∧ Dd K H v d ∧ RdFit d ∧ Tabs (TL2 P1 P2) H ∧ ∀ (a : Addr) H', ExtN H H' → Tabs (TL2 P1 P2) H' → Dd K H' (.ref a) (rdDue d) → Q (.ref a) H'
section
variable {P : Program} {w : World} {K : PySem.W.Frag} {mg : Str → Option Value} {base : Heap} {ca ia fa : Nat → Addr} {fd fi : Nat → FuncData} {c1 P1 c2 P2 : Addr}
theorem ok_shown (T : Txt w K mg ca ia fa fd fi) (FC : FunC K "_law_shown" s_l_shown (fa 43) (fd 43) c1) (B : Tb base mg c1 P1 c2 P2) :
    FnG P w K mg base CX0 15 (fa 43) (fd 43) ["_law_value"] (spShown K P1 P2) := by
  have G_show_run := ok_showRun (P := P) (w := w) (base := base) T
  obtain ⟨ocC, odC, kVC, docC, pmC, anC, cdC, ctC, oslC, eC, lkC, hcC⟩ := T.F_l_caught.ex
  have bC := T.b_l_caught
  rw [eC] at lkC bC
  obtain ⟨oc, od, kV, doc, pm, an, ct, osl, e, lk, hcd⟩ := FC.ex
  rw [e] at lk ⊢
  refine fng_of lk hcd sc_l_shown (fun vs H Q E h => ?_) fun A outer s H vs Q E hgd hr h => ?_
  · obtain ⟨v, d, rfl, _⟩ := h
    rfl
  · obtain ⟨v, d, rfl, hd, fit, tb0, k⟩ := h
    suffices hh : ∃ t', PSs (cxOf CX0 P w K mg base N_l_shown "_law_shown" (defScope s_l_shown) (fa 43) (.ref c1) A outer s H E).nox (defBody s_l_shown) t' ∧ t' { nx := fun _ H' => Q .non H', rt := Q } (L2.start N_l_shown [v]) H by
      obtain ⟨t', h1, h2⟩ := hh
      exact ⟨t', h1.nox, h2⟩
    have eq : (cxOf CX0 P w K mg base N_l_shown "_law_shown" (defScope s_l_shown) (fa 43) (.ref c1) A outer s H E).nox.env.qual ++ ("<lambda>" : Str) = qF := by rw [cx_qual]; exact qF_eq.symm
    have hm : (P1, (cxOf CX0 P w K mg base N_l_shown "_law_shown" (defScope s_l_shown) (fa 43) (.ref c1) A outer s H E).nox.env.qual ++ ("<lambda>" : Str)) ∈ TL2 P1 P2 := by rw [eq]; exact List.mem_cons_self
    have hu : ∀ p ∈ TL2 P1 P2, p.1 = P1 → p.2 = (cxOf CX0 P w K mg base N_l_shown "_law_shown" (defScope s_l_shown) (fa 43) (.ref c1) A outer s H E).nox.env.qual ++ ("<lambda>" : Str) := by
      rw [eq]
      intro q hq e
      simp only [List.mem_cons, List.not_mem_nil, or_false] at hq
      rcases hq with rfl | rfl
      · rfl
      · exact absurd e.symm B.ne
    have gv := caught_gives (X := (cxOf CX0 P w K mg base N_l_shown "_law_shown" (defScope s_l_shown) (fa 43) (.ref c1) A outer s H E).nox) T rfl rfl (g := fa 34) (cdg := cdC)
      (q := (cxOf CX0 P w K mg base N_l_shown "_law_shown" (defScope s_l_shown) (fa 43) (.ref c1) A outer s H E).nox.env.qual ++ ("<lambda>" : Str))
    refine ⟨_, (pss_cons (ps_set (i := 1) sc_l_shown.nd rfl (Or.inl rfl) (pe_lamcall (T := TL2 P1 P2) (TT := TCaught K (ca 1)) (k := 12) (Ng := N_l_caught) (a := "_law_look") (t := fun E => tCall (spShowRun K (ca 3)) [] E (tCons (tVar 0) tNil)) rfl T.g_l_caught T.k_l_caught lkC hcC bC sc_l_caught rfl (Or.inl rfl) gv B.t1 cx_code hm hu (hr.mono (by decide)) (lamS_by (by show lamSB (defScope s_l_shown) _ = true; decide +kernel)) rfl (fun _ _ _ _ _ => rfl)
        (fun A outer s H E f c' hr => (pe_call G_show_run (hr.mono (by decide)) rfl T.g_show_run T.k_show_run T.b_show_run .nil (passes_call (takes_of rfl rfl rfl rfl) fun _ _ _ _ h => h) (pa_cons (pv 0) pa_nil)))))
      (pss_one (ps_ret (pe_ifExp (pt_val (pe_callB call_isA (by rfl) T.n_isinstance (by decide +kernel) (pa_cons (pv 1) (pa_cons (pe_glob rfl T.c_BadRun.g (v := .ref (ca 3)) rfl) pa_nil)))) (pe_tup (pa_cons pe_str (pa_cons (pe_errf (pv 1)) pa_nil))) (pe_tup (pa_cons pe_str (pa_cons (pe_call G_show_run (hr.mono (by decide)) rfl T.g_show_run T.k_show_run T.b_show_run .nil passL (pa_cons (pv 0) pa_nil)) pa_nil))))))), ?_⟩
    refine seqS (fun v1 H' => ExtN H H' ∧ Tabs (TL2 P1 P2) H' ∧ ((v1 = .non ∧ ∃ ds, d = .tuple ds ∧ (pfx evF ds).length = ds.length) ∨
        (∃ c x dx, v1 = .ref c ∧ ErrAt H' c (ca 3) [("value", x)] ∧ Dd K H' x dx ∧ shDue d = badD dx))) (fun Q k' => ?_) ?_
    · have bt : ∀ {G1 G2 : Hp} {x : Addr} {y : V} {dy : PyData}, ExtN H G1 → Tabs (TL2 P1 P2) G1 → Same G1 G2 → G2 x = some (.xd [("value", y)]) → Dd K G2 y dy → shDue d = badD dy → ∀ a, G2 a = none → Q (.ref a) (upd G2 a (exv a (ca 3) (some x))) := fun {G1 G2 x y dy} e5 t5 s6 hx dy_ due a na => by
        have s7 := same_new (o := exv a (ca 3) (some x)) na
        exact k' _ _ ⟨e5.trans (extn_of (s6.trans s7)), t5.ext (s6.trans s7), .inr ⟨a, y, dy, rfl, ⟨x, .inr upd_same, .inr (s7 _ _ hx)⟩, dy_.same s7, due⟩⟩
      refine ⟨tb0, fun G1 e5 t5 => ⟨_, rfl, v, d, rfl, dd_ext e5 hd, fun no x G2 s6 hx => ?_, fun ds ed => ⟨(fit ds ed).1, (fit ds ed).2, fun n x G2 s6 hx => ?_, fun n G2 s6 => ?_⟩⟩⟩
      · exact ⟨true, T.exm T.c_BadRun, fun _ => ⟨_, rfl, bt e5 t5 s6 hx (.int _) (shDue_no no)⟩, fun z => nomatch z⟩
      · exact ⟨true, T.exm T.c_BadRun, fun _ => ⟨_, rfl, bt e5 t5 s6 hx (.int _) (by rw [ed]; exact shDue_bad n)⟩, fun z => nomatch z⟩
      · exact ⟨_, rfl, k' _ _ ⟨e5.trans (extn_of s6), t5.ext s6, .inl ⟨rfl, ds, ed, n⟩⟩⟩
    rintro v1 H1 ⟨e1, t1, alt⟩
    have excT := T.c_BadRun.exc T.hn T.ht
    rcases alt with ⟨rfl, ds, ed, n⟩ | ⟨c, x, dx, rfl, ee, hx, due⟩
    · refine ⟨_, rfl, .inl ⟨_, _, _, _, _, rfl, .own _, .base .non, T.noErr T.c_BadRun, _, rfl, iteB2 rfl ?_⟩⟩
      refine ⟨_, rfl, v, d, rfl, dd_ext e1 hd, fun no => absurd no (by rw [ed]; simp [tupB]), fun ds' ed' => ⟨(fit ds' ed').1, (fit ds' ed').2, fun n' => absurd n' ?_, fun _ G2 s6 => ⟨by show 2 ≤ sizeLine; decide, fun b nb => ?_⟩⟩⟩
      · rw [ed] at ed'
        injection ed' with ed'
        rw [← ed']
        exact fun q => q n
      · have s8 := same_new (o := .tup [.str (tx "fine"), .str (runT ds')]) nb
        refine k b _ (e1.trans (extn_of (s6.trans s8))) (t1.ext (s6.trans s8)) ?_
        rw [ed] at ed'
        injection ed' with ed'
        rw [ed, shDue_ok n, ed']
        exact .tup (SqT.of upd_same) (.cons (.str _) (.cons (.str _) .nil))
    · refine ⟨_, rfl, .inr ⟨c, _, .ref (ca 3), .ref (ca 3), _, rfl, .own _, ee.i, excT, T.kitE T.c_BadRun T.c_BadRun, _, rfl, iteB (by simp) ?_⟩⟩
      refine ⟨_, rfl, c, _, _, x, rfl, ee, excT, T.no_BadRun_value, rfl, by show 2 ≤ sizeLine; decide, fun a na => ?_⟩
      have s2 := same_new (o := .tup [.str (tx "bad"), x]) na
      refine k a _ (e1.trans (extn_of s2)) (t1.ext s2) ?_
      rw [due]
      exact .tup (SqT.of upd_same) (.cons (.str _) (.cons (hx.same s2) .nil))
theorem ok_read (T : Txt w K mg ca ia fa fd fi) (FC : FunC K "_law_read" s_l_read (fa 44) (fd 44) c2) (B : Tb base mg c1 P1 c2 P2) :
    FnG P w K mg base CX0 15 (fa 44) (fd 44) ["_law_value"] (spRead K P1 P2) := by
  have G_read_run := ok_readRun (P := P) (w := w) (base := base) T
  obtain ⟨ocC, odC, kVC, docC, pmC, anC, cdC, ctC, oslC, eC, lkC, hcC⟩ := T.F_l_caught.ex
  have bC := T.b_l_caught
  rw [eC] at lkC bC
  obtain ⟨oc, od, kV, doc, pm, an, ct, osl, e, lk, hcd⟩ := FC.ex
  rw [e] at lk ⊢
  refine fng_of lk hcd sc_l_read (fun vs H Q E h => ?_) fun A outer s H vs Q E hgd hr h => ?_
  · obtain ⟨v, d, rfl, _⟩ := h
    rfl
  · obtain ⟨v, d, rfl, hd, fit, tb0, k⟩ := h
    suffices hh : ∃ t', PSs (cxOf CX0 P w K mg base N_l_read "_law_read" (defScope s_l_read) (fa 44) (.ref c2) A outer s H E).nox (defBody s_l_read) t' ∧ t' { nx := fun _ H' => Q .non H', rt := Q } (L2.start N_l_read [v]) H by
      obtain ⟨t', h1, h2⟩ := hh
      exact ⟨t', h1.nox, h2⟩
    have eq : (cxOf CX0 P w K mg base N_l_read "_law_read" (defScope s_l_read) (fa 44) (.ref c2) A outer s H E).nox.env.qual ++ ("<lambda>" : Str) = qR := by rw [cx_qual]; exact qR_eq.symm
    have hm : (P2, (cxOf CX0 P w K mg base N_l_read "_law_read" (defScope s_l_read) (fa 44) (.ref c2) A outer s H E).nox.env.qual ++ ("<lambda>" : Str)) ∈ TL2 P1 P2 := by rw [eq]; exact List.mem_cons_of_mem _ List.mem_cons_self
    have hu : ∀ p ∈ TL2 P1 P2, p.1 = P2 → p.2 = (cxOf CX0 P w K mg base N_l_read "_law_read" (defScope s_l_read) (fa 44) (.ref c2) A outer s H E).nox.env.qual ++ ("<lambda>" : Str) := by
      rw [eq]
      intro q hq e
      simp only [List.mem_cons, List.not_mem_nil, or_false] at hq
      rcases hq with rfl | rfl
      · exact absurd e B.ne
      · rfl
    have gv := caught_gives (X := (cxOf CX0 P w K mg base N_l_read "_law_read" (defScope s_l_read) (fa 44) (.ref c2) A outer s H E).nox) T rfl rfl (g := fa 34) (cdg := cdC)
      (q := (cxOf CX0 P w K mg base N_l_read "_law_read" (defScope s_l_read) (fa 44) (.ref c2) A outer s H E).nox.env.qual ++ ("<lambda>" : Str))
    refine ⟨_, (pss_cons (ps_set (i := 1) sc_l_read.nd rfl (Or.inl rfl) (pe_lamcall (T := TL2 P1 P2) (TT := TCaught K (ca 1)) (k := 12) (Ng := N_l_caught) (a := "_law_look") (t := fun E => tCall (spReadRun K (ca 2)) [] E (tCons (tVar 0) tNil)) rfl T.g_l_caught T.k_l_caught lkC hcC bC sc_l_caught rfl (Or.inl rfl) gv B.t2 cx_code hm hu (hr.mono (by decide)) (lamS_by (by show lamSB (defScope s_l_read) _ = true; decide +kernel)) rfl (fun _ _ _ _ _ => rfl)
        (fun A outer s H E f c' hr => (pe_call G_read_run (hr.mono (by decide)) rfl T.g_read_run T.k_read_run T.b_read_run .nil (passes_call (takes_of rfl rfl rfl rfl) fun _ _ _ _ h => h) (pa_cons (pv 0) pa_nil)))))
      (pss_one (ps_ret (pe_ifExp (pt_val (pe_callB call_isA (by rfl) T.n_isinstance (by decide +kernel) (pa_cons (pv 1) (pa_cons (pe_glob rfl T.c_BadText.g (v := .ref (ca 2)) rfl) pa_nil)))) (pe_tup (pa_cons pe_str (pa_cons (pe_errf (pv 1)) pa_nil))) (pe_tup (pa_cons pe_str (pa_cons (pe_call G_read_run (hr.mono (by decide)) rfl T.g_read_run T.k_read_run T.b_read_run .nil passL (pa_cons (pv 0) pa_nil)) pa_nil))))))), ?_⟩
    refine seqS (fun v1 H' => ExtN H H' ∧ Tabs (TL2 P1 P2) H' ∧ ((v1 = .non ∧ ∃ t, d = .str t ∧ (pfx evD (runR t)).length = (runR t).length) ∨
        (∃ c x dx, v1 = .ref c ∧ ErrAt H' c (ca 2) [("value", x)] ∧ Dd K H' x dx ∧ rdDue d = badD dx))) (fun Q k' => ?_) ?_
    · have bt : ∀ {G1 G2 : Hp} {x : Addr} {y : V} {dy : PyData}, ExtN H G1 → Tabs (TL2 P1 P2) G1 → Same G1 G2 → G2 x = some (.xd [("value", y)]) → Dd K G2 y dy → rdDue d = badD dy → ∀ a, G2 a = none → Q (.ref a) (upd G2 a (exv a (ca 2) (some x))) := fun {G1 G2 x y dy} e5 t5 s6 hx dy_ due a na => by
        have s7 := same_new (o := exv a (ca 2) (some x)) na
        exact k' _ _ ⟨e5.trans (extn_of (s6.trans s7)), t5.ext (s6.trans s7), .inr ⟨a, y, dy, rfl, ⟨x, .inr upd_same, .inr (s7 _ _ hx)⟩, dy_.same s7, due⟩⟩
      refine ⟨tb0, fun G1 e5 t5 => ⟨_, rfl, v, d, rfl, dd_ext e5 hd, fit, fun no x G2 s6 hx => ?_, fun t ed => ⟨fun n x G2 s6 hx => ?_, fun n a G2 s6 ha => ?_⟩⟩⟩
      · exact ⟨true, T.exm T.c_BadText, fun _ => ⟨_, rfl, bt e5 t5 s6 hx .non (rdDue_no no)⟩, fun z => nomatch z⟩
      · exact ⟨true, T.exm T.c_BadText, fun _ => ⟨_, rfl, bt e5 t5 s6 hx (.int _) (by rw [ed]; exact rdDue_bad n)⟩, fun z => nomatch z⟩
      · exact ⟨_, rfl, k' _ _ ⟨e5.trans (extn_of s6), t5.ext s6, .inl ⟨rfl, t, ed, n⟩⟩⟩
    rintro v1 H1 ⟨e1, t1, alt⟩
    have excT := T.c_BadText.exc T.hn T.ht
    rcases alt with ⟨rfl, t, ed, n⟩ | ⟨c, x, dx, rfl, ee, hx, due⟩
    · refine ⟨_, rfl, .inl ⟨_, _, _, _, _, rfl, .own _, .base .non, T.noErr T.c_BadText, _, rfl, iteB2 rfl ?_⟩⟩
      refine ⟨_, rfl, v, d, rfl, dd_ext e1 hd, fit, fun no => absurd no (by rw [ed]; simp [strB]), fun t' ed' => ⟨fun n' => absurd n' ?_, fun _ a G2 s6 ha => ⟨by show 2 ≤ sizeLine; decide, fun b nb => ?_⟩⟩⟩
      · rw [ed] at ed'
        injection ed' with ed'
        rw [← ed']
        exact fun q => q n
      · have s8 := same_new (o := .tup [.str (tx "fine"), .ref a]) nb
        refine k b _ (e1.trans (extn_of (s6.trans s8))) (t1.ext (s6.trans s8)) ?_
        rw [ed] at ed'
        injection ed' with ed'
        rw [ed, rdDue_ok n, ed']
        exact .tup (SqT.of upd_same) (.cons (.str _) (.cons (ha.same s8) .nil))
    · refine ⟨_, rfl, .inr ⟨c, _, .ref (ca 2), .ref (ca 2), _, rfl, .own _, ee.i, excT, T.kitE T.c_BadText T.c_BadText, _, rfl, iteB (by simp) ?_⟩⟩
      refine ⟨_, rfl, c, _, _, x, rfl, ee, excT, T.no_BadText_value, rfl, by show 2 ≤ sizeLine; decide, fun a na => ?_⟩
      have s2 := same_new (o := .tup [.str (tx "bad"), x]) na
      refine k a _ (e1.trans (extn_of s2)) (t1.ext s2) ?_
      rw [due]
      exact .tup (SqT.of upd_same) (.cons (.str _) (.cons (hx.same s2) .nil))
end
end Toy
set_option Elab.async false
set_option linter.all false
set_option maxRecDepth 100000
set_option maxHeartbeats 1000000
namespace Toy
open PySem L2 Q RZ LamX NdefX D7 TL
/-! ### the dues -/
/-- where those stand that give nothing, so far -/
def Wr {α β : Type} (f : α → Option β) (xs : List α) (i : Nat) (ws : List Nat) : Prop :=
  (ws = [] ∧ i ≤ (pfx f xs).length) ∨ ∃ r, ws = (pfx f xs).length :: r ∧ (pfx f xs).length < i
theorem Wr.yes {α β : Type} {f : α → Option β} {xs : List α} {i : Nat} {ws : List Nat} (h : Wr f xs i ws) {x : α} (hx : xs[i]? = some x) {y : β} (e : f x = some y) : Wr f xs (i + 1) ws := by
  rcases h with ⟨h1, h2⟩ | ⟨r, h1, h2⟩
  · exact .inl ⟨h1, (pfx_go f hx h2).2 y e⟩
  · exact .inr ⟨r, h1, by omega⟩
theorem Wr.no {α β : Type} {f : α → Option β} {xs : List α} {i : Nat} {ws : List Nat} (h : Wr f xs i ws) {x : α} (hx : xs[i]? = some x) (e : f x = none) : Wr f xs (i + 1) (ws ++ [i]) := by
  rcases h with ⟨h1, h2⟩ | ⟨r, h1, h2⟩
  · have g := (pfx_go f hx h2).1 e
    exact .inr ⟨[], by rw [h1, g]; rfl, by omega⟩
  · exact .inr ⟨r ++ [i], by rw [h1]; rfl, by omega⟩
def spShownDue (K : PySem.W.Frag) : Sp := fun vs H Q _ => ∃ (v : V) (d : PyData), vs = [v] ∧ Dd K H v d ∧ (∀ ds, d = .tuple ds → ds.length ≤ 100 ∧ ∀ e ∈ ds, num9 e = true) ∧ ∀ (a : Addr) H', Same H H' → Dd K H' (.ref a) (shDue d) → Q (.ref a) H'
def spReadDue (K : PySem.W.Frag) : Sp := fun vs H Q _ => ∃ (v : V) (d : PyData), vs = [v] ∧ Dd K H v d ∧ RdFit d ∧ ∀ (a : Addr) H', Same H H' → Dd K H' (.ref a) (rdDue d) → Q (.ref a) H'
theorem small_of {e : PyData} (h : num9 e = true) : SmallE e := by
  refine ⟨⟨fun z ez => ?_, fun ds ed x m z ez => ?_⟩, fun ds ed x m i ei => ?_⟩
  · rw [ez] at h
    unfold num9 at h
    rw [Bool.and_eq_true] at h
    have := of_decide_eq_true h.1
    omega
  · rw [ed] at h
    unfold num9 at h
    rw [Bool.and_eq_true] at h
    have h := num9_all.mp h.2 x m
    rw [ez] at h
    unfold num9 at h
    rw [Bool.and_eq_true] at h
    have := of_decide_eq_true h.1
    omega
  · rw [ed] at h
    unfold num9 at h
    rw [Bool.and_eq_true] at h
    have h := num9_all.mp h.2 x m
    rw [ei] at h
    unfold num9 at h
    have := of_decide_eq_true h
    omega
theorem ev_ne {K : PySem.W.Frag} {H : Hp} {u : Addr} {d : PyData} (h : Dd K H (.ref u) d) (e : EventD d) : ∃ xs, SqT K H u xs ∧ xs.isEmpty = false := by
  obtain ⟨w, f, ds, rfl, _⟩ := e
  cases h with
  | tup hx ha => cases ha with
    | cons a b => exact ⟨_, hx, rfl⟩
section
variable {P : Program} {w : World} {K : PySem.W.Frag} {mg : Str → Option Value} {base : Heap} {ca ia fa : Nat → Addr} {fd fi : Nat → FuncData}
theorem ok_shownDue (T : Txt w K mg ca ia fa fd fi) : FnOk P w K mg base CX0 6 (fa 45) (fd 45) ["_law_value"] (spShownDue K) := by
  have G_l_is_form := ok_isForm (P := P) (w := w) (base := base) T
  have G_l_event_page := ok_lPage (P := P) (w := w) (base := base) T
  refine T.F_l_shown_due.ok sc_l_shown_due (fun vs H Q E h => ?_) (fun cdv A outer s H vs Q E hr h => ?_)
  · obtain ⟨v, d, rfl, _⟩ := h
    rfl
  · obtain ⟨v, d, rfl, hd, fit, k⟩ := h
    refine ⟨_, (pss_cons (ps_if (pt_not (pt_val (pe_callB call_isA (by rfl) T.n_isinstance (by decide +kernel) (pa_cons (pv 0) (pa_cons (pe_bltn (v := .ty "tuple") (by rfl) T.n_tuple (by decide +kernel) rfl) pa_nil))))) (pss_one (ps_ret (pe_tup (pa_cons pe_str (pa_cons (pe_un un_neg pe_int) pa_nil))))) pss_nil)
      (pss_cons (ps_setLc (i := 1) (own := [("_law_at", 2), ("_law_event", 3)]) (g := (gTup K 2 (gCons (gName 2) (gCons (gName 3) gNil)))) (tt := (tNot (tB (tCall (spIsForm K) [] E0 (tCons (tVar 3) tNil))))) rfl sc_l_shown_due.nd rfl rfl (sw_true rfl rfl rfl (by decide +kernel)) (pi_enumT (by rfl) T.n_enumerate (pa_cons (pv 0) pa_nil)) (blkOk_by (own := [("_law_at", 2), ("_law_event", 3)]) (N := N_l_shown_due) (sc := defScope s_l_shown_due) (by decide +kernel)) (fun _ _ _ _ _ => (pg_tup rfl (pgs_cons (pg_name (i := 2) sc_l_shown_due.nd rfl (Or.inl rfl)) (pgs_cons (pg_name (i := 3) sc_l_shown_due.nd rfl (Or.inl rfl)) pgs_nil)))) (fun _ _ _ _ _ => (pts_one (pt_not (pt_val (pe_call G_l_is_form (hr.mono (by decide)) rfl T.g_l_is_form T.k_l_is_form T.b_l_is_form .nil pass0 (pa_cons (pv 3) pa_nil)))))) (fun _ _ _ _ _ => by exact (pv 2)))
      (pss_one (ps_ret (pe_ifExp (pt_cmpR (op_neNil (roomU1 hr)) (pv 1) (pe_lst pa_nil) (nomark _)) (pe_tup (pa_cons pe_str (pa_cons (pe_ix ix_seq (pv 1) pe_int (fun _ _ => rfl)) pa_nil))) (pe_tup (pa_cons pe_str (pa_cons (pe_join pe_str (pe_lc (own := [("_law_event", 3)]) (g := (gName 3)) (tt := tYes) rfl sc_l_shown_due.nd (pi_tup (pv 0)) (blkOk_by (own := [("_law_event", 3)]) (N := N_l_shown_due) (sc := defScope s_l_shown_due) (by decide +kernel)) (fun _ _ _ _ _ => (pg_name (i := 3) sc_l_shown_due.nd rfl (Or.inl rfl))) (fun _ _ _ _ _ => pts_nil) (fun _ _ _ _ _ => by exact (pe_call G_l_event_page (hr.mono (by decide)) rfl T.g_l_event_page T.k_l_event_page T.b_l_event_page .nil pass0 (pa_cons (pv 3) pa_nil))))) pa_nil)))))))), ?_⟩
    obtain ⟨t, ty, _, _, _, e4⟩ := hd.kits
    refine ⟨_, rfl, .inl ⟨_, _, _, _, _, rfl, .ty _, ty, e4, _, rfl, ifE (fun c => ?_) fun c => ?_⟩⟩
    · refine ⟨_, rfl, by show 2 ≤ sizeLine; decide, fun a na => k a _ (same_new na) ?_⟩
      rw [shDue_no (by simpa using c)]
      exact .tup (SqT.of upd_same) (.cons (.str _) (.cons (.int _) .nil))
    obtain ⟨a, xs, ds, rfl, rfl, hx, ha⟩ := tupB_of hd (by simpa using c)
    have lx := dd_len ha
    obtain ⟨few, nine⟩ := fit ds rfl
    refine nxt ?_
    refine ⟨_, rfl, a, xs, rfl, hx, fun D nD => ?_⟩
    refine lc_it (walk_enumT (xs := xs)) (fun i H' => ∃ ws : List Nat, H' D = some (.lst (ws.map fun n : Nat => V.int (n : Int))) ∧ ws.length ≤ i ∧ Same H H' ∧ Wr evF ds i ws) ⟨[], upd_same, Nat.le_refl _, same_new nD, .inl ⟨rfl, Nat.zero_le _⟩⟩ (fun i H' _ ⟨_, _, _, q, _⟩ => SqT.same q hx) ?_ ?_
    · rintro i x Ha Hb hi ⟨ws, hb, lw, sm, wr⟩ ⟨T1, y1, y2, rfl, nT, rfl, e1, e2⟩
      injection e1 with e1
      obtain ⟨e, he, hye⟩ := dd_at ha e2
      have sT := same_new (o := .tup [y1, y2]) nT
      have li := (List.getElem?_eq_some_iff.mp he).1
      refine ⟨T1, _, rfl, SqT.of upd_same, rfl, _, _, rfl, _, _, rfl, rfl, ?_⟩
      refine ⟨rfl, _, rfl, y2, e, rfl, hye.same (sm.trans sT), nine e (List.mem_of_getElem? he), fun b hb6 H6 s6 => ⟨_, rfl, ifE (fun c => ?_) fun c => ?_⟩⟩
      · have ne : ¬ EventD e := fun q => by rw [hb6.mpr q] at c; cases c
        have hD6 := s6 _ _ (sT _ _ hb)
        refine ⟨_, rfl, _, hD6, by rw [List.length_map, sizeLine_eq]; omega, ws ++ [i], ?_, by rw [List.length_append, List.length_singleton]; omega, Same.upd_at ((sm.trans sT).trans s6) nD, wr.no he (evF_no ne)⟩
        rw [upd_same, List.map_append, ← e1]
        rfl
      · have ev := hb6.mp (by simpa using c)
        exact ⟨ws, s6 _ _ (sT _ _ hb), by omega, (sm.trans sT).trans s6, wr.yes he (evF_yes ev)⟩
    · rintro H3 ⟨ws, hb, lw, s3, wr⟩
      rw [lx] at wr
      refine ⟨_, rfl, by show 0 ≤ sizeLine; decide, fun L nL => ?_⟩
      have sL := same_new (o := .lst []) nL
      have hb1 := sL _ _ hb
      refine ⟨D, L, _, rfl, rfl, SqL.of hb1, SqL.of upd_same, _, rfl, ?_⟩
      have s4 := s3.trans sL
      generalize upd H3 L (.lst []) = H4 at sL hb1 s4 ⊢
      rcases wr with ⟨rfl, le⟩ | ⟨r, rfl, lt⟩
      · have lp := pfx_le evF ds
        have ee : (pfx evF ds).length = ds.length := by omega
        have all := pfx_full ee
        refine iteB2 rfl ?_
        have hx4 := SqT.same s4 hx
        have ha4 : DdAll K H4 xs ds := DdAll.same s4 ha
        refine ⟨⟨_, rfl⟩, _, rfl, a, rfl, ⟨_, hx4⟩, fun D2 nD2 => ?_⟩
        refine lc_it (walk_tup (xs := xs)) (fun i H' => H' D2 = some (.lst (((ds.take i).map rowD).map V.str)) ∧ Same H4 H') ⟨upd_same, same_new nD2⟩ (fun i H' _ q => SqT.same q.2 hx4) ?_ ?_
        · rintro i x Ha Hb hi ⟨hb, s5⟩ ⟨rfl, hxi⟩
          obtain ⟨e, he, hxe⟩ := dd_at ha4 hxi
          have m := List.mem_of_getElem? he
          obtain ⟨es, rfl, e5, parts⟩ := event_parts (all e m) (small_of (nine e m))
          refine ⟨rfl, ?_⟩
          dsimp only [tYes]
          rw [if_pos rfl]
          refine ⟨_, rfl, x, es, rfl, hxe.same s5, fun u hu => ⟨(parts u hu).1, by have := (parts u hu).2; omega⟩, by omega, fun H6 s6 => ?_⟩
          refine ⟨_, s6 _ _ hb, by rw [List.length_map, List.length_map, List.length_take, sizeLine_eq]; omega, ?_, Same.upd_at (s5.trans s6) nD2⟩
          rw [upd_same, List.take_add_one, he, List.map_append, List.map_append]
          rfl
        · rintro H5 ⟨hb, s5⟩
          rw [lx, List.take_length] at hb
          refine ⟨_, D2, _, rfl, rfl, .inl (SqL.of hb), ?_, by show 2 ≤ sizeLine; decide, fun t nt => k t _ ((s4.trans s5).trans (same_new nt)) ?_⟩
          · have lr : ∀ z ∈ ds.map rowD, z.length ≤ 200 := fun z hz => by
              obtain ⟨e, m, rfl⟩ := List.mem_map.mp hz
              obtain ⟨es, rfl, e5, parts⟩ := event_parts (all e m) (small_of (nine e m))
              have h := wrd_len (ws := es.map partT) (m := 30) fun y hy => by
                obtain ⟨u, hu, rfl⟩ := List.mem_map.mp hy
                exact (parts u hu).2
              rw [List.length_map] at h
              show (Txt.join (tx " ") (es.map partT)).length ≤ 200
              refine Nat.le_trans h ?_
              have := Nat.mul_le_mul_right 31 e5
              omega
            have sl := sum_le lr
            rw [List.length_map] at sl
            have e1 : (Str.ofString "\n").length = 1 := by decide +kernel
            rw [e1, List.length_map]
            have := Nat.mul_le_mul_right 200 few
            omega
          · rw [shDue_ok ee]
            exact .tup (SqT.of upd_same) (.cons (.str _) (.cons (.str _) .nil))
      · refine iteB rfl ⟨_, rfl, ixL (SqL.of hb1) 0 (v := .int ((pfx evF ds).length : Nat)) rfl ⟨by show 2 ≤ sizeLine; decide, fun t nt => k t _ (s4.trans (same_new nt)) ?_⟩⟩
        rw [shDue_bad (by omega)]
        exact .tup (SqT.of upd_same) (.cons (.str _) (.cons (.int _) .nil))
theorem ok_readDue (T : Txt w K mg ca ia fa fd fi) : FnOk P w K mg base CX0 6 (fa 46) (fd 46) ["_law_value"] (spReadDue K) := by
  have G_l_event_read := ok_lRead (P := P) (w := w) (base := base) T
  refine T.F_l_read_due.ok sc_l_read_due (fun vs H Q E h => ?_) (fun cdv A outer s H vs Q E hr h => ?_)
  · obtain ⟨v, d, rfl, _⟩ := h
    rfl
  · obtain ⟨v, d, rfl, hd, fit, k⟩ := h
    refine ⟨_, (pss_cons (ps_if (pt_not (pt_val (pe_callB call_isA (by rfl) T.n_isinstance (by decide +kernel) (pa_cons (pv 0) (pa_cons (pe_bltn (v := .ty "str") (by rfl) T.n_str (by decide +kernel) rfl) pa_nil))))) (pss_one (ps_ret (pe_tup (pa_cons pe_str (pa_cons pe_non pa_nil))))) pss_nil)
      (pss_cons (ps_set (i := 1) sc_l_read_due.nd rfl (Or.inl rfl) (pe_ifExp (pt_cmpR op_ne (pv 0) pe_str (nomark _)) (pe_split (pv 0) pe_str) (pe_lst pa_nil)))
      (pss_cons (ps_setLc (i := 2) (own := [("_law_at", 3), ("_law_row", 4)]) (g := (gTup K 2 (gCons (gName 3) (gCons (gName 4) gNil)))) (tt := (tTest (tOp (rEqNilT K) (tCall (spLRead K) [] E0 (tCons (tVar 4) tNil)) (tTup tNil)))) rfl sc_l_read_due.nd rfl rfl (sw_true rfl rfl rfl (by decide +kernel)) (pi_enum (by rfl) T.n_enumerate (pa_cons (pv 1) pa_nil)) (blkOk_by (own := [("_law_at", 3), ("_law_row", 4)]) (N := N_l_read_due) (sc := defScope s_l_read_due) (by decide +kernel)) (fun _ _ _ _ _ => (pg_tup rfl (pgs_cons (pg_name (i := 3) sc_l_read_due.nd rfl (Or.inl rfl)) (pgs_cons (pg_name (i := 4) sc_l_read_due.nd rfl (Or.inl rfl)) pgs_nil)))) (fun _ _ _ _ _ => (pts_one (pt_cmpR (op_eqNilT (roomU1 hr)) (pe_call G_l_event_read (hr.mono (by decide)) rfl T.g_l_event_read T.k_l_event_read T.b_l_event_read .nil pass0 (pa_cons (pv 4) pa_nil)) (pe_tup pa_nil) (nomark _)))) (fun _ _ _ _ _ => by exact (pv 3)))
      (pss_one (ps_ret (pe_ifExp (pt_cmpR (op_neNil (roomU1 hr)) (pv 2) (pe_lst pa_nil) (nomark _)) (pe_tup (pa_cons pe_str (pa_cons (pe_ix ix_seq (pv 2) pe_int (fun _ _ => rfl)) pa_nil))) (pe_tup (pa_cons pe_str (pa_cons (pe_callTy call_tuple_of (by rfl) T.n_tuple (by decide +kernel) (pa_cons (pe_lc (own := [("_law_row", 4)]) (g := (gName 4)) (tt := tYes) rfl sc_l_read_due.nd (pi_list (pv 1)) (blkOk_by (own := [("_law_row", 4)]) (N := N_l_read_due) (sc := defScope s_l_read_due) (by decide +kernel)) (fun _ _ _ _ _ => (pg_name (i := 4) sc_l_read_due.nd rfl (Or.inl rfl))) (fun _ _ _ _ _ => pts_nil) (fun _ _ _ _ _ => by exact (pe_call G_l_event_read (hr.mono (by decide)) rfl T.g_l_event_read T.k_l_event_read T.b_l_event_read .nil pass0 (pa_cons (pv 4) pa_nil)))) pa_nil)) pa_nil))))))))), ?_⟩
    obtain ⟨ty0, ty, _, _, es, _⟩ := hd.kits
    refine ⟨_, rfl, .inl ⟨_, _, _, _, _, rfl, .ty _, ty, es, _, rfl, ifE (fun c => ?_) fun c => ?_⟩⟩
    · refine ⟨by show 2 ≤ sizeLine; decide, fun a na => k a _ (same_new na) ?_⟩
      rw [rdDue_no (by simpa using c)]
      exact .tup (SqT.of upd_same) (.cons (.str _) (.cons .non .nil))
    obtain ⟨t, rfl, rfl⟩ := strB_of hd (by simpa using c)
    have lt := fit t rfl
    refine nxt ?_
    obtain ⟨wl, wn, wp⟩ := rows_le t
    -- the rows
    refine seqS (fun v H' => ∃ R, v = .ref R ∧ Same H H' ∧ H' R = some (.lst ((runR t).map V.str))) (fun Q k' => ?_) ?_
    · refine ⟨_, rfl, rfl, _, rfl, ifE (fun c => ?_) fun c => ?_⟩
      · have ne : t ≠ tx "" := fun e => by
          rw [e] at c
          simp at c
        have er : runR t = rowsOf t := by unfold runR; rw [if_neg ne]
        refine ⟨_, rfl, ⟨_, rfl⟩, _, _, rfl, rfl, by decide +kernel, by rw [sizeLine_eq]; omega, fun R nR => k' _ _ ⟨R, rfl, same_new nR, ?_⟩⟩
        rw [er]
        exact upd_same
      · have e : t = tx "" := by
          have h := of_decide_eq_true (by simpa using c : decide (V.str t = V.str (Str.ofString "")) = true)
          injection h
        have er : runR t = [] := by unfold runR; rw [if_pos e]
        refine ⟨by show 0 ≤ sizeLine; decide, fun R nR => k' _ _ ⟨R, rfl, same_new nR, ?_⟩⟩
        rw [er]
        exact upd_same
    rintro _ H1 ⟨R, rfl, s1, hR⟩
    have few : (runR t).length ≤ 9001 := by
      unfold runR
      split
      · exact Nat.zero_le _
      · omega
    have lr : ∀ r ∈ runR t, r.length ≤ 9000 := fun r m => by
      unfold runR at m
      split at m
      · cases m
      · have := wp r m
        omega
    refine ⟨_, rfl, R, _, rfl, SqL.of hR, fun D nD => ?_⟩
    refine lc_it (walk_enum (xs := (runR t).map V.str)) (fun i H' => ∃ ws : List Nat, H' D = some (.lst (ws.map fun n : Nat => V.int (n : Int))) ∧ ws.length ≤ i ∧ Same H1 H' ∧ Wr evD (runR t) i ws) ⟨[], upd_same, Nat.le_refl _, same_new nD, .inl ⟨rfl, Nat.zero_le _⟩⟩ (fun i H' _ ⟨_, _, _, q, _⟩ => SqL.of (q _ _ hR)) ?_ ?_
    · rintro i x Ha Hb hi ⟨ws, hb, lw, sm, wr⟩ ⟨T1, y1, y2, rfl, nT, rfl, e1, e2⟩
      injection e1 with e1
      obtain ⟨z, hz, rfl⟩ := at_map e2
      have sT := same_new (o := .tup [y1, .str z]) nT
      have li := (List.getElem?_eq_some_iff.mp hz).1
      refine ⟨T1, _, rfl, SqT.of upd_same, rfl, _, _, rfl, _, _, rfl, rfl, ?_⟩
      refine ⟨rfl, _, rfl, z, rfl, lr z (List.mem_of_getElem? hz), fun d ed u H6 s6 hu => ⟨by show 0 ≤ sizeLine; decide, fun e0 n0 => ?_⟩, fun en u H6 s6 hu => ⟨by show 0 ≤ sizeLine; decide, fun e0 n0 => ?_⟩⟩
      · have s7 := same_new (o := .tup []) n0
        obtain ⟨us, hus, ne⟩ := ev_ne (hu.same s7) (evD_row ed).2
        refine ⟨u, e0, us, rfl, rfl, hus, SqT.of upd_same, _, rfl, iteB2 ne ?_⟩
        exact ⟨ws, s7 _ _ (s6 _ _ (sT _ _ hb)), by omega, ((sm.trans sT).trans s6).trans s7, wr.yes hz ed⟩
      · have s7 := same_new (o := .tup []) n0
        refine ⟨u, e0, [], rfl, rfl, SqT.of (s7 _ _ hu), SqT.of upd_same, _, rfl, iteB rfl ?_⟩
        have hD6 := s7 _ _ (s6 _ _ (sT _ _ hb))
        refine ⟨_, rfl, _, hD6, by rw [List.length_map, sizeLine_eq]; omega, ws ++ [i], ?_, by rw [List.length_append, List.length_singleton]; omega, Same.upd_at (((sm.trans sT).trans s6).trans s7) nD, wr.no hz en⟩
        rw [upd_same, List.map_append, ← e1]
        rfl
    · rintro H3 ⟨ws, hb, lw, s3, wr⟩
      rw [List.length_map] at wr
      refine ⟨_, rfl, by show 0 ≤ sizeLine; decide, fun L nL => ?_⟩
      have sL := same_new (o := .lst []) nL
      have hb1 := sL _ _ hb
      refine ⟨D, L, _, rfl, rfl, SqL.of hb1, SqL.of upd_same, _, rfl, ?_⟩
      have s4 := s3.trans sL
      generalize upd H3 L (.lst []) = H4 at sL hb1 s4 ⊢
      rcases wr with ⟨rfl, le⟩ | ⟨r, rfl, lt⟩
      · have lp := pfx_le evD (runR t)
        have ee : (pfx evD (runR t)).length = (runR t).length := by omega
        refine iteB2 rfl ?_
        have hR4 := s4 _ _ hR
        have allRow : ∀ d ∈ pfx evD (runR t), RowD d := fun d hd => let ⟨_, e⟩ := pfx_all d hd; (evD_row e).1
        refine ⟨_, rfl, R, rfl, ⟨_, SqL.of hR4⟩, fun D2 nD2 => ?_⟩
        have RD : R ≠ D2 := fun z => by rw [z, nD2] at hR4; cases hR4
        refine lc_it (walk_list (xs := (runR t).map V.str)) (fun i H' => ∃ vs : List V, H' D2 = some (.lst vs) ∧ vs.length = i ∧ DdAll K H' vs ((pfx evD (runR t)).take i) ∧ But D2 H4 H') ⟨[], upd_same, rfl, .nil, fun a o n e => by rw [upd_ne n]; exact e⟩ (fun i H' _ ⟨_, _, _, _, b⟩ => SqL.of (b _ _ RD hR4)) ?_ ?_
        · rintro i x Ha Hb hi ⟨vs, hb, lv, dd, bu⟩ ⟨rfl, hxi⟩
          obtain ⟨z, hz, rfl⟩ := at_map hxi
          have li := (List.getElem?_eq_some_iff.mp hz).1
          refine ⟨rfl, ?_⟩
          dsimp only [tYes]
          rw [if_pos rfl]
          obtain ⟨goN, goY⟩ := pfx_go evD hz (by omega)
          refine ⟨_, rfl, z, rfl, lr z (List.mem_of_getElem? hz), fun d ed u H6 s6 hu => ?_, fun en u H6 s6 hu => absurd (goN en) (by omega)⟩
          have hD6 := s6 _ _ hb
          refine ⟨_, hD6, by rw [sizeLine_eq]; omega, vs ++ [.ref u], upd_same, by simp [lv], ?_, fun c o n e => by rw [upd_ne n]; exact s6 _ _ (bu c o n e)⟩
          rw [List.take_add_one, pfx_at evD hz (goY d ed) ed]
          exact dd_snoc (rows_put hD6 (fun d m => allRow d (List.mem_of_mem_take m)) (DdAll.same s6 dd)) (row_put (evD_row ed).1 hu hD6)
        · rintro H5 ⟨vs, hb, lv, dd, bu⟩
          rw [List.length_map, ← ee, List.take_length] at dd
          have s5 : Same H4 H5 := fun a o e => bu a o (fun z => by rw [z, nD2] at e; cases e) e
          refine ⟨D2, _, rfl, .inl ⟨SqL.of hb, fun u nu => ⟨by show 2 ≤ sizeLine; decide, fun q nq => ?_⟩⟩⟩
          have su := same_new (o := .tup vs) nu
          have sq := same_new (o := .tup [.str (tx "fine"), .ref u]) nq
          refine k q _ ((((s1.trans s4).trans s5).trans su).trans sq) ?_
          rw [rdDue_ok ee]
          exact .tup (SqT.of upd_same) (.cons (.str _) (.cons (.tup (SqT.of (sq _ _ upd_same)) (DdAll.same (su.trans sq) dd)) .nil))
      · refine iteB rfl ⟨_, rfl, ixL (SqL.of hb1) 0 (v := .int ((pfx evD (runR t)).length : Nat)) rfl ⟨by show 2 ≤ sizeLine; decide, fun q nq => k q _ ((s1.trans s4).trans (same_new nq)) ?_⟩⟩
        rw [rdDue_bad (by omega)]
        exact .tup (SqT.of upd_same) (.cons (.str _) (.cons (.int _) .nil))
end
end Toy
set_option Elab.async false
set_option linter.all false
set_option maxRecDepth 100000
set_option maxHeartbeats 1000000
namespace Toy
open PySem L2 Q RZ LamX NdefX D7 TL
/-! ### how great the dues are -/
theorem Sm.shows {n k : Nat} {d : PyData} (h : Sm n k d) (a : n ≤ 16777216) (b : k ≤ 100) : Shows d :=
  ⟨h.ok, Nat.le_trans h.len (Nat.le_trans a (by rw [sizeLine_eq]; decide)), Nat.le_trans h.dp b⟩
theorem sm_word {wd : Str} (h : Tc wd) {n k : Nat} {x : PyData} (hx : Sm n k x) (hn : 110 ≤ n) (hk : 3 ≤ k) : Sm (2 * (n + 2) + 2) (k + 1) (.tuple [.str wd, x]) := by
  refine (sm_tuple (n := n) (k := k) (xs := [.str wd, x]) fun y hy => ?_)
  simp only [List.mem_cons, List.not_mem_nil, or_false] at hy
  rcases hy with rfl | rfl
  · exact (sm_tc h).mono hn hk
  · exact hx
theorem tc_words : Tc (tx "bad") ∧ Tc (tx "fine") := by decide +kernel
/-- signs of a text, low -/
def Asc (z : Str) : Prop := ∀ c ∈ tl z, c < 128
theorem asc_join {s : Str} (hs : Asc s) {ws : List Str} (h : ∀ z ∈ ws, Asc z) : Asc (Txt.join s ws) := fun c m => by
  rw [join_eq, tl_join] at m
  rcases joinL_mem m with m | ⟨p, hp, m⟩
  · exact hs c m
  · obtain ⟨z, hz, rfl⟩ := List.mem_map.mp hp
    exact h z hz c m
theorem asc_name {z : Str} (h : NameOk z) : Asc z := fun c m => by
  have := h.2.2 c m
  omega
theorem asc_num (n : Nat) : Asc (num n) := fun c m => by
  rw [num_tl] at m
  exact Classical.byContradiction fun q => numL_free (n := n) (s := c) (.inr (by omega)) m
theorem asc_seps : Asc (tx " ") ∧ Asc (tx "\n") := by
  unfold Asc
  rw [sp_tl, lf_tl]
  exact ⟨by simp, by simp⟩
theorem asc_words : ∀ q ∈ formsL, ∀ c ∈ tl q.1, c < 128 := by decide +kernel
theorem event_asc {e : PyData} (h : EventD e) : Asc (rowD e) := by
  have h0 := h
  obtain ⟨w, f, ds, rfl, ef, _⟩ := h
  obtain ⟨_, al⟩ := ev_parts h0
  refine asc_join asc_seps.1 fun z hz => ?_
  obtain ⟨u, hu, rfl⟩ := List.mem_map.mp hz
  rcases List.mem_cons.mp hu with rfl | hu
  · exact asc_words _ (look_mem ef)
  · rcases al u hu with ⟨y, rfl, n⟩ | k
    · exact asc_name n
    · cases u with
      | int i =>
        have k : decide (0 ≤ i) = true := k
        obtain ⟨n, rfl⟩ := Int.eq_ofNat_of_zero_le (of_decide_eq_true k)
        exact asc_num n
      | _ => cases k
theorem sm_text {z : Str} {m : Nat} (h : Asc z) (l : z.length ≤ m) : Sm (10 * m + 2) 3 (.str z) := by
  refine ⟨rfl, ?_, ?_⟩
  · have q := PySem.StrLaws.reprText_len z fun c hc => by have := h c hc; omega
    simp only [PyData.shown]
    omega
  · simp only [PyData.depth]
    omega
theorem row_len {e : PyData} (h : EventD e) (s : SmallE e) : (rowD e).length ≤ 200 := by
  obtain ⟨es, rfl, e5, parts⟩ := event_parts h s
  have q := wrd_len (ws := es.map partT) (m := 30) fun y hy => by
    obtain ⟨u, hu, rfl⟩ := List.mem_map.mp hy
    exact (parts u hu).2
  rw [List.length_map] at q
  show (Txt.join (tx " ") (es.map partT)).length ≤ 200
  refine Nat.le_trans q ?_
  have := Nat.mul_le_mul_right 31 e5
  omega
theorem lines_len {rs : List Str} {m : Nat} (h : ∀ z ∈ rs, z.length ≤ m) : (Txt.join (tx "\n") rs).length ≤ rs.length * (m + 1) := by
  have e := join_wt rs
  have s := sum_le h
  unfold Wt at e
  rw [Nat.mul_add]
  omega
/-- of what the dues are asked -/
abbrev ShF (d : PyData) : Prop := ∀ ds, d = .tuple ds → ds.length ≤ 100 ∧ ∀ e ∈ ds, num9 e = true
theorem ShF.fit {d : PyData} (h : ShF d) : ShFit d := fun ds e => ⟨fun x m => small_of ((h ds e).2 x m), (h ds e).1⟩
theorem sh_shows {d : PyData} (h : ShF d) : Shows (shDue d) := by
  obtain ⟨c1, c2⟩ := tc_words
  cases et : tupB d with
  | false =>
    rw [shDue_no et]
    exact (sm_word c1 ((sm_int (i := -1) (by decide)).mono (n' := 110) (k' := 3) (by decide) (by decide)) (by decide) (by decide)).shows (by decide) (by decide)
  | true =>
    obtain ⟨ds, rfl⟩ : ∃ ds, d = .tuple ds := by
      cases d <;> first | exact ⟨_, rfl⟩ | cases et
    obtain ⟨few, nine⟩ := h ds rfl
    have le := pfx_le evF ds
    by_cases n : (pfx evF ds).length = ds.length
    · rw [shDue_ok n]
      have all := pfx_full n
      have l := lines_len (rs := ds.map rowD) (m := 200) fun z hz => by
        obtain ⟨e, m, rfl⟩ := List.mem_map.mp hz
        exact row_len (all e m) (small_of (nine e m))
      rw [List.length_map] at l
      have l2 : (runT ds).length ≤ 20100 := Nat.le_trans l (by have := Nat.mul_le_mul_right 201 few; omega)
      have a : Asc (runT ds) := asc_join asc_seps.2 fun z hz => by
        obtain ⟨e, m, rfl⟩ := List.mem_map.mp hz
        exact event_asc (all e m)
      exact (sm_word c2 (sm_text a l2) (by decide) (by decide)).shows (by decide) (by decide)
    · rw [shDue_bad n]
      exact (sm_word c1 ((sm_nat (n := (pfx evF ds).length) (by omega)).mono (n' := 110) (k' := 3) (by decide) (by decide)) (by decide) (by decide)).shows (by decide) (by decide)
theorem ev_sm {r : Str} {d : PyData} (h : evD r = some d) : Sm 600 4 d := by
  obtain ⟨⟨es, rfl, fl⟩, ev⟩ := evD_row h
  have ev0 := ev
  obtain ⟨w, f, ds, e, ef, le, _⟩ := ev
  injection e with e
  subst e
  obtain ⟨_, f4⟩ := forms_le _ (look_mem ef)
  have f4 : f.length ≤ 4 := f4
  obtain ⟨_, al⟩ := ev_parts ev0
  have nums : ∀ i : Int, PyData.int i ∈ ds → i.natAbs < 1000000000 := fun i m => by
    unfold evD at h
    split at h
    · cases h
    · split at h
      · cases h
      · split at h
        · injection h with h
          unfold madeD at h
          injection h with h
          injection h with h1 h2
          rw [← h2] at m
          obtain ⟨q, _, e⟩ := List.mem_map.mp m
          unfold partD at e
          split at e
          · cases e
          · split at e
            · rename_i k
              injection e with e
              rw [← e, Int.natAbs_natCast]
              exact val_lt k
            · cases e
        · cases h
  refine (sm_tuple (n := 110) (k := 3) fun x hx => ?_).mono (by rw [List.length_cons]; omega) (by decide)
  rcases List.mem_cons.mp hx with rfl | hx
  · exact sm_tc ⟨by have : w.length ≤ 5 := (forms_words _ (look_mem ef)).2.1; omega, asc_words _ (look_mem ef)⟩
  · rcases al x hx with ⟨y, rfl, n⟩ | k
    · exact sm_tc ⟨by have := n.2.1; omega, asc_name n⟩
    · cases x with
      | int i => exact (sm_int (nums i hx)).mono (by decide) (by decide)
      | _ => cases k
theorem rd_shows {d : PyData} (h : RdFit d) : Shows (rdDue d) := by
  obtain ⟨c1, c2⟩ := tc_words
  cases es : strB d with
  | false =>
    rw [rdDue_no es]
    exact (sm_word c1 ((⟨by decide +kernel, by decide +kernel, by decide +kernel⟩ : Sm 20 3 .none).mono (n' := 110) (k' := 3) (by decide) (by decide)) (by decide) (by decide)).shows (by decide) (by decide)
  | true =>
    obtain ⟨t, rfl⟩ : ∃ t, d = .str t := by
      cases d <;> first | exact ⟨_, rfl⟩ | cases es
    have lt := h t rfl
    have le := pfx_le evD (runR t)
    obtain ⟨wl, wn, wp⟩ := rows_le t
    have few : (runR t).length ≤ 9001 := by
      unfold runR
      split
      · exact Nat.zero_le _
      · omega
    by_cases n : (pfx evD (runR t)).length = (runR t).length
    · rw [rdDue_ok n]
      have s := sm_tuple (n := 600) (k := 4) (xs := pfx evD (runR t)) fun x hx => by
        obtain ⟨r, e⟩ := pfx_all x hx
        exact ev_sm e
      have s2 : Sm 6000000 5 (.tuple (pfx evD (runR t))) := s.mono (by have := Nat.mul_le_mul_right 602 (Nat.le_trans le few); omega) (by decide)
      exact (sm_word c2 s2 (by decide) (by decide)).shows (by decide) (by decide)
    · rw [rdDue_bad n]
      exact (sm_word c1 ((sm_nat (n := (pfx evD (runR t)).length) (by omega)).mono (n' := 110) (k' := 3) (by decide) (by decide)) (by decide) (by decide)).shows (by decide) (by decide)
theorem odd_len : ∀ d ∈ oddDs, RdFit d := by
  intro d hd t e
  simp only [oddDs, List.mem_cons, List.not_mem_nil, or_false] at hd
  rcases hd with rfl | rfl | rfl | rfl | rfl | rfl | rfl | rfl | rfl | rfl | rfl | rfl | rfl | rfl | rfl | rfl <;> first | (cases e; done) | (injection e with e; subst e; decide +kernel)
end Toy
set_option Elab.async false
set_option linter.all false
set_option maxRecDepth 100000
set_option maxHeartbeats 1000000
namespace Toy
open PySem L2 Q RZ LamX NdefX D7 TL
/-! ### one pot -/
theorem OkV.go {K : PySem.W.Frag} {p : Addr} {R : PyData → Prop} {H H' : Hp} {v : V} (h : OkV K p R H v) (g : Go p H H') : OkV K p R H' v := let ⟨d, h1, h2⟩ := h; ⟨d, dd_ext g.off h1, h2⟩
theorem off_upd {H : Hp} {p D : Addr} {o : HO} (n : D ≠ p) : off (upd H D o) p = upd (off H p) D o := by
  funext b
  show (if b = p then none else (if b = D then some o else H b)) = (if b = D then some o else (if b = p then none else H b))
  by_cases e : b = p
  · have e2 : ¬ b = D := fun z => n (z.symm.trans e)
    rw [if_pos e, if_neg e2, if_pos e]
  · rw [if_neg e, if_neg e]
theorem wm1_row {d : PyData} (h : Wm 1 d) : RowD d := by
  obtain ⟨ds, rfl, _, al⟩ := h
  refine ⟨ds, rfl, fun e m => ?_⟩
  rcases al e m with ⟨z, rfl, _⟩ | ⟨x, rfl, _⟩ <;> exact trivial
theorem wm1_part {ds : List PyData} (h : Wm 1 (.tuple ds)) : ds.length ≤ 16 ∧ ∀ e ∈ ds, PartOk e ∧ (partT e).length ≤ 8 := by
  obtain ⟨ds', e, l, al⟩ := h
  injection e with e
  subst e
  refine ⟨l, fun e m => ?_⟩
  rcases al e m with ⟨z, rfl, _, l8⟩ | ⟨x, rfl, l8⟩
  · exact ⟨.inl ⟨z, rfl⟩, l8⟩
  · refine ⟨.inr ⟨_, rfl, num_log (by omega)⟩, ?_⟩
    have e : partT (.int (x : Int)) = num x := rfl
    rw [e, len_tl, num_tl]
    exact numL_len (k := 8) (by decide) (by omega)
theorem oka_put {K : PySem.W.Frag} {p D : Addr} {R : PyData → Prop} {H : Hp} {xs ys ys' : List V} (f : ∀ d, R d → RowD d) (h : OkA K p R H xs) (n : D ≠ p) (hD : H D = some (.lst ys)) : OkA K p R (upd H D (.lst ys')) xs := by
  obtain ⟨ds, d1, d2⟩ := h
  refine ⟨ds, ?_, d2⟩
  rw [off_upd n]
  exact rows_put (off_at hD n) (fun d m => f d (d2 d m)) d1
theorem seqD {a u : TS} {D : Ends} {σ : L2.St} {H : Hp} (Pn : L2.St → Hp → Prop) (ha : ∀ nx' : L2.St → Hp → Prop, (∀ σ' H', Pn σ' H' → nx' σ' H') → a { D with nx := nx' } σ H) (hu : ∀ σ' H', Pn σ' H' → u D σ' H') : tSeq a u D σ H := ha (u D) hu
/-- _law_fine(pot) -/
def spFine (P1 P2 : Addr) : Sp := fun vs H Q _ => ∃ (p : Addr) (B : Nat), vs = [.ref p] ∧ At p P1 P2 B H ∧ B < 700000 ∧ ∀ H', Go p H H' → At p P1 P2 (B + 300) H' → Q (.bl true) H'
section
variable {P : Program} {w : World} {K : PySem.W.Frag} {mg : Str → Option Value} {base : Heap} {ca ia fa : Nat → Addr} {fd fi : Nat → FuncData} {c1 P1 c2 P2 : Addr}
theorem ok_fine (T : Txt w K mg ca ia fa fd fi) (FC : FunC K "_law_shown" s_l_shown (fa 43) (fd 43) c1) (FD : FunC K "_law_read" s_l_read (fa 44) (fd 44) c2) (B : Tb base mg c1 P1 c2 P2) :
    FnG P w K mg base CX0 16 (fa 47) (fd 47) ["_law_pot_here"] (spFine P1 P2) := by
  have G_l_names := ok_names (P := P) (w := w) (base := base) T
  have G_l_take := ok_take (P := P) (w := w) (base := base) T
  have G_l_any_event := ok_anyE (P := P) (w := w) (base := base) T
  have G_l_bent := ok_bent (P := P) (w := w) (base := base) T 2
  have G_l_event_page := ok_lPage (P := P) (w := w) (base := base) T
  have G_l_bent_page := ok_bentPage (P := P) (w := w) (base := base) T
  have G_l_odd := ok_odd (P := P) (w := w) (base := base) T
  have G_l_shown := ok_shown (P := P) (w := w) (base := base) T FC B
  have G_l_read := ok_read (P := P) (w := w) (base := base) T FD B
  have G_l_shown_due := ok_shownDue (P := P) (w := w) (base := base) T
  have G_l_read_due := ok_readDue (P := P) (w := w) (base := base) T
  refine okG T.F_l_fine sc_l_fine (fun vs H Q E h => ?_) (fun cdv A outer s H vs Q E hgd hr h => ?_)
  · obtain ⟨p, B, rfl, _⟩ := h
    rfl
  · obtain ⟨p, B0, rfl, at0, hB, k⟩ := h
    refine ⟨_, (pss_cons (ps_set (i := 1) sc_l_fine.nd rfl (Or.inr rfl) (pe_call G_l_names (hr.mono (by decide)) rfl T.g_l_names T.k_l_names T.b_l_names .nil pass0 (pa_cons (pv 0) (pa_cons pe_int pa_nil))))
      (pss_cons (ps_set (i := 2) sc_l_fine.nd rfl (Or.inl rfl) (pe_callTy call_tuple_of (by rfl) T.n_tuple (by decide +kernel) (pa_cons (pe_lc (own := [("_law_turn", 3)]) (g := (gName 3)) (tt := tYes) rfl sc_l_fine.nd (pi_range1 rfl T.n_range (pa_cons (pe_call G_l_take (hr.mono (by decide)) rfl T.g_l_take T.k_l_take T.b_l_take .nil pass0 (pa_cons (pv 0) (pa_cons pe_int pa_nil))) pa_nil)) (blkOk_by (own := [("_law_turn", 3)]) (N := N_l_fine) (sc := defScope s_l_fine) (by decide +kernel)) (fun _ _ _ _ _ => (pg_name (i := 3) sc_l_fine.nd rfl (Or.inl rfl))) (fun _ _ _ _ _ => pts_nil) (fun _ _ _ _ _ => by exact (pe_call G_l_any_event (hr.mono (by decide)) rfl T.g_l_any_event T.k_l_any_event T.b_l_any_event .nil pass0 (pa_cons (pv 0) (pa_cons (pv 1) pa_nil))))) pa_nil)))
      (pss_cons (ps_par (i := 4) (j := 5) (by rfl) sc_l_fine.nd rfl rfl (by decide) rfl rfl (pa_cons (pe_call G_l_bent (hr.mono (by decide)) rfl T.g_l_bent T.k_l_bent T.b_l_bent .nil pass0 (pa_cons (pv 0) (pa_cons (pv 2) (pa_cons pe_int pa_nil)))) (pa_cons (pe_join pe_str (pe_lc (own := [("_law_event", 6)]) (g := (gName 6)) (tt := tYes) rfl sc_l_fine.nd (pi_tup (pv 2)) (blkOk_by (own := [("_law_event", 6)]) (N := N_l_fine) (sc := defScope s_l_fine) (by decide +kernel)) (fun _ _ _ _ _ => (pg_name (i := 6) sc_l_fine.nd rfl (Or.inl rfl))) (fun _ _ _ _ _ => pts_nil) (fun _ _ _ _ _ => by exact (pe_call G_l_event_page (hr.mono (by decide)) rfl T.g_l_event_page T.k_l_event_page T.b_l_event_page .nil pass0 (pa_cons (pv 6) pa_nil))))) pa_nil)) (by rfl))
      (pss_cons (ps_for PassesOwn.never rfl (pi_tup (pe_tup (pa_cons (pv 2) (pa_cons (pv 4) (pa_cons (pe_callTy call_list_of (by rfl) T.n_list (by decide +kernel) (pa_cons (pv 2) pa_nil)) (pa_cons pe_non pa_nil)))))) (pg_name (i := 7) sc_l_fine.nd rfl (Or.inl rfl)) (pss_one (ps_if (pt_cmpR op_ne (pe_repr hgd hr T.n_repr (pe_callG G_l_shown hgd (hr.mono (by decide)) rfl T.g_l_shown T.k_l_shown T.b_l_shown .nil pass0 (pa_cons (pv 7) pa_nil))) (pe_repr hgd hr T.n_repr (pe_call G_l_shown_due (hr.mono (by decide)) rfl T.g_l_shown_due T.k_l_shown_due T.b_l_shown_due .nil pass0 (pa_cons (pv 7) pa_nil))) (nomark _)) (pss_one (ps_ret pe_bl)) pss_nil)))
      (pss_cons (ps_for PassesOwn.never rfl (pi_tup (pe_tup (pa_cons (pv 5) (pa_cons (pe_call G_l_bent_page (hr.mono (by decide)) rfl T.g_l_bent_page T.k_l_bent_page T.b_l_bent_page .nil pass0 (pa_cons (pv 0) (pa_cons (pv 5) pa_nil))) (pa_cons (pe_call G_l_bent_page (hr.mono (by decide)) rfl T.g_l_bent_page T.k_l_bent_page T.b_l_bent_page .nil pass0 (pa_cons (pv 0) (pa_cons (pe_call G_l_bent_page (hr.mono (by decide)) rfl T.g_l_bent_page T.k_l_bent_page T.b_l_bent_page .nil pass0 (pa_cons (pv 0) (pa_cons (pv 5) pa_nil))) pa_nil))) (pa_cons (pe_call G_l_odd (hr.mono (by decide)) rfl T.g_l_odd T.k_l_odd T.b_l_odd .nil pass0 (pa_cons (pv 0) pa_nil)) (pa_cons pe_non pa_nil))))))) (pg_name (i := 7) sc_l_fine.nd rfl (Or.inl rfl)) (pss_one (ps_if (pt_cmpR op_ne (pe_repr hgd hr T.n_repr (pe_callG G_l_read hgd (hr.mono (by decide)) rfl T.g_l_read T.k_l_read T.b_l_read .nil pass0 (pa_cons (pv 7) pa_nil))) (pe_repr hgd hr T.n_repr (pe_call G_l_read_due (hr.mono (by decide)) rfl T.g_l_read_due T.k_l_read_due T.b_l_read_due .nil pass0 (pa_cons (pv 7) pa_nil))) (nomark _)) (pss_one (ps_ret pe_bl)) pss_nil)))
      (pss_one (ps_ret pe_bl))))))), ?_⟩
    refine ⟨_, rfl, p, 3, B0, rfl, at0.po, by omega, by decide, fun zs q H1 l3 pw nok b1 p1 nq hq => ?_⟩
    have a1 := at0.but b1 p1
    have qp : q ≠ p := fun z => by
      obtain ⟨o, sd, c, e, _⟩ := at0.po
      rw [z, e] at nq
      cases nq
    have nd : zs.Nodup := pw.imp fun h e => by rw [e] at h; exact absurd h (List.lt_irrefl _)
    have g1 : Go p H H1 := Go.but b1
    dsimp only [gName]
    -- the run
    refine seqS (fun v H' => ∃ (a : Addr) (xs : List V), v = .ref a ∧ H' a = some (.tup xs) ∧ OkA K p (Wm 1) H' xs ∧ xs.length ≤ 10 ∧ Go p H H' ∧ At p P1 P2 (B0 + 221) H') (fun Q k' => ?_) ?_
    · refine ⟨_, rfl, p, 11, B0 + 20, rfl, a1.po, by decide, by decide, by omega, fun n H2 hn b2 p2 => ?_⟩
      have a2 := a1.but b2 p2
      have g2 := g1.trans (Go.but b2)
      have hq2 := b2 _ _ qp hq
      refine ⟨(n : Int), rfl, by omega, by omega, fun D nD => ?_⟩
      have Dp : D ≠ p := pot_none a2.po nD
      have qD : q ≠ D := fun z => by rw [z, nD] at hq2; cases hq2
      refine lc_range (lo := 0) (n := ((n : Int)).toNat) (fun j H' => ∃ ys : List V, H' D = some (.lst ys) ∧ ys.length = j ∧ OkA K p (Wm 1) H' ys ∧ Go p H2 H' ∧ At p P1 P2 (B0 + 21 + 20 * j) H')
        ⟨[], upd_same, rfl, .nil, Go.same (same_new nD), a2.same (same_new nD)⟩ ?_ ?_
      · rintro j H4 hj ⟨ys, hD, ly, oy, g4, a4⟩
        have jn : j < n := by simpa using hj
        refine ⟨rfl, ?_⟩
        dsimp only [tYes]
        rw [if_pos rfl]
        refine ⟨_, rfl, _, rfl, p, q, zs, _, rfl, a4.po, by omega, qp, g4 _ _ qp hq2 (fun ps z => by cases z), l3, nd, nok, fun v H5 b5 p5 o5 => ?_⟩
        have hD5 := b5 _ _ Dp hD
        have a5 := a4.but b5 p5
        refine ⟨_, hD5, by rw [sizeLine_eq]; omega, ys ++ [v], upd_same, by simp [ly], oka_put (fun d => wm1_row) ((oy.but b5).app (OkA.cons o5 .nil)) Dp hD5, fun c o n e t => ?_, ?_, ?_⟩
        · rw [upd_ne (fun z => by rw [z, nD] at e; cases e)]
          exact b5 _ _ n (g4 c o n e t)
        · obtain ⟨o, sd, c, e, r⟩ := a5.po
          have : Pot (upd H5 D (.lst (ys ++ [v]))) p (B0 + 21 + 20 * j + 20) := ⟨o, sd, c, by rw [upd_ne (Ne.symm Dp)]; exact e, r⟩
          exact this.mono (by omega)
        · intro z hz
          obtain ⟨qs, z1, z2, z3⟩ := a5.tb z hz
          refine ⟨qs, by rw [upd_ne (fun y => by rw [y, hD5] at z1; cases z1)]; exact z1, z2, fun pos cv hc => ?_⟩
          obtain ⟨c', e1, e2⟩ := z3 pos cv hc
          refine ⟨c', e1, ?_⟩
          rw [upd_ne]
          · exact e2
          · intro y
            rw [y, hD5] at e2
            unfold CodeO at e2
            cases e2
      · rintro H4 ⟨ys, hD, ly, oy, g4, a4⟩
        rw [Int.toNat_natCast] at ly a4
        refine ⟨D, ys, rfl, .inl ⟨SqL.of hD, fun t nt => k' _ _ ⟨t, ys, rfl, upd_same, oy.same (same_new nt), by omega, (g2.trans g4).trans (Go.same (same_new nt)), ?_⟩⟩⟩
        have a5 := a4.same (same_new (o := .tup ys) nt)
        exact ⟨a5.po.mono (by omega), a5.tb⟩
    rintro _ H2 ⟨a, xs, rfl, ha, hxs, few, g2, a2⟩
    obtain ⟨ds, d1, d2⟩ := hxs
    have lx := dd_len d1
    have ap : a ≠ p := tup_notp ha a2.po
    have run2 : OkV K p (Wm 2) H2 (.ref a) := ⟨_, .tup (SqT.of (off_at ha ap)) d1, ⟨ds, rfl, by omega, d2⟩⟩
    refine ⟨_, rfl, _, rfl, p, .ref a, _, rfl, a2.po, by omega, by decide, run2, fun vb H3 b3 p3 ob => ?_⟩
    have a3 := a2.but b3 p3
    have g3 := g2.trans (Go.but b3)
    have ha3 := b3 _ _ ap ha
    have d3 : DdAll K H3 xs ds := DdAll.same (off_same H3 p) (DdAll.same b3.off d1)
    refine ⟨⟨_, rfl⟩, _, rfl, a, rfl, ⟨_, SqT.of ha3⟩, fun D nD => ?_⟩
    refine lc_it (walk_tup (xs := xs)) (fun i H' => H' D = some (.lst (((ds.take i).map rowD).map V.str)) ∧ Same H3 H') ⟨upd_same, same_new nD⟩ (fun i H' _ q => SqT.of (q.2 _ _ ha3)) ?_ ?_
    · rintro i x Ha Hb hi ⟨hb, s5⟩ ⟨rfl, hxi⟩
      obtain ⟨e, he, hxe⟩ := dd_at d3 hxi
      have m := List.mem_of_getElem? he
      obtain ⟨es, rfl, _⟩ := d2 e m
      obtain ⟨l16, parts⟩ := wm1_part (d2 _ m)
      have li := (List.getElem?_eq_some_iff.mp he).1
      refine ⟨rfl, ?_⟩
      dsimp only [tYes]
      rw [if_pos rfl]
      refine ⟨_, rfl, x, es, rfl, hxe.same s5, fun u hu => ⟨(parts u hu).1, by have := (parts u hu).2; omega⟩, by omega, fun H6 s6 => ?_⟩
      refine ⟨_, s6 _ _ hb, by rw [List.length_map, List.length_map, List.length_take, sizeLine_eq]; omega, ?_, Same.upd_at (s5.trans s6) nD⟩
      rw [upd_same, List.take_add_one, he, List.map_append, List.map_append]
      rfl
    rintro H4 ⟨hb4, s4⟩
    rw [lx, List.take_length] at hb4
    have lr : ∀ z ∈ ds.map rowD, z.length ≤ 150 := fun z hz => by
      obtain ⟨e, m, rfl⟩ := List.mem_map.mp hz
      obtain ⟨es, rfl, _⟩ := d2 e m
      obtain ⟨l16, parts⟩ := wm1_part (d2 _ m)
      have q := wrd_len (ws := es.map partT) (m := 8) fun y hy => by
        obtain ⟨u, hu, rfl⟩ := List.mem_map.mp hy
        exact (parts u hu).2
      rw [List.length_map] at q
      show (Txt.join (tx " ") (es.map partT)).length ≤ 150
      refine Nat.le_trans q ?_
      omega
    have pl := lines_len lr
    rw [List.length_map] at pl
    have pl2 : (Txt.join (tx "\n") (ds.map rowD)).length ≤ 1510 := Nat.le_trans pl (by omega)
    refine ⟨_, D, _, rfl, rfl, .inl (SqL.of hb4), ?_, ?_⟩
    · have sl := sum_le lr
      rw [List.length_map] at sl
      have e1 : (Str.ofString "\n").length = 1 := by decide +kernel
      rw [e1, List.length_map]
      omega
    refine ⟨_, _, rfl, ?_⟩
    generalize hpg : Txt.join (Str.ofString "\n") (ds.map rowD) = pg
    have pl3 : pg.length ≤ 1510 := by rw [← hpg]; exact pl2
    have a4 := a3.same s4
    have g4 := g3.trans (Go.same s4)
    have ob4 := ob.same s4
    have ha4 := s4 _ _ ha3
    have run4 : OkV K p (Wm 2) H4 (.ref a) := (run2.but b3).same s4
    refine nxt ?_
    -- what show_run makes of it
    refine seqD (fun σ' H' => ∃ x7, σ' = [some (.ref p), some (.ref q), some (.ref a), none, some vb, some (.str pg), none, x7] ∧ Go p H H' ∧ At p P1 P2 (B0 + 229) H') (fun nx' kn => ?_) ?_
    · refine ⟨_, rfl, _, rfl, _, rfl, a, xs, rfl, .inr (SqT.of ha4), fun l nl => ⟨by show 4 ≤ sizeLine; decide, fun t nt => ?_⟩⟩
      have sl := same_new (o := .lst xs) nl
      have st := same_new (o := .tup [.ref a, vb, .ref l, .non]) nt
      have a5 := (a4.same sl).same st
      have shOf : ∀ {n k : Nat} {d : PyData}, Rs n k d → ShF d := fun {n k d} h ds e => by
        have h := h.n9
        rw [e] at h
        unfold num9 at h
        rw [Bool.and_eq_true] at h
        exact ⟨of_decide_eq_true h.1, num9_all.mp h.2⟩
      have ol : OkV K p ShF (upd H4 l (.lst xs)) (.ref l) := by
        have ox : OkA K p (Wm 1) H4 xs := ⟨ds, DdAll.same (off_mono s4) (DdAll.same b3.off d1), d2⟩
        exact lst_ok ox (n := 10) few (fun es h l => (fun ds e => by cases e)) nl a4.po
      have vals : OkA K p ShF (upd (upd H4 l (.lst xs)) t (.tup [.ref a, vb, .ref l, .non])) [.ref a, vb, .ref l, .non] :=
        .cons (((run4.imp fun d h => shOf (wm_rs h)).same sl).same st) (.cons (((ob4.imp fun d h => shOf h).same sl).same st) (.cons (ol.same st) (.cons ⟨.none, .non, fun ds e => by cases e⟩ .nil)))
      have ht : upd (upd H4 l (.lst xs)) t (.tup [.ref a, vb, .ref l, .non]) t = some (.tup [.ref a, vb, .ref l, .non]) := upd_same
      have g5 := (g4.trans (Go.same sl)).trans (Go.same st)
      generalize upd (upd H4 l (.lst xs)) t (.tup [.ref a, vb, .ref l, .non]) = H5 at vals ht a5 g5 ⊢
      have tp : t ≠ p := tup_notp ht a5.po
      refine ⟨t, rfl, ⟨_, SqT.of ht⟩, ?_⟩
      refine for_it (walk_tup (xs := [.ref a, vb, .ref l, .non])) (fun i σ H' => ∃ x7, σ = [some (.ref p), some (.ref q), some (.ref a), none, some vb, some (.str pg), none, x7] ∧ Go p H5 H' ∧ At p P1 P2 (B0 + 229) H')
        ⟨_, rfl, Go.refl _ _, ⟨a5.po.mono (by omega), a5.tb⟩⟩ (fun i σ H' _ ⟨_, _, g, _⟩ => SqT.of (g _ _ tp ht fun ps z => by cases z)) ?_ ?_
      · rintro i x σ H6 H7 hi ⟨x7, rfl, g6, a6⟩ ⟨rfl, hxi⟩
        obtain ⟨d, hd, fit⟩ := (vals.get hxi).go g6
        have hd6 := hd.same (off_same H7 p)
        have sh := sh_shows fit
        refine ⟨_, rfl, x, d, rfl, hd6, fit.fit, a6.tb, fun u H8 e8 t8 h8 => ⟨.ref u, _, rfl, h8, sh, _, rfl, x, d, rfl, dd_ext e8 hd6, fit, fun u2 H9 s9 h9 => ⟨.ref u2, _, rfl, h9, sh, rfl, _, rfl, ?_⟩⟩⟩
        rw [decide_eq_true rfl]
        refine iteB2 rfl ?_
        have a9 := (a6.ext e8 t8).same s9
        exact nxt ⟨_, rfl, (g6.trans (Go.ext e8)).trans (Go.same s9), a9⟩
      · rintro σ H6 ⟨x7, rfl, g6, a6⟩
        exact kn _ _ ⟨_, rfl, g5.trans g6, a6⟩
    rintro _ H5 ⟨x7, rfl, g5, a5⟩
    refine seqD (fun σ' H' => Go p H H' ∧ At p P1 P2 (B0 + 242) H') (fun nx' kn => ?_) ?_
    · refine ⟨_, rfl, _, rfl, _, rfl, p, pg, _, rfl, a5.po, by omega, by omega, fun z1 H6 l1 b6 p6 => ?_⟩
      have a6 := a5.but b6 p6
      refine ⟨_, rfl, _, rfl, _, rfl, p, pg, _, rfl, a6.po, by omega, by omega, fun z2 H7 l2 b7 p7 => ⟨p, z2, _, rfl, p7, by omega, by omega, fun z3 H8 l3' b8 p8 => ?_⟩⟩
      have a8 := (a6.but b7 p7).but b8 p8
      refine ⟨_, rfl, p, _, rfl, a8.po, by omega, fun vo dw H9 b9 p9 hdo mo => ?_⟩
      have a9 := a8.but b9 p9
      refine ⟨by show 5 ≤ sizeLine; decide, fun t nt => ?_⟩
      have st := same_new (o := .tup [.str pg, .str z1, .str z3, vo, .non]) nt
      have txt : ∀ {G : Hp} {z : Str}, z.length ≤ 9000 → OkV K p RdFit G (.str z) := fun {G z} l => ⟨.str z, .str z, fun y e => by injection e with e; rw [← e]; exact l⟩
      have vals : OkA K p RdFit (upd H9 t (.tup [.str pg, .str z1, .str z3, vo, .non])) [.str pg, .str z1, .str z3, vo, .non] :=
        .cons (txt (by omega)) (.cons (txt (by omega)) (.cons (txt (by omega)) (.cons (OkV.same (K := K) (p := p) (R := RdFit) (H := H9) ⟨dw, hdo, odd_len _ mo⟩ st) (.cons ⟨.none, .non, fun y e => by cases e⟩ .nil))))
      have ht : upd H9 t (.tup [.str pg, .str z1, .str z3, vo, .non]) t = some (.tup [.str pg, .str z1, .str z3, vo, .non]) := upd_same
      have a10 := a9.same st
      have g10 := (g5.trans (Go.but (((b6.trans b7).trans b8).trans b9))).trans (Go.same st)
      generalize upd H9 t (.tup [.str pg, .str z1, .str z3, vo, .non]) = H10 at vals ht a10 g10 ⊢
      have tp : t ≠ p := tup_notp ht a10.po
      refine ⟨t, rfl, ⟨_, SqT.of ht⟩, ?_⟩
      refine for_it (walk_tup (xs := [.str pg, .str z1, .str z3, vo, .non])) (fun i σ H' => ∃ x7, σ = [some (.ref p), some (.ref q), some (.ref a), none, some vb, some (.str pg), none, x7] ∧ Go p H10 H' ∧ At p P1 P2 (B0 + 242) H')
        ⟨_, rfl, Go.refl _ _, ⟨a10.po.mono (by omega), a10.tb⟩⟩ (fun i σ H' _ ⟨_, _, g, _⟩ => SqT.of (g _ _ tp ht fun ps z => by cases z)) ?_ ?_
      · rintro i x σ H6 H7 hi ⟨x7, rfl, g6, a6⟩ ⟨rfl, hxi⟩
        obtain ⟨d, hd, fit⟩ := (vals.get hxi).go g6
        have hd6 := hd.same (off_same H7 p)
        have sh := rd_shows fit
        refine ⟨_, rfl, x, d, rfl, hd6, fit, a6.tb, fun u H8 e8 t8 h8 => ⟨.ref u, _, rfl, h8, sh, _, rfl, x, d, rfl, dd_ext e8 hd6, fit, fun u2 H9 s9 h9 => ⟨.ref u2, _, rfl, h9, sh, rfl, _, rfl, ?_⟩⟩⟩
        rw [decide_eq_true rfl]
        refine iteB2 rfl ?_
        have a9 := (a6.ext e8 t8).same s9
        exact nxt ⟨_, rfl, (g6.trans (Go.ext e8)).trans (Go.same s9), a9⟩
      · rintro σ H6 ⟨x7, rfl, g6, a6⟩
        exact kn _ _ ⟨g10.trans g6, a6⟩
    rintro σ H6 ⟨g6, a6⟩
    exact k H6 g6 ⟨a6.po.mono (by omega), a6.tb⟩
end
end Toy
set_option Elab.async false
set_option linter.all false
set_option maxRecDepth 100000
set_option maxHeartbeats 8000000
namespace Toy
open PySem L2 Q RZ LamX NdefX D7 TL
theorem nd_same {α β : Type} {f : α → β} {l : List α} (nd : (l.map f).Nodup) {i j : Nat} {x y : α} (hx : l[i]? = some x) (hy : l[j]? = some y) (e : f x = f y) : i = j := by
  obtain ⟨h1, rfl⟩ := List.getElem?_eq_some_iff.mp hx
  obtain ⟨h2, rfl⟩ := List.getElem?_eq_some_iff.mp hy
  have l1 : i < (l.map f).length := by rw [List.length_map]; exact h1
  have l2 : j < (l.map f).length := by rw [List.length_map]; exact h2
  exact (List.getElem_inj (h₀ := l1) (h₁ := l2) nd).mp (by rw [List.getElem_map, List.getElem_map]; exact e)
theorem all_true (n : Nat) : (List.replicate n true).all id = true := by simp
def spLaw (P1 P2 : Addr) (K : PySem.W.Frag) : Sp := fun vs H Q _ => ∃ (a : Addr) (ns : List Int), vs = [.ref a] ∧ SqL K H a (ns.map V.int) ∧ ns.length ≤ 63 ∧ Tabs (TL2 P1 P2) H ∧ ∀ H', Q (.bl true) H'
section
variable {P : Program} {w : World} {K : PySem.W.Frag} {mg : Str → Option Value} {base : Heap} {ca ia fa : Nat → Addr} {fd fi : Nat → FuncData} {c1 P1 c2 P2 : Addr}
theorem ok_law (T : Txt w K mg ca ia fa fd fi) (FC : FunC K "_law_shown" s_l_shown (fa 43) (fd 43) c1) (FD : FunC K "_law_read" s_l_read (fa 44) (fd 44) c2) (B : Tb base mg c1 P1 c2 P2) :
    FnG P w K mg base CX0 17 (fa 48) (fd 48) ["_law_script"] (spLaw P1 P2 K) := by
  have G_l_pots := ok_pots (P := P) (w := w) (base := base) T
  have G_l_fine := ok_fine (P := P) (w := w) (base := base) T FC FD B
  refine okG T.F_law sc_law (fun vs H Q E h => ?_) (fun cdv A outer s H vs Q E hgd hr h => ?_)
  · obtain ⟨a, ns, rfl, _⟩ := h
    rfl
  · obtain ⟨a, ns, rfl, hs, hl, hT, k⟩ := h
    refine ⟨_, (pss_cons (ps_for PassesOwn.never rfl (pi_list (pe_call G_l_pots (hr.mono (by decide)) rfl T.g_l_pots T.k_l_pots T.b_l_pots .nil pass0 (pa_cons (pv 0) (pa_cons pe_int pa_nil)))) (pg_name (i := 1) sc_law.nd rfl (Or.inr rfl)) (pss_one (ps_if (pt_not (pt_val (pe_callB (cr_all rfl) (by rfl) T.n_all (by decide +kernel) (pa_cons (pe_lc (own := [("_law_turn", 2)]) (g := (gName 2)) (tt := tYes) rfl sc_law.nd (pi_range1 rfl T.n_range (pa_cons pe_int pa_nil)) (blkOk_by (own := [("_law_turn", 2)]) (N := N_law) (sc := defScope s_law) (by decide +kernel)) (fun _ _ _ _ _ => (pg_name (i := 2) sc_law.nd rfl (Or.inl rfl))) (fun _ _ _ _ _ => pts_nil) (fun _ _ _ _ _ => by exact (pe_callG G_l_fine hgd (hr.mono (by decide)) rfl T.g_l_fine T.k_l_fine T.b_l_fine .nil pass0 (pa_cons (pv 1) pa_nil)))) pa_nil)))) (pss_one (ps_ret pe_bl)) pss_nil)))
      (pss_one (ps_ret pe_bl))), ?_⟩
    refine ⟨_, rfl, a, ns, 3, rfl, hs, by decide, hl, fun L0 ps H1 s1 hL0 few nd nL0 hp => ⟨L0, rfl, ⟨_, SqL.of hL0⟩, ?_⟩⟩
    refine for_it (walk_list (xs := ps.map V.ref)) (fun i σ H' => ∃ (x1 x2 : Option L2.V), σ = [some (.ref a), x1, x2] ∧ H' L0 = some (.lst (ps.map V.ref)) ∧ Tabs (TL2 P1 P2) H' ∧ ∀ (j : Nat) (q : Addr), i ≤ j → ps[j]? = some q → Pot H' q 0)
      ⟨_, _, rfl, hL0, hT.ext s1, fun j q _ hq => hp q (List.mem_of_getElem? hq)⟩ (fun i σ H' _ ⟨_, _, _, z, _⟩ => SqL.of z) ?_ ?_
    · rintro i x σ H2 H3 hi ⟨x1, x2, rfl, hL2, t2, hp2⟩ ⟨rfl, hx⟩
      obtain ⟨p, hpi, rfl⟩ := at_map hx
      have pp := hp2 i p (Nat.le_refl _) hpi
      have Lp : L0 ≠ p := fun z => by
        obtain ⟨_, _, _, e, _⟩ := hp p (List.mem_of_getElem? hpi)
        exact nL0 (z ▸ List.mem_of_getElem? hpi)
      refine ⟨4, rfl, by decide, by decide, fun D nD => ?_⟩
      have Dp : D ≠ p := pot_none pp nD
      refine lc_range (lo := 0) (n := (4 : Int).toNat) (fun j H' => H' D = some (.lst ((List.replicate j true).map V.bl)) ∧ Go p H3 H' ∧ At p P1 P2 (300 * j) H')
        ⟨upd_same, Go.same (same_new nD), pp.same (same_new nD), t2.ext (same_new nD)⟩ ?_ ?_
      · rintro j H4 hj ⟨hD, g4, a4⟩
        have j3 : j < 4 := hj
        refine ⟨rfl, ?_⟩
        dsimp only [tYes]
        rw [if_pos rfl]
        refine ⟨_, rfl, p, 300 * j, rfl, a4, by omega, fun H5 g5 a5 => ?_⟩
        have hD5 := g5 _ _ Dp hD fun ps z => by cases z
        refine ⟨_, hD5, by rw [List.length_map, List.length_replicate, sizeLine_eq]; omega, by rw [upd_same, List.replicate_succ', List.map_append]; rfl, fun c o n e t => ?_, ?_, ?_⟩
        · rw [upd_ne (fun z => by rw [z, nD] at e; cases e)]
          exact g5 _ _ n (g4 c o n e t) t
        · obtain ⟨o, sd, c, e, r⟩ := a5.po
          have : Pot (upd H5 D (.lst ((List.replicate j true).map V.bl ++ [.bl true]))) p (300 * j + 300) := ⟨o, sd, c, by rw [upd_ne (Ne.symm Dp)]; exact e, r⟩
          exact this.mono (by omega)
        · intro z hz
          obtain ⟨qs, z1, z2, z3⟩ := a5.tb z hz
          refine ⟨qs, by rw [upd_ne (fun y => by rw [y, hD5] at z1; cases z1)]; exact z1, z2, fun pos cv hc => ?_⟩
          obtain ⟨c', e1, e2⟩ := z3 pos cv hc
          refine ⟨c', e1, ?_⟩
          rw [upd_ne]
          · exact e2
          · intro y
            rw [y, hD5] at e2
            unfold CodeO at e2
            cases e2
      · rintro H4 ⟨hD, g4, a4⟩
        refine ⟨D, List.replicate _ true, rfl, SqL.of hD, ?_⟩
        rw [all_true]
        refine ⟨_, rfl, iteB2 rfl (nxt ⟨_, _, rfl, g4 _ _ Lp hL2 (fun ps z => by cases z), a4.tb, fun j q lj hq => ?_⟩)⟩
        have ne : q ≠ p := fun z => by
          rw [z] at hq
          have := nd_same (f := id) (by rw [List.map_id]; exact nd) hq hpi rfl
          omega
        obtain ⟨o, sd, c, e, r⟩ := hp2 j q (by omega) hq
        exact ⟨o, sd, c, g4 _ _ ne e (fun ps z => by cases z), r⟩
    · rintro σ H2 ⟨x1, x2, rfl, _, _⟩
      exact k H2
end
end Toy
set_option Elab.async false
set_option linter.all false
set_option maxRecDepth 100000
set_option maxHeartbeats 8000000
namespace Toy
open PySem L2 Q RZ LamX NdefX D7
theorem all_mk {P : Program} {w : World} {K : PySem.W.Frag} {h : Heap} {mg : Str → Option Value} {fl : Addr} (X : K.In h) (G : h.Ns mainGlobals mg) (hfl : mg "law" = some (.ref fl))
    {f6 : Addr} {od6 an6 : Option Addr} {sl6 : Array (Option Value)} {oc6 kV6 dc6 pm6 ct6 : Value} {cd6 : Value}
    {f7 : Addr} {od7 an7 : Option Addr} {sl7 : Array (Option Value)} {oc7 kV7 dc7 pm7 ct7 : Value} {cd7 : Value}
    {f8 : Addr} {od8 an8 : Option Addr} {sl8 : Array (Option Value)} {oc8 kV8 dc8 pm8 ct8 : Value} {cd8 : Value}
    {f13 : Addr} {od13 an13 : Option Addr} {sl13 : Array (Option Value)} {oc13 kV13 dc13 pm13 ct13 : Value} {cd13 : Value}
    {f14 : Addr} {od14 an14 : Option Addr} {sl14 : Array (Option Value)} {oc14 kV14 dc14 pm14 ct14 : Value} {cd14 : Value}
    {f15 : Addr} {od15 an15 : Option Addr} {sl15 : Array (Option Value)} {oc15 kV15 dc15 pm15 ct15 : Value} {cd15 : Value}
    {f16 : Addr} {od16 an16 : Option Addr} {sl16 : Array (Option Value)} {oc16 kV16 dc16 pm16 ct16 : Value} {cd16 : Value}
    {f17 : Addr} {od17 an17 : Option Addr} {sl17 : Array (Option Value)} {oc17 kV17 dc17 pm17 ct17 : Value} {cd17 : Value}
    {f19 : Addr} {od19 an19 : Option Addr} {sl19 : Array (Option Value)} {oc19 kV19 dc19 pm19 ct19 : Value} {cd19 : Value}
    {f20 : Addr} {od20 an20 : Option Addr} {sl20 : Array (Option Value)} {oc20 kV20 dc20 pm20 ct20 : Value} {cd20 : Value}
    {f21 : Addr} {od21 an21 : Option Addr} {sl21 : Array (Option Value)} {oc21 kV21 dc21 pm21 ct21 : Value} {cd21 : Value}
    {f22 : Addr} {od22 an22 : Option Addr} {sl22 : Array (Option Value)} {oc22 kV22 dc22 pm22 ct22 : Value} {cd22 : Value}
    {f24 : Addr} {od24 an24 : Option Addr} {sl24 : Array (Option Value)} {oc24 kV24 dc24 pm24 ct24 : Value} {cd24 : Value}
    {f25 : Addr} {od25 an25 : Option Addr} {sl25 : Array (Option Value)} {oc25 kV25 dc25 pm25 ct25 : Value} {cd25 : Value}
    {f26 : Addr} {od26 an26 : Option Addr} {sl26 : Array (Option Value)} {oc26 kV26 dc26 pm26 ct26 : Value} {cd26 : Value}
    {f27 : Addr} {od27 an27 : Option Addr} {sl27 : Array (Option Value)} {oc27 kV27 dc27 pm27 ct27 : Value} {cd27 : Value}
    {f28 : Addr} {od28 an28 : Option Addr} {sl28 : Array (Option Value)} {oc28 kV28 dc28 pm28 ct28 : Value} {cd28 : Value}
    {f29 : Addr} {od29 an29 : Option Addr} {sl29 : Array (Option Value)} {oc29 kV29 dc29 pm29 ct29 : Value} {cd29 : Value}
    {f30 : Addr} {od30 an30 : Option Addr} {sl30 : Array (Option Value)} {oc30 kV30 dc30 pm30 ct30 : Value} {cd30 : Value}
    {f31 : Addr} {od31 an31 : Option Addr} {sl31 : Array (Option Value)} {oc31 kV31 dc31 pm31 ct31 : Value} {cd31 : Value}
    {f32 : Addr} {od32 an32 : Option Addr} {sl32 : Array (Option Value)} {oc32 kV32 dc32 pm32 ct32 : Value} {cd32 : Value}
    {f33 : Addr} {od33 an33 : Option Addr} {sl33 : Array (Option Value)} {oc33 kV33 dc33 pm33 ct33 : Value} {cd33 : Value}
    {f34 : Addr} {od34 an34 : Option Addr} {sl34 : Array (Option Value)} {oc34 kV34 dc34 pm34 ct34 : Value} {cd34 : Value}
    {f35 : Addr} {od35 an35 : Option Addr} {sl35 : Array (Option Value)} {oc35 kV35 dc35 pm35 ct35 : Value} {cd35 : Value}
    {f36 : Addr} {od36 an36 : Option Addr} {sl36 : Array (Option Value)} {oc36 kV36 dc36 pm36 ct36 : Value} {cd36 : Value}
    {f37 : Addr} {od37 an37 : Option Addr} {sl37 : Array (Option Value)} {oc37 kV37 dc37 pm37 ct37 : Value} {cd37 : Value}
    {f38 : Addr} {od38 an38 : Option Addr} {sl38 : Array (Option Value)} {oc38 kV38 dc38 pm38 ct38 : Value} {cd38 : Value}
    {f39 : Addr} {od39 an39 : Option Addr} {sl39 : Array (Option Value)} {oc39 kV39 dc39 pm39 ct39 : Value} {cd39 : Value}
    {f40 : Addr} {od40 an40 : Option Addr} {sl40 : Array (Option Value)} {oc40 kV40 dc40 pm40 ct40 : Value} {cd40 : Value}
    {f41 : Addr} {od41 an41 : Option Addr} {sl41 : Array (Option Value)} {oc41 kV41 dc41 pm41 ct41 : Value} {cd41 : Value}
    {f42 : Addr} {od42 an42 : Option Addr} {sl42 : Array (Option Value)} {oc42 kV42 dc42 pm42 ct42 : Value} {cd42 : Value}
    {f43 : Addr} {od43 an43 : Option Addr} {sl43 : Array (Option Value)} {oc43 kV43 dc43 pm43 ct43 : Value} {cc43 T43 : Addr} {ec43 : Value} {ed43 : Option Addr} {ev43 : Array Value} {es43 : Array (Option Value)}
    {f44 : Addr} {od44 an44 : Option Addr} {sl44 : Array (Option Value)} {oc44 kV44 dc44 pm44 ct44 : Value} {cc44 T44 : Addr} {ec44 : Value} {ed44 : Option Addr} {ev44 : Array Value} {es44 : Array (Option Value)}
    {f45 : Addr} {od45 an45 : Option Addr} {sl45 : Array (Option Value)} {oc45 kV45 dc45 pm45 ct45 : Value} {cd45 : Value}
    {f46 : Addr} {od46 an46 : Option Addr} {sl46 : Array (Option Value)} {oc46 kV46 dc46 pm46 ct46 : Value} {cd46 : Value}
    {f47 : Addr} {od47 an47 : Option Addr} {sl47 : Array (Option Value)} {oc47 kV47 dc47 pm47 ct47 : Value} {cd47 : Value}
    {f48 : Addr} {od48 an48 : Option Addr} {sl48 : Array (Option Value)} {oc48 kV48 dc48 pm48 ct48 : Value} {cd48 : Value}
    {C1 N1 : Addr} {nm1 q1 : Str} {bs1 sub1 : List Value} {sn1 : List Str} {ab1 : Bool} {col1 : Option Bool} {dd1 : Option Addr} {m01 m11 m21 m31 m51 : Option Value}
    {C2 N2 : Addr} {nm2 q2 : Str} {bs2 sub2 : List Value} {sn2 : List Str} {ab2 : Bool} {col2 : Option Bool} {dd2 : Option Addr} {m02 m12 m22 m32 m52 : Option Value}
    {g2 : Addr} {god2 gan2 : Option Addr} {gsl2 : Array (Option Value)} {goc2 gkV2 gdc2 gpm2 gcd2 gct2 : Value}
    {C3 N3 : Addr} {nm3 q3 : Str} {bs3 sub3 : List Value} {sn3 : List Str} {ab3 : Bool} {col3 : Option Bool} {dd3 : Option Addr} {m03 m13 m23 m33 m53 : Option Value}
    {g3 : Addr} {god3 gan3 : Option Addr} {gsl3 : Array (Option Value)} {goc3 gkV3 gdc3 gpm3 gcd3 gct3 : Value}
    {tLONGEST_NAME : Tok}
    {tMOST_DIGITS : Tok}
    {dFORMS : Addr} {esFORMS : Array DictEntry} {nnFORMS : Nat}
    {dOF_A_LINK : Addr} {odOF_A_LINK : Option Addr} {itOF_A_LINK : Array Value} {nnOF_A_LINK : Nat} {slOF_A_LINK : Array (Option Value)}
    (a6 : PySem.W.nsIn K mainGlobals "is_integer" = some (some (.ref f6)))
    (l6 : K.lookup f6 = some ⟨oc6, od6, .func (PySem.W.fnOf "is_integer" "is_integer" (defArgs s_is_integer) (defBody s_is_integer) (defScope s_is_integer) .none kV6 dc6 pm6 an6 cd6 ct6), sl6⟩)
    (c6 : PySem.W.codeIn K cd6 "is_integer" = true)
    (k6 : PySem.W.keepIn K (.ref f6) = true)
    (a7 : PySem.W.nsIn K mainGlobals "is_integer_from" = some (some (.ref f7)))
    (l7 : K.lookup f7 = some ⟨oc7, od7, .func (PySem.W.fnOf "is_integer_from" "is_integer_from" (defArgs s_is_integer_from) (defBody s_is_integer_from) (defScope s_is_integer_from) .none kV7 dc7 pm7 an7 cd7 ct7), sl7⟩)
    (c7 : PySem.W.codeIn K cd7 "is_integer_from" = true)
    (k7 : PySem.W.keepIn K (.ref f7) = true)
    (a8 : PySem.W.nsIn K mainGlobals "is_name" = some (some (.ref f8)))
    (l8 : K.lookup f8 = some ⟨oc8, od8, .func (PySem.W.fnOf "is_name" "is_name" (defArgs s_is_name) (defBody s_is_name) (defScope s_is_name) .none kV8 dc8 pm8 an8 cd8 ct8), sl8⟩)
    (c8 : PySem.W.codeIn K cd8 "is_name" = true)
    (k8 : PySem.W.keepIn K (.ref f8) = true)
    (a13 : PySem.W.nsIn K mainGlobals "is_event" = some (some (.ref f13)))
    (l13 : K.lookup f13 = some ⟨oc13, od13, .func (PySem.W.fnOf "is_event" "is_event" (defArgs s_is_event) (defBody s_is_event) (defScope s_is_event) .none kV13 dc13 pm13 an13 cd13 ct13), sl13⟩)
    (c13 : PySem.W.codeIn K cd13 "is_event" = true)
    (k13 : PySem.W.keepIn K (.ref f13) = true)
    (a14 : PySem.W.nsIn K mainGlobals "is_part" = some (some (.ref f14)))
    (l14 : K.lookup f14 = some ⟨oc14, od14, .func (PySem.W.fnOf "is_part" "is_part" (defArgs s_is_part) (defBody s_is_part) (defScope s_is_part) .none kV14 dc14 pm14 an14 cd14 ct14), sl14⟩)
    (c14 : PySem.W.codeIn K cd14 "is_part" = true)
    (k14 : PySem.W.keepIn K (.ref f14) = true)
    (a15 : PySem.W.nsIn K mainGlobals "row_of" = some (some (.ref f15)))
    (l15 : K.lookup f15 = some ⟨oc15, od15, .func (PySem.W.fnOf "row_of" "row_of" (defArgs s_row_of) (defBody s_row_of) (defScope s_row_of) .none kV15 dc15 pm15 an15 cd15 ct15), sl15⟩)
    (c15 : PySem.W.codeIn K cd15 "row_of" = true)
    (k15 : PySem.W.keepIn K (.ref f15) = true)
    (a16 : PySem.W.nsIn K mainGlobals "event_of" = some (some (.ref f16)))
    (l16 : K.lookup f16 = some ⟨oc16, od16, .func (PySem.W.fnOf "event_of" "event_of" (defArgs s_event_of) (defBody s_event_of) (defScope s_event_of) .none kV16 dc16 pm16 an16 cd16 ct16), sl16⟩)
    (c16 : PySem.W.codeIn K cd16 "event_of" = true)
    (k16 : PySem.W.keepIn K (.ref f16) = true)
    (a17 : PySem.W.nsIn K mainGlobals "number_of" = some (some (.ref f17)))
    (l17 : K.lookup f17 = some ⟨oc17, od17, .func (PySem.W.fnOf "number_of" "number_of" (defArgs s_number_of) (defBody s_number_of) (defScope s_number_of) .none kV17 dc17 pm17 an17 cd17 ct17), sl17⟩)
    (c17 : PySem.W.codeIn K cd17 "number_of" = true)
    (k17 : PySem.W.keepIn K (.ref f17) = true)
    (a19 : PySem.W.nsIn K mainGlobals "show_run" = some (some (.ref f19)))
    (l19 : K.lookup f19 = some ⟨oc19, od19, .func (PySem.W.fnOf "show_run" "show_run" (defArgs s_show_run) (defBody s_show_run) (defScope s_show_run) .none kV19 dc19 pm19 an19 cd19 ct19), sl19⟩)
    (c19 : PySem.W.codeIn K cd19 "show_run" = true)
    (k19 : PySem.W.keepIn K (.ref f19) = true)
    (a20 : PySem.W.nsIn K mainGlobals "read_run" = some (some (.ref f20)))
    (l20 : K.lookup f20 = some ⟨oc20, od20, .func (PySem.W.fnOf "read_run" "read_run" (defArgs s_read_run) (defBody s_read_run) (defScope s_read_run) .none kV20 dc20 pm20 an20 cd20 ct20), sl20⟩)
    (c20 : PySem.W.codeIn K cd20 "read_run" = true)
    (k20 : PySem.W.keepIn K (.ref f20) = true)
    (a21 : PySem.W.nsIn K mainGlobals "rows_of" = some (some (.ref f21)))
    (l21 : K.lookup f21 = some ⟨oc21, od21, .func (PySem.W.fnOf "rows_of" "rows_of" (defArgs s_rows_of) (defBody s_rows_of) (defScope s_rows_of) .none kV21 dc21 pm21 an21 cd21 ct21), sl21⟩)
    (c21 : PySem.W.codeIn K cd21 "rows_of" = true)
    (k21 : PySem.W.keepIn K (.ref f21) = true)
    (a22 : PySem.W.nsIn K mainGlobals "events_of" = some (some (.ref f22)))
    (l22 : K.lookup f22 = some ⟨oc22, od22, .func (PySem.W.fnOf "events_of" "events_of" (defArgs s_events_of) (defBody s_events_of) (defScope s_events_of) .none kV22 dc22 pm22 an22 cd22 ct22), sl22⟩)
    (c22 : PySem.W.codeIn K cd22 "events_of" = true)
    (k22 : PySem.W.keepIn K (.ref f22) = true)
    (a24 : PySem.W.nsIn K mainGlobals "_law_pot" = some (some (.ref f24)))
    (l24 : K.lookup f24 = some ⟨oc24, od24, .func (PySem.W.fnOf "_law_pot" "_law_pot" (defArgs s_l_pot) (defBody s_l_pot) (defScope s_l_pot) .none kV24 dc24 pm24 an24 cd24 ct24), sl24⟩)
    (c24 : PySem.W.codeIn K cd24 "_law_pot" = true)
    (k24 : PySem.W.keepIn K (.ref f24) = true)
    (a25 : PySem.W.nsIn K mainGlobals "_law_take" = some (some (.ref f25)))
    (l25 : K.lookup f25 = some ⟨oc25, od25, .func (PySem.W.fnOf "_law_take" "_law_take" (defArgs s_l_take) (defBody s_l_take) (defScope s_l_take) .none kV25 dc25 pm25 an25 cd25 ct25), sl25⟩)
    (c25 : PySem.W.codeIn K cd25 "_law_take" = true)
    (k25 : PySem.W.keepIn K (.ref f25) = true)
    (a26 : PySem.W.nsIn K mainGlobals "_law_pots" = some (some (.ref f26)))
    (l26 : K.lookup f26 = some ⟨oc26, od26, .func (PySem.W.fnOf "_law_pots" "_law_pots" (defArgs s_l_pots) (defBody s_l_pots) (defScope s_l_pots) .none kV26 dc26 pm26 an26 cd26 ct26), sl26⟩)
    (c26 : PySem.W.codeIn K cd26 "_law_pots" = true)
    (k26 : PySem.W.keepIn K (.ref f26) = true)
    (a27 : PySem.W.nsIn K mainGlobals "_law_of" = some (some (.ref f27)))
    (l27 : K.lookup f27 = some ⟨oc27, od27, .func (PySem.W.fnOf "_law_of" "_law_of" (defArgs s_l_of) (defBody s_l_of) (defScope s_l_of) .none kV27 dc27 pm27 an27 cd27 ct27), sl27⟩)
    (c27 : PySem.W.codeIn K cd27 "_law_of" = true)
    (k27 : PySem.W.keepIn K (.ref f27) = true)
    (a28 : PySem.W.nsIn K mainGlobals "_law_turned" = some (some (.ref f28)))
    (l28 : K.lookup f28 = some ⟨oc28, od28, .func (PySem.W.fnOf "_law_turned" "_law_turned" (defArgs s_l_turned) (defBody s_l_turned) (defScope s_l_turned) .none kV28 dc28 pm28 an28 cd28 ct28), sl28⟩)
    (c28 : PySem.W.codeIn K cd28 "_law_turned" = true)
    (k28 : PySem.W.keepIn K (.ref f28) = true)
    (a29 : PySem.W.nsIn K mainGlobals "_law_names" = some (some (.ref f29)))
    (l29 : K.lookup f29 = some ⟨oc29, od29, .func (PySem.W.fnOf "_law_names" "_law_names" (defArgs s_l_names) (defBody s_l_names) (defScope s_l_names) .none kV29 dc29 pm29 an29 cd29 ct29), sl29⟩)
    (c29 : PySem.W.codeIn K cd29 "_law_names" = true)
    (k29 : PySem.W.keepIn K (.ref f29) = true)
    (a30 : PySem.W.nsIn K mainGlobals "_law_far" = some (some (.ref f30)))
    (l30 : K.lookup f30 = some ⟨oc30, od30, .func (PySem.W.fnOf "_law_far" "_law_far" (defArgs s_l_far) (defBody s_l_far) (defScope s_l_far) .none kV30 dc30 pm30 an30 cd30 ct30), sl30⟩)
    (c30 : PySem.W.codeIn K cd30 "_law_far" = true)
    (k30 : PySem.W.keepIn K (.ref f30) = true)
    (a31 : PySem.W.nsIn K mainGlobals "_law_odd" = some (some (.ref f31)))
    (l31 : K.lookup f31 = some ⟨oc31, od31, .func (PySem.W.fnOf "_law_odd" "_law_odd" (defArgs s_l_odd) (defBody s_l_odd) (defScope s_l_odd) .none kV31 dc31 pm31 an31 cd31 ct31), sl31⟩)
    (c31 : PySem.W.codeIn K cd31 "_law_odd" = true)
    (k31 : PySem.W.keepIn K (.ref f31) = true)
    (a32 : PySem.W.nsIn K mainGlobals "_law_bent_part" = some (some (.ref f32)))
    (l32 : K.lookup f32 = some ⟨oc32, od32, .func (PySem.W.fnOf "_law_bent_part" "_law_bent_part" (defArgs s_l_bent_part) (defBody s_l_bent_part) (defScope s_l_bent_part) .none kV32 dc32 pm32 an32 cd32 ct32), sl32⟩)
    (c32 : PySem.W.codeIn K cd32 "_law_bent_part" = true)
    (k32 : PySem.W.keepIn K (.ref f32) = true)
    (a33 : PySem.W.nsIn K mainGlobals "_law_bent" = some (some (.ref f33)))
    (l33 : K.lookup f33 = some ⟨oc33, od33, .func (PySem.W.fnOf "_law_bent" "_law_bent" (defArgs s_l_bent) (defBody s_l_bent) (defScope s_l_bent) .none kV33 dc33 pm33 an33 cd33 ct33), sl33⟩)
    (c33 : PySem.W.codeIn K cd33 "_law_bent" = true)
    (k33 : PySem.W.keepIn K (.ref f33) = true)
    (a34 : PySem.W.nsIn K mainGlobals "_law_caught" = some (some (.ref f34)))
    (l34 : K.lookup f34 = some ⟨oc34, od34, .func (PySem.W.fnOf "_law_caught" "_law_caught" (defArgs s_l_caught) (defBody s_l_caught) (defScope s_l_caught) .none kV34 dc34 pm34 an34 cd34 ct34), sl34⟩)
    (c34 : PySem.W.codeIn K cd34 "_law_caught" = true)
    (k34 : PySem.W.keepIn K (.ref f34) = true)
    (a35 : PySem.W.nsIn K mainGlobals "_law_is_from" = some (some (.ref f35)))
    (l35 : K.lookup f35 = some ⟨oc35, od35, .func (PySem.W.fnOf "_law_is_from" "_law_is_from" (defArgs s_l_is_from) (defBody s_l_is_from) (defScope s_l_is_from) .none kV35 dc35 pm35 an35 cd35 ct35), sl35⟩)
    (c35 : PySem.W.codeIn K cd35 "_law_is_from" = true)
    (k35 : PySem.W.keepIn K (.ref f35) = true)
    (a36 : PySem.W.nsIn K mainGlobals "_law_is_name" = some (some (.ref f36)))
    (l36 : K.lookup f36 = some ⟨oc36, od36, .func (PySem.W.fnOf "_law_is_name" "_law_is_name" (defArgs s_l_is_name) (defBody s_l_is_name) (defScope s_l_is_name) .none kV36 dc36 pm36 an36 cd36 ct36), sl36⟩)
    (c36 : PySem.W.codeIn K cd36 "_law_is_name" = true)
    (k36 : PySem.W.keepIn K (.ref f36) = true)
    (a37 : PySem.W.nsIn K mainGlobals "_law_is_number" = some (some (.ref f37)))
    (l37 : K.lookup f37 = some ⟨oc37, od37, .func (PySem.W.fnOf "_law_is_number" "_law_is_number" (defArgs s_l_is_number) (defBody s_l_is_number) (defScope s_l_is_number) .none kV37 dc37 pm37 an37 cd37 ct37), sl37⟩)
    (c37 : PySem.W.codeIn K cd37 "_law_is_number" = true)
    (k37 : PySem.W.keepIn K (.ref f37) = true)
    (a38 : PySem.W.nsIn K mainGlobals "_law_event_page" = some (some (.ref f38)))
    (l38 : K.lookup f38 = some ⟨oc38, od38, .func (PySem.W.fnOf "_law_event_page" "_law_event_page" (defArgs s_l_event_page) (defBody s_l_event_page) (defScope s_l_event_page) .none kV38 dc38 pm38 an38 cd38 ct38), sl38⟩)
    (c38 : PySem.W.codeIn K cd38 "_law_event_page" = true)
    (k38 : PySem.W.keepIn K (.ref f38) = true)
    (a39 : PySem.W.nsIn K mainGlobals "_law_event_read" = some (some (.ref f39)))
    (l39 : K.lookup f39 = some ⟨oc39, od39, .func (PySem.W.fnOf "_law_event_read" "_law_event_read" (defArgs s_l_event_read) (defBody s_l_event_read) (defScope s_l_event_read) .none kV39 dc39 pm39 an39 cd39 ct39), sl39⟩)
    (c39 : PySem.W.codeIn K cd39 "_law_event_read" = true)
    (k39 : PySem.W.keepIn K (.ref f39) = true)
    (a40 : PySem.W.nsIn K mainGlobals "_law_is_form" = some (some (.ref f40)))
    (l40 : K.lookup f40 = some ⟨oc40, od40, .func (PySem.W.fnOf "_law_is_form" "_law_is_form" (defArgs s_l_is_form) (defBody s_l_is_form) (defScope s_l_is_form) .none kV40 dc40 pm40 an40 cd40 ct40), sl40⟩)
    (c40 : PySem.W.codeIn K cd40 "_law_is_form" = true)
    (k40 : PySem.W.keepIn K (.ref f40) = true)
    (a41 : PySem.W.nsIn K mainGlobals "_law_bent_page" = some (some (.ref f41)))
    (l41 : K.lookup f41 = some ⟨oc41, od41, .func (PySem.W.fnOf "_law_bent_page" "_law_bent_page" (defArgs s_l_bent_page) (defBody s_l_bent_page) (defScope s_l_bent_page) .none kV41 dc41 pm41 an41 cd41 ct41), sl41⟩)
    (c41 : PySem.W.codeIn K cd41 "_law_bent_page" = true)
    (k41 : PySem.W.keepIn K (.ref f41) = true)
    (a42 : PySem.W.nsIn K mainGlobals "_law_any_event" = some (some (.ref f42)))
    (l42 : K.lookup f42 = some ⟨oc42, od42, .func (PySem.W.fnOf "_law_any_event" "_law_any_event" (defArgs s_l_any_event) (defBody s_l_any_event) (defScope s_l_any_event) .none kV42 dc42 pm42 an42 cd42 ct42), sl42⟩)
    (c42 : PySem.W.codeIn K cd42 "_law_any_event" = true)
    (k42 : PySem.W.keepIn K (.ref f42) = true)
    (a43 : PySem.W.nsIn K mainGlobals "_law_shown" = some (some (.ref f43)))
    (l43 : K.lookup f43 = some ⟨oc43, od43, .func (PySem.W.fnOf "_law_shown" "_law_shown" (defArgs s_l_shown) (defBody s_l_shown) (defScope s_l_shown) .none kV43 dc43 pm43 an43 (.ref cc43) ct43), sl43⟩)
    (c43 : PySem.W.codeIn K (.ref cc43) "_law_shown" = true)
    (k43 : PySem.W.keepIn K (.ref f43) = true)
    (kc43 : K.lookup cc43 = some ⟨ec43, ed43, .fields ev43, es43⟩)
    (ke43 : ev43[11]? = some (.ref T43))
    (ch43 : PySem.W.codeHdIn K cc43 T43 = true)
    (nt43 : K.lookup T43 = none)
    (a44 : PySem.W.nsIn K mainGlobals "_law_read" = some (some (.ref f44)))
    (l44 : K.lookup f44 = some ⟨oc44, od44, .func (PySem.W.fnOf "_law_read" "_law_read" (defArgs s_l_read) (defBody s_l_read) (defScope s_l_read) .none kV44 dc44 pm44 an44 (.ref cc44) ct44), sl44⟩)
    (c44 : PySem.W.codeIn K (.ref cc44) "_law_read" = true)
    (k44 : PySem.W.keepIn K (.ref f44) = true)
    (kc44 : K.lookup cc44 = some ⟨ec44, ed44, .fields ev44, es44⟩)
    (ke44 : ev44[11]? = some (.ref T44))
    (ch44 : PySem.W.codeHdIn K cc44 T44 = true)
    (nt44 : K.lookup T44 = none)
    (a45 : PySem.W.nsIn K mainGlobals "_law_shown_due" = some (some (.ref f45)))
    (l45 : K.lookup f45 = some ⟨oc45, od45, .func (PySem.W.fnOf "_law_shown_due" "_law_shown_due" (defArgs s_l_shown_due) (defBody s_l_shown_due) (defScope s_l_shown_due) .none kV45 dc45 pm45 an45 cd45 ct45), sl45⟩)
    (c45 : PySem.W.codeIn K cd45 "_law_shown_due" = true)
    (k45 : PySem.W.keepIn K (.ref f45) = true)
    (a46 : PySem.W.nsIn K mainGlobals "_law_read_due" = some (some (.ref f46)))
    (l46 : K.lookup f46 = some ⟨oc46, od46, .func (PySem.W.fnOf "_law_read_due" "_law_read_due" (defArgs s_l_read_due) (defBody s_l_read_due) (defScope s_l_read_due) .none kV46 dc46 pm46 an46 cd46 ct46), sl46⟩)
    (c46 : PySem.W.codeIn K cd46 "_law_read_due" = true)
    (k46 : PySem.W.keepIn K (.ref f46) = true)
    (a47 : PySem.W.nsIn K mainGlobals "_law_fine" = some (some (.ref f47)))
    (l47 : K.lookup f47 = some ⟨oc47, od47, .func (PySem.W.fnOf "_law_fine" "_law_fine" (defArgs s_l_fine) (defBody s_l_fine) (defScope s_l_fine) .none kV47 dc47 pm47 an47 cd47 ct47), sl47⟩)
    (c47 : PySem.W.codeIn K cd47 "_law_fine" = true)
    (k47 : PySem.W.keepIn K (.ref f47) = true)
    (a48 : PySem.W.nsIn K mainGlobals "law" = some (some (.ref f48)))
    (l48 : K.lookup f48 = some ⟨oc48, od48, .func (PySem.W.fnOf "law" "law" (defArgs s_law) (defBody s_law) (defScope s_law) .none kV48 dc48 pm48 an48 cd48 ct48), sl48⟩)
    (c48 : PySem.W.codeIn K cd48 "law" = true)
    (k48 : PySem.W.keepIn K (.ref f48) = true)
    (aC1 : PySem.W.nsIn K mainGlobals "NetError" = some (some (.ref C1)))
    (xL1 : K.lookup C1 = some (excClassObj nm1 q1 C1 N1 bs1 [.type "ValueError", .type "Exception", .type "BaseException", .type "object"] true sn1 sub1 ab1 col1 dd1 m01 m11 m21 m31 m51 "ValueError.__new__"))
    (aC2 : PySem.W.nsIn K mainGlobals "BadText" = some (some (.ref C2)))
    (xL2 : K.lookup C2 = some (excClassObj nm2 q2 C2 N2 bs2 [.ref C1, .type "ValueError", .type "Exception", .type "BaseException", .type "object"] true sn2 sub2 ab2 col2 dd2 m02 m12 m22 m32 m52 "ValueError.__new__"))
    (sa2 : PySem.W.findIn K (.ref C2) "__setattr__" = some (some (.builtin "object.__setattr__")))
    (ga2 : PySem.W.findIn K (.ref C2) "__getattribute__" = some (some (.builtin "BaseException.__getattribute__")))
    (gg2 : PySem.W.findIn K (.ref C2) "__getattr__" = some none)
    (hc2 : PySem.W.findIn K (.ref C2) "__class__" = some (some (.builtin "object.__class__")))
    (kC2 : PySem.W.keepIn K (.ref C2) = true)
    (ii2 : PySem.W.findIn K (.ref C2) "__init__" = some (some (.ref g2)))
    (gl2 : K.lookup g2 = some ⟨goc2, god2, .func (PySem.W.fnOf "__init__" "BadText.__init__" (defArgs (inClass (topS 2) 0)) (defBody (inClass (topS 2) 0)) (defScope (inClass (topS 2) 0)) .none gkV2 gdc2 gpm2 gan2 gcd2 gct2), gsl2⟩)
    (gc2 : PySem.W.codeIn K gcd2 "BadText.__init__" = true)
    (gk2 : PySem.W.keepIn K (.ref g2) = true)
    (gt2 : PySem.W.typeIn K (.ref g2) = some (.type "function"))
    (no2value : PySem.W.findIn K (.ref C2) "value" = some none)
    (aC3 : PySem.W.nsIn K mainGlobals "BadRun" = some (some (.ref C3)))
    (xL3 : K.lookup C3 = some (excClassObj nm3 q3 C3 N3 bs3 [.ref C1, .type "ValueError", .type "Exception", .type "BaseException", .type "object"] true sn3 sub3 ab3 col3 dd3 m03 m13 m23 m33 m53 "ValueError.__new__"))
    (sa3 : PySem.W.findIn K (.ref C3) "__setattr__" = some (some (.builtin "object.__setattr__")))
    (ga3 : PySem.W.findIn K (.ref C3) "__getattribute__" = some (some (.builtin "BaseException.__getattribute__")))
    (gg3 : PySem.W.findIn K (.ref C3) "__getattr__" = some none)
    (hc3 : PySem.W.findIn K (.ref C3) "__class__" = some (some (.builtin "object.__class__")))
    (kC3 : PySem.W.keepIn K (.ref C3) = true)
    (ii3 : PySem.W.findIn K (.ref C3) "__init__" = some (some (.ref g3)))
    (gl3 : K.lookup g3 = some ⟨goc3, god3, .func (PySem.W.fnOf "__init__" "BadRun.__init__" (defArgs (inClass (topS 3) 0)) (defBody (inClass (topS 3) 0)) (defScope (inClass (topS 3) 0)) .none gkV3 gdc3 gpm3 gan3 gcd3 gct3), gsl3⟩)
    (gc3 : PySem.W.codeIn K gcd3 "BadRun.__init__" = true)
    (gk3 : PySem.W.keepIn K (.ref g3) = true)
    (gt3 : PySem.W.typeIn K (.ref g3) = some (.type "function"))
    (no3value : PySem.W.findIn K (.ref C3) "value" = some none)
    (zabs : PySem.W.nsIn K mainGlobals "abs" = some none)
    (zall : PySem.W.nsIn K mainGlobals "all" = some none)
    (zany : PySem.W.nsIn K mainGlobals "any" = some none)
    (zbool : PySem.W.nsIn K mainGlobals "bool" = some none)
    (zenumerate : PySem.W.nsIn K mainGlobals "enumerate" = some none)
    (zint : PySem.W.nsIn K mainGlobals "int" = some none)
    (zisinstance : PySem.W.nsIn K mainGlobals "isinstance" = some none)
    (zlen : PySem.W.nsIn K mainGlobals "len" = some none)
    (zlist : PySem.W.nsIn K mainGlobals "list" = some none)
    (zmax : PySem.W.nsIn K mainGlobals "max" = some none)
    (zmin : PySem.W.nsIn K mainGlobals "min" = some none)
    (zrange : PySem.W.nsIn K mainGlobals "range" = some none)
    (zrepr : PySem.W.nsIn K mainGlobals "repr" = some none)
    (zset : PySem.W.nsIn K mainGlobals "set" = some none)
    (zsorted : PySem.W.nsIn K mainGlobals "sorted" = some none)
    (zstr : PySem.W.nsIn K mainGlobals "str" = some none)
    (ztuple : PySem.W.nsIn K mainGlobals "tuple" = some none)
    (zzip : PySem.W.nsIn K mainGlobals "zip" = some none)
    (vLONGEST_NAME : PySem.W.nsIn K mainGlobals "LONGEST_NAME" = some (some (.int 8 tLONGEST_NAME)))
    (vMOST_DIGITS : PySem.W.nsIn K mainGlobals "MOST_DIGITS" = some (some (.int 9 tMOST_DIGITS)))
    (aTFORMS : PySem.W.nsIn K mainGlobals "FORMS" = some (some (.ref dFORMS)))
    (lTFORMS : K.lookup dFORMS = some ⟨.type "dict", none, .dict esFORMS nnFORMS, #[]⟩)
    (mTFORMS : (dFORMS == sysModules) = false)
    (pTFORMS : RZ.Pairs w.params esFORMS.toList [("set", "rrll"), ("out", "rr"), ("learn", "r"), ("send", "rr"), ("hop", "pr"), ("drop", "p")])
    (aUOF_A_LINK : PySem.W.nsIn K mainGlobals "OF_A_LINK" = some (some (.ref dOF_A_LINK)))
    (lUOF_A_LINK : K.lookup dOF_A_LINK = some ⟨.type "tuple", odOF_A_LINK, .seq itOF_A_LINK nnOF_A_LINK, slOF_A_LINK⟩)
    (sUOF_A_LINK : itOF_A_LINK.size = 2)
    (pUOF_A_LINK : Vals [.str "set", .str "out"] itOF_A_LINK.toList)
    (inj : ([C1, C2, C3] : List Addr).Nodup)
    (neT : T43 ≠ T44)
    (hn : PySem.W.specialIn K (.builtin "object.__class__") "__get__" = some (some (.builtin "getset_descriptor.__get__")))
    (ht : PySem.W.takesIn K (.builtin "object.__class__") = some true) :
    ∃ (fd : FuncData) (c1 P1 c2 P2 : Addr), OneTab K mg "_law_shown" c1 P1 ∧ OneTab K mg "_law_read" c2 P2 ∧ (∀ (s : Shared) (v : Value), BindsTo s fd ⟨[v], []⟩ [("_law_script", v)]) ∧
      ∀ base : Heap, K.In base → base.Ns mainGlobals mg → LamX.TabB base mg c1 P1 → LamX.TabB base mg c2 P2 → FnG P w K mg base CX0 17 fl fd ["_law_script"] (spLaw P1 P2 K) := by
  have e := hfl.symm.trans (PySem.W.mg_of X G a48)
  obtain rfl : f48 = fl := by
    injection e with e
    injection e with e
    exact e.symm
  let dF : FuncData := (PySem.W.fnOf "law" "law" (defArgs s_law) (defBody s_law) (defScope s_law) .none kV48 dc48 pm48 an48 cd48 ct48)
  have T : Txt w K mg (fun i => ([0, C1, C2, C3] : List Addr).getD i 0) (fun i => ([0, 0, g2, g3] : List Addr).getD i 0) (fun i => ([0, 0, 0, 0, 0, 0, f6, f7, f8, 0, 0, 0, 0, f13, f14, f15, f16, f17, 0, f19, f20, f21, f22, 0, f24, f25, f26, f27, f28, f29, f30, f31, f32, f33, f34, f35, f36, f37, f38, f39, f40, f41, f42, f43, f44, f45, f46, f47, f48] : List Addr).getD i 0) (fun i => ([(PySem.W.fnOf "law" "law" (defArgs s_law) (defBody s_law) (defScope s_law) .none kV48 dc48 pm48 an48 cd48 ct48), (PySem.W.fnOf "law" "law" (defArgs s_law) (defBody s_law) (defScope s_law) .none kV48 dc48 pm48 an48 cd48 ct48), (PySem.W.fnOf "law" "law" (defArgs s_law) (defBody s_law) (defScope s_law) .none kV48 dc48 pm48 an48 cd48 ct48), (PySem.W.fnOf "law" "law" (defArgs s_law) (defBody s_law) (defScope s_law) .none kV48 dc48 pm48 an48 cd48 ct48), (PySem.W.fnOf "law" "law" (defArgs s_law) (defBody s_law) (defScope s_law) .none kV48 dc48 pm48 an48 cd48 ct48), (PySem.W.fnOf "law" "law" (defArgs s_law) (defBody s_law) (defScope s_law) .none kV48 dc48 pm48 an48 cd48 ct48), (PySem.W.fnOf "is_integer" "is_integer" (defArgs s_is_integer) (defBody s_is_integer) (defScope s_is_integer) .none kV6 dc6 pm6 an6 cd6 ct6), (PySem.W.fnOf "is_integer_from" "is_integer_from" (defArgs s_is_integer_from) (defBody s_is_integer_from) (defScope s_is_integer_from) .none kV7 dc7 pm7 an7 cd7 ct7), (PySem.W.fnOf "is_name" "is_name" (defArgs s_is_name) (defBody s_is_name) (defScope s_is_name) .none kV8 dc8 pm8 an8 cd8 ct8), (PySem.W.fnOf "law" "law" (defArgs s_law) (defBody s_law) (defScope s_law) .none kV48 dc48 pm48 an48 cd48 ct48), (PySem.W.fnOf "law" "law" (defArgs s_law) (defBody s_law) (defScope s_law) .none kV48 dc48 pm48 an48 cd48 ct48), (PySem.W.fnOf "law" "law" (defArgs s_law) (defBody s_law) (defScope s_law) .none kV48 dc48 pm48 an48 cd48 ct48), (PySem.W.fnOf "law" "law" (defArgs s_law) (defBody s_law) (defScope s_law) .none kV48 dc48 pm48 an48 cd48 ct48), (PySem.W.fnOf "is_event" "is_event" (defArgs s_is_event) (defBody s_is_event) (defScope s_is_event) .none kV13 dc13 pm13 an13 cd13 ct13), (PySem.W.fnOf "is_part" "is_part" (defArgs s_is_part) (defBody s_is_part) (defScope s_is_part) .none kV14 dc14 pm14 an14 cd14 ct14), (PySem.W.fnOf "row_of" "row_of" (defArgs s_row_of) (defBody s_row_of) (defScope s_row_of) .none kV15 dc15 pm15 an15 cd15 ct15), (PySem.W.fnOf "event_of" "event_of" (defArgs s_event_of) (defBody s_event_of) (defScope s_event_of) .none kV16 dc16 pm16 an16 cd16 ct16), (PySem.W.fnOf "number_of" "number_of" (defArgs s_number_of) (defBody s_number_of) (defScope s_number_of) .none kV17 dc17 pm17 an17 cd17 ct17), (PySem.W.fnOf "law" "law" (defArgs s_law) (defBody s_law) (defScope s_law) .none kV48 dc48 pm48 an48 cd48 ct48), (PySem.W.fnOf "show_run" "show_run" (defArgs s_show_run) (defBody s_show_run) (defScope s_show_run) .none kV19 dc19 pm19 an19 cd19 ct19), (PySem.W.fnOf "read_run" "read_run" (defArgs s_read_run) (defBody s_read_run) (defScope s_read_run) .none kV20 dc20 pm20 an20 cd20 ct20), (PySem.W.fnOf "rows_of" "rows_of" (defArgs s_rows_of) (defBody s_rows_of) (defScope s_rows_of) .none kV21 dc21 pm21 an21 cd21 ct21), (PySem.W.fnOf "events_of" "events_of" (defArgs s_events_of) (defBody s_events_of) (defScope s_events_of) .none kV22 dc22 pm22 an22 cd22 ct22), (PySem.W.fnOf "law" "law" (defArgs s_law) (defBody s_law) (defScope s_law) .none kV48 dc48 pm48 an48 cd48 ct48), (PySem.W.fnOf "_law_pot" "_law_pot" (defArgs s_l_pot) (defBody s_l_pot) (defScope s_l_pot) .none kV24 dc24 pm24 an24 cd24 ct24), (PySem.W.fnOf "_law_take" "_law_take" (defArgs s_l_take) (defBody s_l_take) (defScope s_l_take) .none kV25 dc25 pm25 an25 cd25 ct25), (PySem.W.fnOf "_law_pots" "_law_pots" (defArgs s_l_pots) (defBody s_l_pots) (defScope s_l_pots) .none kV26 dc26 pm26 an26 cd26 ct26), (PySem.W.fnOf "_law_of" "_law_of" (defArgs s_l_of) (defBody s_l_of) (defScope s_l_of) .none kV27 dc27 pm27 an27 cd27 ct27), (PySem.W.fnOf "_law_turned" "_law_turned" (defArgs s_l_turned) (defBody s_l_turned) (defScope s_l_turned) .none kV28 dc28 pm28 an28 cd28 ct28), (PySem.W.fnOf "_law_names" "_law_names" (defArgs s_l_names) (defBody s_l_names) (defScope s_l_names) .none kV29 dc29 pm29 an29 cd29 ct29), (PySem.W.fnOf "_law_far" "_law_far" (defArgs s_l_far) (defBody s_l_far) (defScope s_l_far) .none kV30 dc30 pm30 an30 cd30 ct30), (PySem.W.fnOf "_law_odd" "_law_odd" (defArgs s_l_odd) (defBody s_l_odd) (defScope s_l_odd) .none kV31 dc31 pm31 an31 cd31 ct31), (PySem.W.fnOf "_law_bent_part" "_law_bent_part" (defArgs s_l_bent_part) (defBody s_l_bent_part) (defScope s_l_bent_part) .none kV32 dc32 pm32 an32 cd32 ct32), (PySem.W.fnOf "_law_bent" "_law_bent" (defArgs s_l_bent) (defBody s_l_bent) (defScope s_l_bent) .none kV33 dc33 pm33 an33 cd33 ct33), (PySem.W.fnOf "_law_caught" "_law_caught" (defArgs s_l_caught) (defBody s_l_caught) (defScope s_l_caught) .none kV34 dc34 pm34 an34 cd34 ct34), (PySem.W.fnOf "_law_is_from" "_law_is_from" (defArgs s_l_is_from) (defBody s_l_is_from) (defScope s_l_is_from) .none kV35 dc35 pm35 an35 cd35 ct35), (PySem.W.fnOf "_law_is_name" "_law_is_name" (defArgs s_l_is_name) (defBody s_l_is_name) (defScope s_l_is_name) .none kV36 dc36 pm36 an36 cd36 ct36), (PySem.W.fnOf "_law_is_number" "_law_is_number" (defArgs s_l_is_number) (defBody s_l_is_number) (defScope s_l_is_number) .none kV37 dc37 pm37 an37 cd37 ct37), (PySem.W.fnOf "_law_event_page" "_law_event_page" (defArgs s_l_event_page) (defBody s_l_event_page) (defScope s_l_event_page) .none kV38 dc38 pm38 an38 cd38 ct38), (PySem.W.fnOf "_law_event_read" "_law_event_read" (defArgs s_l_event_read) (defBody s_l_event_read) (defScope s_l_event_read) .none kV39 dc39 pm39 an39 cd39 ct39), (PySem.W.fnOf "_law_is_form" "_law_is_form" (defArgs s_l_is_form) (defBody s_l_is_form) (defScope s_l_is_form) .none kV40 dc40 pm40 an40 cd40 ct40), (PySem.W.fnOf "_law_bent_page" "_law_bent_page" (defArgs s_l_bent_page) (defBody s_l_bent_page) (defScope s_l_bent_page) .none kV41 dc41 pm41 an41 cd41 ct41), (PySem.W.fnOf "_law_any_event" "_law_any_event" (defArgs s_l_any_event) (defBody s_l_any_event) (defScope s_l_any_event) .none kV42 dc42 pm42 an42 cd42 ct42), (PySem.W.fnOf "_law_shown" "_law_shown" (defArgs s_l_shown) (defBody s_l_shown) (defScope s_l_shown) .none kV43 dc43 pm43 an43 (.ref cc43) ct43), (PySem.W.fnOf "_law_read" "_law_read" (defArgs s_l_read) (defBody s_l_read) (defScope s_l_read) .none kV44 dc44 pm44 an44 (.ref cc44) ct44), (PySem.W.fnOf "_law_shown_due" "_law_shown_due" (defArgs s_l_shown_due) (defBody s_l_shown_due) (defScope s_l_shown_due) .none kV45 dc45 pm45 an45 cd45 ct45), (PySem.W.fnOf "_law_read_due" "_law_read_due" (defArgs s_l_read_due) (defBody s_l_read_due) (defScope s_l_read_due) .none kV46 dc46 pm46 an46 cd46 ct46), (PySem.W.fnOf "_law_fine" "_law_fine" (defArgs s_l_fine) (defBody s_l_fine) (defScope s_l_fine) .none kV47 dc47 pm47 an47 cd47 ct47), (PySem.W.fnOf "law" "law" (defArgs s_law) (defBody s_law) (defScope s_law) .none kV48 dc48 pm48 an48 cd48 ct48)] : List FuncData).getD i (PySem.W.fnOf "law" "law" (defArgs s_law) (defBody s_law) (defScope s_law) .none kV48 dc48 pm48 an48 cd48 ct48)) (fun i => ([dF, dF, (PySem.W.fnOf "__init__" "BadText.__init__" (defArgs (inClass (topS 2) 0)) (defBody (inClass (topS 2) 0)) (defScope (inClass (topS 2) 0)) .none gkV2 gdc2 gpm2 gan2 gcd2 gct2), (PySem.W.fnOf "__init__" "BadRun.__init__" (defArgs (inClass (topS 3) 0)) (defBody (inClass (topS 3) 0)) (defScope (inClass (topS 3) 0)) .none gkV3 gdc3 gpm3 gan3 gcd3 gct3)] : List FuncData).getD i dF) :=
    { F_is_integer := fun_mk (st := s_is_integer) l6 c6 k6
      g_is_integer := PySem.W.mg_of X G a6
      F_is_integer_from := fun_mk (st := s_is_integer_from) l7 c7 k7
      g_is_integer_from := PySem.W.mg_of X G a7
      F_is_name := fun_mk (st := s_is_name) l8 c8 k8
      g_is_name := PySem.W.mg_of X G a8
      F_is_event := fun_mk (st := s_is_event) l13 c13 k13
      g_is_event := PySem.W.mg_of X G a13
      F_is_part := fun_mk (st := s_is_part) l14 c14 k14
      g_is_part := PySem.W.mg_of X G a14
      F_row_of := fun_mk (st := s_row_of) l15 c15 k15
      g_row_of := PySem.W.mg_of X G a15
      F_event_of := fun_mk (st := s_event_of) l16 c16 k16
      g_event_of := PySem.W.mg_of X G a16
      F_number_of := fun_mk (st := s_number_of) l17 c17 k17
      g_number_of := PySem.W.mg_of X G a17
      F_show_run := fun_mk (st := s_show_run) l19 c19 k19
      g_show_run := PySem.W.mg_of X G a19
      F_read_run := fun_mk (st := s_read_run) l20 c20 k20
      g_read_run := PySem.W.mg_of X G a20
      F_rows_of := fun_mk (st := s_rows_of) l21 c21 k21
      g_rows_of := PySem.W.mg_of X G a21
      F_events_of := fun_mk (st := s_events_of) l22 c22 k22
      g_events_of := PySem.W.mg_of X G a22
      F_l_pot := fun_mk (st := s_l_pot) l24 c24 k24
      g_l_pot := PySem.W.mg_of X G a24
      F_l_take := fun_mk (st := s_l_take) l25 c25 k25
      g_l_take := PySem.W.mg_of X G a25
      F_l_pots := fun_mk (st := s_l_pots) l26 c26 k26
      g_l_pots := PySem.W.mg_of X G a26
      F_l_of := fun_mk (st := s_l_of) l27 c27 k27
      g_l_of := PySem.W.mg_of X G a27
      F_l_turned := fun_mk (st := s_l_turned) l28 c28 k28
      g_l_turned := PySem.W.mg_of X G a28
      F_l_names := fun_mk (st := s_l_names) l29 c29 k29
      g_l_names := PySem.W.mg_of X G a29
      F_l_far := fun_mk (st := s_l_far) l30 c30 k30
      g_l_far := PySem.W.mg_of X G a30
      F_l_odd := fun_mk (st := s_l_odd) l31 c31 k31
      g_l_odd := PySem.W.mg_of X G a31
      F_l_bent_part := fun_mk (st := s_l_bent_part) l32 c32 k32
      g_l_bent_part := PySem.W.mg_of X G a32
      F_l_bent := fun_mk (st := s_l_bent) l33 c33 k33
      g_l_bent := PySem.W.mg_of X G a33
      F_l_caught := fun_mk (st := s_l_caught) l34 c34 k34
      g_l_caught := PySem.W.mg_of X G a34
      F_l_is_from := fun_mk (st := s_l_is_from) l35 c35 k35
      g_l_is_from := PySem.W.mg_of X G a35
      F_l_is_name := fun_mk (st := s_l_is_name) l36 c36 k36
      g_l_is_name := PySem.W.mg_of X G a36
      F_l_is_number := fun_mk (st := s_l_is_number) l37 c37 k37
      g_l_is_number := PySem.W.mg_of X G a37
      F_l_event_page := fun_mk (st := s_l_event_page) l38 c38 k38
      g_l_event_page := PySem.W.mg_of X G a38
      F_l_event_read := fun_mk (st := s_l_event_read) l39 c39 k39
      g_l_event_read := PySem.W.mg_of X G a39
      F_l_is_form := fun_mk (st := s_l_is_form) l40 c40 k40
      g_l_is_form := PySem.W.mg_of X G a40
      F_l_bent_page := fun_mk (st := s_l_bent_page) l41 c41 k41
      g_l_bent_page := PySem.W.mg_of X G a41
      F_l_any_event := fun_mk (st := s_l_any_event) l42 c42 k42
      g_l_any_event := PySem.W.mg_of X G a42
      F_l_shown := fun_mk (st := s_l_shown) l43 c43 k43
      g_l_shown := PySem.W.mg_of X G a43
      F_l_read := fun_mk (st := s_l_read) l44 c44 k44
      g_l_read := PySem.W.mg_of X G a44
      F_l_shown_due := fun_mk (st := s_l_shown_due) l45 c45 k45
      g_l_shown_due := PySem.W.mg_of X G a45
      F_l_read_due := fun_mk (st := s_l_read_due) l46 c46 k46
      g_l_read_due := PySem.W.mg_of X G a46
      F_l_fine := fun_mk (st := s_l_fine) l47 c47 k47
      g_l_fine := PySem.W.mg_of X G a47
      F_law := fun_mk (st := s_law) l48 c48 k48
      g_law := PySem.W.mg_of X G a48
      cN := ⟨PySem.W.mg_of X G aC1, ⟨_, _, _, _, _, _, _, _, _, _, _, _, _, _, xL1⟩⟩
      c_BadText := ⟨PySem.W.mg_of X G aC2, ⟨_, _, _, _, _, _, _, _, _, _, _, _, _, _, xL2⟩, sa2, ga2, gg2, hc2, kC2⟩
      FI_BadText := fun_mk (st := inClass (topS 2) 0) gl2 gc2 gk2
      iC_BadText := ii2
      tI_BadText := gt2
      no_BadText_value := no2value
      c_BadRun := ⟨PySem.W.mg_of X G aC3, ⟨_, _, _, _, _, _, _, _, _, _, _, _, _, _, xL3⟩, sa3, ga3, gg3, hc3, kC3⟩
      FI_BadRun := fun_mk (st := inClass (topS 3) 0) gl3 gc3 gk3
      iC_BadRun := ii3
      tI_BadRun := gt3
      no_BadRun_value := no3value
      n_abs := PySem.W.mg_none_of X G zabs
      n_all := PySem.W.mg_none_of X G zall
      n_any := PySem.W.mg_none_of X G zany
      n_bool := PySem.W.mg_none_of X G zbool
      n_enumerate := PySem.W.mg_none_of X G zenumerate
      n_int := PySem.W.mg_none_of X G zint
      n_isinstance := PySem.W.mg_none_of X G zisinstance
      n_len := PySem.W.mg_none_of X G zlen
      n_list := PySem.W.mg_none_of X G zlist
      n_max := PySem.W.mg_none_of X G zmax
      n_min := PySem.W.mg_none_of X G zmin
      n_range := PySem.W.mg_none_of X G zrange
      n_repr := PySem.W.mg_none_of X G zrepr
      n_set := PySem.W.mg_none_of X G zset
      n_sorted := PySem.W.mg_none_of X G zsorted
      n_str := PySem.W.mg_none_of X G zstr
      n_tuple := PySem.W.mg_none_of X G ztuple
      n_zip := PySem.W.mg_none_of X G zzip
      v_LONGEST_NAME := ⟨tLONGEST_NAME, PySem.W.mg_of X G vLONGEST_NAME⟩
      v_MOST_DIGITS := ⟨tMOST_DIGITS, PySem.W.mg_of X G vMOST_DIGITS⟩
      v_FORMS := ⟨dFORMS, PySem.W.mg_of X G aTFORMS, esFORMS, nnFORMS, lTFORMS, mTFORMS, pTFORMS⟩
      v_OF_A_LINK := ⟨dOF_A_LINK, PySem.W.mg_of X G aUOF_A_LINK, fun H => .inr ⟨_, itOF_A_LINK, nnOF_A_LINK, lUOF_A_LINK, rfl, rfl, by rw [sUOF_A_LINK, sizeLine_eq]; decide, pUOF_A_LINK⟩⟩
      nd := inj
      hn := hn
      ht := ht }
  exact ⟨(PySem.W.fnOf "law" "law" (defArgs s_law) (defBody s_law) (defScope s_law) .none kV48 dc48 pm48 an48 cd48 ct48), cc43, T43, cc44, T44, ⟨f43, _, _, PySem.W.mg_of X G a43, l43, rfl, rfl, ch43, nt43⟩, ⟨f44, _, _, PySem.W.mg_of X G a44, l44, rfl, rfl, ch44, nt44⟩, fun s v => .of_eq rfl,
    fun base _ _ t1 t2 => ok_law T ⟨⟨_, _, _, _, _, _, _, _, rfl, l43, c43⟩⟩ ⟨⟨_, _, _, _, _, _, _, _, rfl, l44, c44⟩⟩ ⟨t1, t2, neT⟩⟩

end Toy
set_option Elab.async false
open PySem PySem.W PyProof.Rows in
set_option maxRecDepth 100000 in
set_option maxHeartbeats 0 in
theorem PySem.Challenge.cw_quietturns_k65_runs_as_texts_holds : PySem.Challenge.rw_quietturns_k65_runs_as_texts.Holds := by
  w_on; o_law; k_head; (case hw => w_witness2)
  k_fill
  refine Q.walkTG (l := PySem.Challenge.rw_quietturns_k65_runs_as_texts) (n := 63) (k := 17) (x := "_law_script") (n1 := "_law_shown") (n2 := "_law_read") (sp := Toy.spLaw) rfl (by decide) rfl ⟨rfl, by decide, by decide⟩ (by decide +kernel) (by decide +kernel) (fun w h Y => PySem.W.km_in_of Y) ?F
    (fun P1 P2 K H a ns hn h1 h2 hS => ⟨a, ns, rfl, hS, hn, fun p hp => ?_, fun _ => rfl⟩)
  case F =>
    intro w mg fa h KX G hmg
    refine' Toy.all_mk KX G hmg ?a6 ?l6 ?c6 ?k6 ?a7 ?l7 ?c7 ?k7 ?a8 ?l8 ?c8 ?k8 ?a13 ?l13 ?c13 ?k13 ?a14 ?l14 ?c14 ?k14 ?a15 ?l15 ?c15 ?k15 ?a16 ?l16 ?c16 ?k16 ?a17 ?l17 ?c17 ?k17 ?a19 ?l19 ?c19 ?k19 ?a20 ?l20 ?c20 ?k20 ?a21 ?l21 ?c21 ?k21 ?a22 ?l22 ?c22 ?k22 ?a24 ?l24 ?c24 ?k24 ?a25 ?l25 ?c25 ?k25 ?a26 ?l26 ?c26 ?k26 ?a27 ?l27 ?c27 ?k27 ?a28 ?l28 ?c28 ?k28 ?a29 ?l29 ?c29 ?k29 ?a30 ?l30 ?c30 ?k30 ?a31 ?l31 ?c31 ?k31 ?a32 ?l32 ?c32 ?k32 ?a33 ?l33 ?c33 ?k33 ?a34 ?l34 ?c34 ?k34 ?a35 ?l35 ?c35 ?k35 ?a36 ?l36 ?c36 ?k36 ?a37 ?l37 ?c37 ?k37 ?a38 ?l38 ?c38 ?k38 ?a39 ?l39 ?c39 ?k39 ?a40 ?l40 ?c40 ?k40 ?a41 ?l41 ?c41 ?k41 ?a42 ?l42 ?c42 ?k42 ?a43 ?l43 ?c43 ?k43 ?kc43 ?ke43 ?ch43 ?nt43 ?a44 ?l44 ?c44 ?k44 ?kc44 ?ke44 ?ch44 ?nt44 ?a45 ?l45 ?c45 ?k45 ?a46 ?l46 ?c46 ?k46 ?a47 ?l47 ?c47 ?k47 ?a48 ?l48 ?c48 ?k48 ?aC1 ?xL1 ?aC2 ?xL2 ?sa2 ?ga2 ?gg2 ?hc2 ?kC2 ?ii2 ?gl2 ?gc2 ?gk2 ?gt2 ?no2value ?aC3 ?xL3 ?sa3 ?ga3 ?gg3 ?hc3 ?kC3 ?ii3 ?gl3 ?gc3 ?gk3 ?gt3 ?no3value ?zabs ?zall ?zany ?zbool ?zenumerate ?zint ?zisinstance ?zlen ?zlist ?zmax ?zmin ?zrange ?zrepr ?zset ?zsorted ?zstr ?ztuple ?zzip ?vLONGEST_NAME ?vMOST_DIGITS ?aTFORMS ?lTFORMS ?mTFORMS ?pTFORMS ?aUOF_A_LINK ?lUOF_A_LINK ?sUOF_A_LINK ?pUOF_A_LINK ?inj ?neT ?hn ?ht
    (case a6 => k_is)
    (case l6 => k_is)
    (case c6 => k_is)
    (case k6 => k_is)
    (case a7 => k_is)
    (case l7 => k_is)
    (case c7 => k_is)
    (case k7 => k_is)
    (case a8 => k_is)
    (case l8 => k_is)
    (case c8 => k_is)
    (case k8 => k_is)
    (case a13 => k_is)
    (case l13 => k_is)
    (case c13 => k_is)
    (case k13 => k_is)
    (case a14 => k_is)
    (case l14 => k_is)
    (case c14 => k_is)
    (case k14 => k_is)
    (case a15 => k_is)
    (case l15 => k_is)
    (case c15 => k_is)
    (case k15 => k_is)
    (case a16 => k_is)
    (case l16 => k_is)
    (case c16 => k_is)
    (case k16 => k_is)
    (case a17 => k_is)
    (case l17 => k_is)
    (case c17 => k_is)
    (case k17 => k_is)
    (case a19 => k_is)
    (case l19 => k_is)
    (case c19 => k_is)
    (case k19 => k_is)
    (case a20 => k_is)
    (case l20 => k_is)
    (case c20 => k_is)
    (case k20 => k_is)
    (case a21 => k_is)
    (case l21 => k_is)
    (case c21 => k_is)
    (case k21 => k_is)
    (case a22 => k_is)
    (case l22 => k_is)
    (case c22 => k_is)
    (case k22 => k_is)
    (case a24 => k_is)
    (case l24 => k_is)
    (case c24 => k_is)
    (case k24 => k_is)
    (case a25 => k_is)
    (case l25 => k_is)
    (case c25 => k_is)
    (case k25 => k_is)
    (case a26 => k_is)
    (case l26 => k_is)
    (case c26 => k_is)
    (case k26 => k_is)
    (case a27 => k_is)
    (case l27 => k_is)
    (case c27 => k_is)
    (case k27 => k_is)
    (case a28 => k_is)
    (case l28 => k_is)
    (case c28 => k_is)
    (case k28 => k_is)
    (case a29 => k_is)
    (case l29 => k_is)
    (case c29 => k_is)
    (case k29 => k_is)
    (case a30 => k_is)
    (case l30 => k_is)
    (case c30 => k_is)
    (case k30 => k_is)
    (case a31 => k_is)
    (case l31 => k_is)
    (case c31 => k_is)
    (case k31 => k_is)
    (case a32 => k_is)
    (case l32 => k_is)
    (case c32 => k_is)
    (case k32 => k_is)
    (case a33 => k_is)
    (case l33 => k_is)
    (case c33 => k_is)
    (case k33 => k_is)
    (case a34 => k_is)
    (case l34 => k_is)
    (case c34 => k_is)
    (case k34 => k_is)
    (case a35 => k_is)
    (case l35 => k_is)
    (case c35 => k_is)
    (case k35 => k_is)
    (case a36 => k_is)
    (case l36 => k_is)
    (case c36 => k_is)
    (case k36 => k_is)
    (case a37 => k_is)
    (case l37 => k_is)
    (case c37 => k_is)
    (case k37 => k_is)
    (case a38 => k_is)
    (case l38 => k_is)
    (case c38 => k_is)
    (case k38 => k_is)
    (case a39 => k_is)
    (case l39 => k_is)
    (case c39 => k_is)
    (case k39 => k_is)
    (case a40 => k_is)
    (case l40 => k_is)
    (case c40 => k_is)
    (case k40 => k_is)
    (case a41 => k_is)
    (case l41 => k_is)
    (case c41 => k_is)
    (case k41 => k_is)
    (case a42 => k_is)
    (case l42 => k_is)
    (case c42 => k_is)
    (case k42 => k_is)
    (case a43 => k_is)
    (case l43 => k_is)
    (case c43 => k_is)
    (case k43 => k_is)
    (case kc43 => k_is)
    (case ke43 => first | rfl | k_is)
    (case ch43 => first | kernel_rfl | decide +kernel | rfl)
    (case nt43 => first | rfl | k_is)
    (case a44 => k_is)
    (case l44 => k_is)
    (case c44 => k_is)
    (case k44 => k_is)
    (case kc44 => k_is)
    (case ke44 => first | rfl | k_is)
    (case ch44 => first | kernel_rfl | decide +kernel | rfl)
    (case nt44 => first | rfl | k_is)
    (case a45 => k_is)
    (case l45 => k_is)
    (case c45 => k_is)
    (case k45 => k_is)
    (case a46 => k_is)
    (case l46 => k_is)
    (case c46 => k_is)
    (case k46 => k_is)
    (case a47 => k_is)
    (case l47 => k_is)
    (case c47 => k_is)
    (case k47 => k_is)
    (case a48 => k_is)
    (case l48 => k_is)
    (case c48 => k_is)
    (case k48 => k_is)
    (case aC1 => k_is)
    (case xL1 => k_is)
    (case aC2 => k_is)
    (case xL2 => k_is)
    (case sa2 => k_is)
    (case ga2 => k_is)
    (case gg2 => k_is)
    (case hc2 => k_is)
    (case kC2 => k_is)
    (case ii2 => k_is)
    (case gl2 => k_is)
    (case gc2 => k_is)
    (case gk2 => k_is)
    (case gt2 => k_is)
    (case no2value => k_is)
    (case aC3 => k_is)
    (case xL3 => k_is)
    (case sa3 => k_is)
    (case ga3 => k_is)
    (case gg3 => k_is)
    (case hc3 => k_is)
    (case kC3 => k_is)
    (case ii3 => k_is)
    (case gl3 => k_is)
    (case gc3 => k_is)
    (case gk3 => k_is)
    (case gt3 => k_is)
    (case no3value => k_is)
    (case zabs => k_is)
    (case zall => k_is)
    (case zany => k_is)
    (case zbool => k_is)
    (case zenumerate => k_is)
    (case zint => k_is)
    (case zisinstance => k_is)
    (case zlen => k_is)
    (case zlist => k_is)
    (case zmax => k_is)
    (case zmin => k_is)
    (case zrange => k_is)
    (case zrepr => k_is)
    (case zset => k_is)
    (case zsorted => k_is)
    (case zstr => k_is)
    (case ztuple => k_is)
    (case zzip => k_is)
    (case vLONGEST_NAME => k_is)
    (case vMOST_DIGITS => k_is)
    (case aTFORMS => k_is)
    (case lTFORMS => k_is)
    (case mTFORMS => first | rfl | decide)
    (case pTFORMS => repeat (first | exact .nil | refine .cons rfl rfl rfl ?_))
    (case aUOF_A_LINK => k_is)
    (case lUOF_A_LINK => k_is)
    (case sUOF_A_LINK => rfl)
    (case pUOF_A_LINK => repeat (first | exact .nil | refine .cons ⟨_, rfl⟩ ?_))
    (case inj => decide)
    (case neT => decide)
    (case hn => k_is)
    (case ht => k_is)
  · rcases List.mem_cons.mp hp with rfl | hp
    · exact LamX.TabS.nil h1
    · rw [List.mem_singleton.mp hp]; exact LamX.TabS.nil h2
